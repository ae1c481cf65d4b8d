import PyProof.Rows.All
import HandS.Zip
import HandS.TupAny
import HandS.RevRange
import HandS.Conv
import HandS.OwnEq
import KE.KDictZip
import Wide.All
import OpenK.AllK
import Wide.FinOn
import HandS.ForMost
import HandS.Walk
import KE.GoesEnum
import KE.GoesMore
import HandS.IsInst
import HandS.StrMore
import PyProof.Rows.StrCut
import PySem.Challenge.RW_namedmeets_k02_whole_texts_of_values
import KE.IntTextLaws
import HandS.Rev
import HandS.Wide
import HandS.Style
import Open.SpecLaws
import KE.OsGo
import HandS.ForExc
set_option Elab.async false
set_option maxRecDepth 100000
set_option maxHeartbeats 4000000
namespace Nm
open PySem PySem.Spec PyProof.Rows L2
/-! ### zip of two tuples, whose pairs are kept: one draw -/
section
variable {prog : Program} {w : World} {A : Around} {E : Value → Shared → Prop} {s : Shared} {z TI TO T i1 i2 a b : Addr} {f : Bool} {oT : Obj} {k : Nat} {xs ys : Array Value} {x y : Value}
/-- a draw while the pair ahead is still there -/
theorem zh_item {Q : Value → Shared → Prop} (D : ZipApart z TI TO i1 i2 a b) (hz : IsZipHeld s.heap z TI TO T f) (hT : s.heap.get? T = some oT) (hI : IsPair s.heap TI (.ref i1) (.ref i2))
    (t1 : s.heap.IsTupleIter i1 a k) (t2 : s.heap.IsTupleIter i2 b k) (p1 : s.heap.IsTuple a xs) (p2 : s.heap.IsTuple b ys) (ex : xs[k]? = some x) (ey : ys[k]? = some y)
    (go : ∀ g, IsZipHeld g z TI TO T true → g.IsTupleIter i1 a (k + 1) → g.IsTupleIter i2 b (k + 1) → IsPair g s.heap.objs.size x y → g.objs.size = s.heap.objs.size + 1 →
      (∀ c o, c ≠ z → c ≠ i1 → c ≠ i2 → s.heap.get? c = some o → g.get? c = some o) → Q (.ref s.heap.objs.size) { s with heap := g }) :
    wpAny (model prog w) A (Builtin.«zip.__next__» ⟨[.ref z], []⟩) (fun fin u => ∃ v, fin = .done (.ret v) ∧ Q v u) E s := by
  show wpAny _ A (field (.ref z) 2 >>= _) _ E s
  refine wpAny_bind (wpAny_field hz rfl (x := .bool false) rfl ?_)
  show wpAny _ A (field (.ref z) 3 >>= _) _ E s
  refine wpAny_bind (wpAny_field hz rfl (x := .ref TI) rfl (wpAny_bind (wpAny_seqItems hI rfl ?_)))
  show wpAny _ A (Builtin.SmallTypes.ownedTupleIsFree (.ref z) >>= _) _ E s
  refine wpAny_bind (wpAny_tupleHeld_zip hz hT fun g1 z1 s1 => ?_)
  simp only [Bool.false_eq_true, if_false]
  refine wpAny_bind ?_
  rw [← Array.forIn_toList]
  simp only [List.forIn_cons, List.forIn_nil]
  refine wpAny_bind (wpAny_bind (wpAny_holding ?_))
  show wpAny _ A (Builtin.SmallTypes.nextOf (.ref i1) >>= _) _ E _
  refine wpAny_bind (RZ.nextOf_tuple_item (s := { s with heap := g1 }) (t1.extBut s1.extBut D.i1z) (p1.extBut s1.extBut D.l1z) ex fun g2 u1 s2 => wpAny_pure (wpAny_pure ?_))
  refine wpAny_bind (wpAny_bind (wpAny_holding ?_))
  show wpAny _ A (Builtin.SmallTypes.nextOf (.ref i2) >>= _) _ E _
  have t2' := (t2.extBut s1.extBut D.i2z).extBut s2.extBut D.i12.symm
  have p2' := (p2.extBut s1.extBut D.l2z).extBut s2.extBut D.l2i1
  refine wpAny_bind (RZ.nextOf_tuple_item (s := { s with heap := g2 }) t2' p2' ey fun g3 u2 s3 => wpAny_pure (wpAny_pure (wpAny_pure ?_)))
  show wpAny _ A (newTuple [x, y] >>= _) _ E _
  refine wpAny_bind (wpAny_newTuple (wpAny_pure ⟨_, rfl, ?_⟩))
  show Q (.ref g3.objs.size) _
  have sz : g3.objs.size = s.heap.objs.size := s3.1.trans (s2.1.trans s1.1)
  have z3 : IsZipHeld g3 z TI TO T true := s3.extBut _ _ D.i2z.symm (s2.extBut _ _ D.i1z.symm z1)
  have v1 := u1.extBut s3.extBut D.i12
  have up : ∀ c o, g3.get? c = some o → (g3.push { cls := .type "tuple", data := .seq #[x, y] }).get? c = some o := fun c o e => Heap.get?_push_of_some _ e
  have pr : IsPair (g3.push { cls := .type "tuple", data := .seq #[x, y] }) g3.objs.size x y := Heap.get?_push_size _ rfl
  have sz4 : (g3.push { cls := .type "tuple", data := .seq #[x, y] }).objs.size = g3.objs.size + 1 := Heap.size_push ..
  rw [sz] at pr sz4 ⊢
  exact go _ (up _ _ z3) (v1.at fun o e => up _ o e) (u2.at fun o e => up _ o e) pr sz4 fun c o c1 c2 c3 e => up _ _ (s3.extBut _ _ c3 (s2.extBut _ _ c2 (s1.extBut _ _ c1 e)))
theorem zh_end {Q : Fin → Shared → Prop} (hh : A.handled = none) (D : ZipApart z TI TO i1 i2 a b) (hz : IsZipHeld s.heap z TI TO T f) (hT : s.heap.get? T = some oT) (hI : IsPair s.heap TI (.ref i1) (.ref i2))
    (t1 : s.heap.IsTupleIter i1 a k) (p1 : s.heap.IsTuple a xs) (ex : xs[k]? = none)
    (out : ∀ g e, (∀ c o, c ≠ z → c ≠ i1 → c ≠ i2 → s.heap.get? c = some o → g.get? c = some o) → (∃ o, g.get? e = some o ∧ o.cls = .type "StopIteration") → E (.ref e) { s with heap := g }) :
    wpAny (model prog w) A (Builtin.«zip.__next__» ⟨[.ref z], []⟩) Q E s := by
  show wpAny _ A (field (.ref z) 2 >>= _) Q E s
  refine wpAny_bind (wpAny_field hz rfl (x := .bool false) rfl ?_)
  show wpAny _ A (field (.ref z) 3 >>= _) Q E s
  refine wpAny_bind (wpAny_field hz rfl (x := .ref TI) rfl (wpAny_bind (wpAny_seqItems hI rfl ?_)))
  show wpAny _ A (Builtin.SmallTypes.ownedTupleIsFree (.ref z) >>= _) Q E s
  refine wpAny_bind (wpAny_tupleHeld_zip hz hT fun g1 z1 s1 => ?_)
  simp only [Bool.false_eq_true, if_false]
  refine wpAny_bind ?_
  rw [← Array.forIn_toList]
  simp only [List.forIn_cons, List.forIn_nil]
  refine wpAny_bind (wpAny_bind (wpAny_holding ?_))
  show wpAny _ A (Builtin.SmallTypes.nextOf (.ref i1) >>= _) _ E _
  refine wpAny_bind (RZ.nextOf_tuple_end (s := { s with heap := g1 }) hh (t1.extBut s1.extBut D.i1z) (p1.extBut s1.extBut D.l1z) ex fun g2 e s2 he => ?_)
  exact out g2 e (fun c o c1 c2 _ q => s2 _ _ c2 (s1.extBut _ _ c1 q)) he
theorem zh_next {Q : Option Value → Shared → Prop} (D : ZipApart z TI TO i1 i2 a b) (hz : IsZipHeld s.heap z TI TO T f) (hT : s.heap.get? T = some oT) (hI : IsPair s.heap TI (.ref i1) (.ref i2))
    (t1 : s.heap.IsTupleIter i1 a k) (t2 : s.heap.IsTupleIter i2 b k) (p1 : s.heap.IsTuple a xs) (p2 : s.heap.IsTuple b ys) (ex : xs[k]? = some x) (ey : ys[k]? = some y)
    (go : ∀ g, IsZipHeld g z TI TO T true → g.IsTupleIter i1 a (k + 1) → g.IsTupleIter i2 b (k + 1) → IsPair g s.heap.objs.size x y → g.objs.size = s.heap.objs.size + 1 →
      (∀ c o, c ≠ z → c ≠ i1 → c ≠ i2 → s.heap.get? c = some o → g.get? c = some o) → Q (some (.ref s.heap.objs.size)) { s with heap := g }) :
    wpAny (model prog w) A (pyNext (.ref z)) Q E s := by
  have ty : s.TypeIs (.ref z) "zip" := ⟨_, hz, rfl⟩
  unfold pyNext
  refine wpAny_bind (wpAny_attempt (wpAny_callSpecial?_slot (name := Str.ofString "__next__") ty F.slot_zip_next (wpAny_call_entry F.slot_zip_next ty F.entry_zip_next ?_ (F.args_zip_next_1 _))))
  exact zh_item D hz hT hI t1 t2 p1 p2 ex ey fun g h1 h2 h3 h4 h5 h6 => wpAny_pure (go g h1 h2 h3 h4 h5 h6)
theorem zh_stop {Q : Option Value → Shared → Prop} (hh : A.handled = none) (D : ZipApart z TI TO i1 i2 a b) (hz : IsZipHeld s.heap z TI TO T f) (hT : s.heap.get? T = some oT) (hI : IsPair s.heap TI (.ref i1) (.ref i2))
    (t1 : s.heap.IsTupleIter i1 a k) (p1 : s.heap.IsTuple a xs) (ex : xs[k]? = none)
    (out : ∀ g, (∀ c o, c ≠ z → c ≠ i1 → c ≠ i2 → s.heap.get? c = some o → g.get? c = some o) → Q none { s with heap := g }) :
    wpAny (model prog w) A (pyNext (.ref z)) Q E s := by
  have ty : s.TypeIs (.ref z) "zip" := ⟨_, hz, rfl⟩
  unfold pyNext
  refine wpAny_bind (wpAny_attempt (wpAny_callSpecial?_slot (name := Str.ofString "__next__") ty F.slot_zip_next (wpAny_call_entry F.slot_zip_next ty F.entry_zip_next ?_ (F.args_zip_next_1 _))))
  refine zh_end hh D hz hT hI t1 p1 ex fun g e kept ⟨o, ho, hc⟩ => ?_
  exact wpAny_bind (wpAny_isInstance (T := "StopIteration") (b := true) ⟨o, ho, hc⟩ isSubtype_stop (wpAny_pure (out g kept)))
/-- a zip of the tuples at a and b, k pairs drawn; none kept, or the last one is still there -/
structure ZipSt (h : Heap) (z TI TO i1 i2 a b : Addr) (k : Nat) : Prop where
  held : IsZip h z TI TO .none ∨ ∃ (T : Addr) (f : Bool) (oT : Obj), IsZipHeld h z TI TO T f ∧ h.get? T = some oT
  its : IsPair h TI (.ref i1) (.ref i2)
  old : ∃ u v, IsPair h TO u v
  t1 : h.IsTupleIter i1 a k
  t2 : h.IsTupleIter i2 b k
theorem ZipSt.keep {h g : Heap} (Z : ZipSt h z TI TO i1 i2 a b k) (up : ∀ c o, h.get? c = some o → g.get? c = some o) : ZipSt g z TI TO i1 i2 a b k := by
  obtain ⟨hz, hI, ⟨u, v, hO⟩, t1, t2⟩ := Z
  refine ⟨?_, up _ _ hI, ⟨u, v, up _ _ hO⟩, t1.at fun o e => up _ o e, t2.at fun o e => up _ o e⟩
  rcases hz with q | ⟨T, f, oT, q, q2⟩
  · exact .inl (up _ _ q)
  · exact .inr ⟨T, f, oT, up _ _ q, up _ _ q2⟩
theorem zs_next {Q : Option Value → Shared → Prop} (D : ZipApart z TI TO i1 i2 a b) (Z : ZipSt s.heap z TI TO i1 i2 a b k) (p1 : s.heap.IsTuple a xs) (p2 : s.heap.IsTuple b ys) (ex : xs[k]? = some x) (ey : ys[k]? = some y)
    (go : ∀ g, ZipSt g z TI TO i1 i2 a b (k + 1) → IsPair g s.heap.objs.size x y → g.objs.size = s.heap.objs.size + 1 →
      (∀ c o, c ∉ [z, TI, TO, i1, i2] → s.heap.get? c = some o → g.get? c = some o) → Q (some (.ref s.heap.objs.size)) { s with heap := g }) :
    wpAny (model prog w) A (pyNext (.ref z)) Q E s := by
  obtain ⟨hz, hI, ⟨u, v, hO⟩, t1, t2⟩ := Z
  rcases hz with hz | ⟨T, f, oT, hz, hT⟩
  · refine RZ.pyNext_zipT_item D hz hI hO t1 t2 p1 p2 ex ey fun g h1 h2 h3 h4 h5 h6 h7 => go g ⟨.inr ⟨_, false, _, h1, h5⟩, h7 _ _ D.TIz D.TITO D.TIi1 D.TIi2 hI, ⟨_, _, h2⟩, h3, h4⟩ h5 h6 fun c o n e => ?_
    simp only [List.mem_cons, List.not_mem_nil, or_false, not_or] at n
    exact h7 c o n.1 n.2.2.1 n.2.2.2.1 n.2.2.2.2 e
  · refine zh_next D hz hT hI t1 t2 p1 p2 ex ey fun g h1 h2 h3 h4 h5 h6 => ?_
    by_cases hTz : T = z
    · rw [hTz] at h1
      refine go g ⟨.inr ⟨z, true, _, h1, h1⟩, h6 _ _ D.TIz D.TIi1 D.TIi2 hI, ⟨_, _, h6 _ _ D.TOz D.TOi1 D.TOi2 hO⟩, h2, h3⟩ h4 h5 fun c o n e => ?_
      simp only [List.mem_cons, List.not_mem_nil, or_false, not_or] at n
      exact h6 c o n.1 n.2.2.2.1 n.2.2.2.2 e
    · have hT' : ∃ o, g.get? T = some o := by
        by_cases q1 : T = i1
        · obtain ⟨o, e, _⟩ := h2
          exact ⟨o, q1 ▸ e⟩
        · by_cases q2 : T = i2
          · obtain ⟨o, e, _⟩ := h3
            exact ⟨o, q2 ▸ e⟩
          · exact ⟨_, h6 _ _ hTz q1 q2 hT⟩
      obtain ⟨oT', hT'⟩ := hT'
      refine go g ⟨.inr ⟨T, true, oT', h1, hT'⟩, h6 _ _ D.TIz D.TIi1 D.TIi2 hI, ⟨_, _, h6 _ _ D.TOz D.TOi1 D.TOi2 hO⟩, h2, h3⟩ h4 h5 fun c o n e => ?_
      simp only [List.mem_cons, List.not_mem_nil, or_false, not_or] at n
      exact h6 c o n.1 n.2.2.2.1 n.2.2.2.2 e
theorem zs_stop {Q : Option Value → Shared → Prop} (hh : A.handled = none) (D : ZipApart z TI TO i1 i2 a b) (Z : ZipSt s.heap z TI TO i1 i2 a b k) (p1 : s.heap.IsTuple a xs) (p2 : s.heap.IsTuple b ys) (ex : xs[k]? = none)
    (out : ∀ g, (∀ c o, c ∉ [z, TI, TO, i1, i2] → s.heap.get? c = some o → g.get? c = some o) → Q none { s with heap := g }) :
    wpAny (model prog w) A (pyNext (.ref z)) Q E s := by
  obtain ⟨hz, hI, ⟨u, v, hO⟩, t1, t2⟩ := Z
  rcases hz with hz | ⟨T, f, oT, hz, hT⟩
  · refine RZ.pyNext_zipT_end hh D hz hI hO t1 t2 p1 p2 (.inl ex) fun g h7 => out g fun c o n e => ?_
    simp only [List.mem_cons, List.not_mem_nil, or_false, not_or] at n
    exact h7 c o n.1 n.2.2.1 n.2.2.2.1 n.2.2.2.2 e
  · refine zh_stop hh D hz hT hI t1 p1 ex fun g h6 => out g fun c o n e => ?_
    simp only [List.mem_cons, List.not_mem_nil, or_false, not_or] at n
    exact h6 c o n.1 n.2.2.2.1 n.2.2.2.2 e
end
end Nm
namespace Nm
open PySem PySem.Spec PyProof.Rows L2
/-! ### list(zip(t, u)), t and u tuples of one length: a new list of new pairs -/
theorem ZipSt.keepBut {h g : Heap} {z TI TO i1 i2 a b L : Addr} {k : Nat} (Z : ZipSt h z TI TO i1 i2 a b k) (nL : L ∉ [z, TI, TO, i1, i2]) (up : ∀ c o, c ≠ L → h.get? c = some o → g.get? c = some o) (hL : ∃ o, g.get? L = some o) : ZipSt g z TI TO i1 i2 a b k := by
  simp only [List.mem_cons, List.not_mem_nil, or_false, not_or] at nL
  obtain ⟨n1, n2, n3, n4, n5⟩ := nL
  obtain ⟨hz, hI, ⟨u, v, hO⟩, t1, t2⟩ := Z
  refine ⟨?_, up _ _ (Ne.symm n2) hI, ⟨u, v, up _ _ (Ne.symm n3) hO⟩, t1.at fun o e => up _ o (Ne.symm n4) e, t2.at fun o e => up _ o (Ne.symm n5) e⟩
  rcases hz with q | ⟨T, f, oT, q, q2⟩
  · exact .inl (up _ _ (Ne.symm n1) q)
  · by_cases e : T = L
    · obtain ⟨o, ho⟩ := hL
      exact .inr ⟨T, f, o, up _ _ (Ne.symm n1) q, e ▸ ho⟩
    · exact .inr ⟨T, f, oT, up _ _ (Ne.symm n1) q, up _ _ e q2⟩
/-- the pairs of two rows, at the addresses Ts -/
def PairsAt (H : Hp) (Ts : List Addr) (xs ys : List V) : Prop := ∀ (j : Nat) (T : Addr) (x y : V), Ts[j]? = some T → xs[j]? = some x → ys[j]? = some y → H T = some (.tup [x, y])
section
variable {X : Cx} {pins : List (Addr × Obj)} {σ : L2.St} {A : Around} {R : Result → Shared → Prop} {z TI TO i1 i2 a b L : Addr} {xs ys : List V} {res : Value}
theorem zip_loop (hh : A.handled = none) (D : ZipApart z TI TO i1 i2 a b) (nL : L ∉ [z, TI, TO, i1, i2]) (hl : xs.length = ys.length) (H0 : Hp) (nH : H0 L = none) :
    ∀ (m k : Nat) (s : Shared) (H : Hp) (Ts : List Addr), xs.length - k = m → k ≤ xs.length → Inv X pins σ H s → H L = some (.lst (Ts.map V.ref)) → Ts.length = k → PairsAt H Ts xs ys → Same H0 H → SqT X.K H0 a xs → SqT X.K H0 b ys →
      (∀ c ∈ [z, TI, TO, i1, i2], FpOk X pins H c) → ZipSt s.heap z TI TO i1 i2 a b k → xs.length ≤ 1000000 →
      (∀ (s' : Shared) (H' : Hp) (Ts' : List Addr), Inv X pins σ H' s' → H' L = some (.lst (Ts'.map V.ref)) → Ts'.length = xs.length → PairsAt H' Ts' xs ys → Same H0 H' → R (.ok (.ret res)) s') →
      codeAny (model X.prog X.w) A (.builtin "list.extend.loop" ⟨[.ref L, .ref z, res], []⟩) R s := by
  intro m
  induction m with
  | zero =>
    intro k s H Ts hm hk I hL hlen hP hS ha hb hf Z hz fin
    have ek : k = xs.length := by omega
    refine codeAny_builtin F.entry_extend_loop ?_
    rw [Around.under_plainId F.plain_extend_loop _]
    show wpAny _ A.in1 (pyNext (.ref z) >>= _) _ _ s
    obtain ⟨its, rv, p1, _⟩ := I.tuple (ha.ext hS)
    obtain ⟨its2, rv2, p2, _⟩ := I.tuple (hb.ext hS)
    have l1 := rv.length
    refine wpAny_bind (zs_stop hh D Z p1 p2 (by simp; omega) fun g kept => wpAny_pure ?_)
    exact fin _ H Ts (I.turnedL (t' := s.toks) (fun c o n e => kept c o n e) hf) hL (by omega) hP hS
  | succ m ih =>
    intro k s H Ts hm hk I hL hlen hP hS ha hb hf Z hz fin
    have lt : k < xs.length := by omega
    have lt2 : k < ys.length := by omega
    refine codeAny_builtin F.entry_extend_loop ?_
    rw [Around.under_plainId F.plain_extend_loop _]
    show wpAny _ A.in1 (pyNext (.ref z) >>= _) _ _ s
    obtain ⟨its, rv, p1, _⟩ := I.tuple (ha.ext hS)
    obtain ⟨its2, rv2, p2, _⟩ := I.tuple (hb.ext hS)
    obtain ⟨u, hu, ru⟩ := rv.get (List.getElem?_eq_getElem lt)
    obtain ⟨u2, hu2, ru2⟩ := rv2.get (List.getElem?_eq_getElem lt2)
    refine wpAny_bind (zs_next D Z p1 p2 (x := u) (y := u2) (by simpa using hu) (by simpa using hu2) fun g Z1 pr sz kept => ?_)
    have new : ObjOk X.prog X.w (upd H s.heap.objs.size (.tup [xs[k], ys[k]])) g s.heap.objs.size (.tup [xs[k], ys[k]]) :=
      ⟨by show 2 ≤ sizeLine; decide, [u, u2], .cons ru (.cons ru2 .nil), ⟨_, pr, rfl, _, rfl⟩⟩
    have I1 : Inv X pins σ (upd H s.heap.objs.size (.tup [xs[k], ys[k]])) { s with heap := g } := I.turnedNew (t' := s.toks) (fun c o n e => kept c o n e) hf (Nat.le_refl _) new
    have nT : H s.heap.objs.size = none := I.hok.fresh (Nat.le_refl _)
    have sT : Same H (upd H s.heap.objs.size (.tup [xs[k], ys[k]])) := fun c o e => by
      rw [upd_ne (ne_of_none e nT)]
      exact e
    have hT : upd H s.heap.objs.size (.tup [xs[k], ys[k]]) s.heap.objs.size = some (.tup [xs[k], ys[k]]) := upd_same
    have fresh : ∀ c ∈ [z, TI, TO, i1, i2], upd H s.heap.objs.size (.tup [xs[k], ys[k]]) c = none := fun c hc => by
      have lc : c ≠ s.heap.objs.size := by
        have q : ∃ o, s.heap.get? c = some o := by
          obtain ⟨hz', hI, ⟨_, _, hO⟩, ⟨o1, e1, _⟩, ⟨o2, e2, _⟩⟩ := Z
          simp only [List.mem_cons, List.not_mem_nil, or_false] at hc
          rcases hc with rfl | rfl | rfl | rfl | rfl
          · rcases hz' with q | ⟨_, _, _, q, _⟩ <;> exact ⟨_, q⟩
          · exact ⟨_, hI⟩
          · exact ⟨_, hO⟩
          · exact ⟨_, e1⟩
          · exact ⟨_, e2⟩
        obtain ⟨o, e⟩ := q
        exact Nat.ne_of_lt (Heap.lt_size e)
      rw [upd_ne lc]
      exact (hf c hc).1
    generalize s.heap.objs.size = T at I1 nT sT hT fresh
    generalize upd H T (.tup [xs[k], ys[k]]) = H1 at I1 sT hT fresh
    have hL1 := sT _ _ hL
    obtain ⟨z1, itl, n, r, len, e⟩ := I1.lstM hL1
    rw [List.length_map] at len
    show wpAny _ A.in1 (updateSeq L (·.push (Value.ref T)) >>= _) _ _ _
    have big : ∀ n : Nat, n ≤ 1000001 → n ≤ sizeLine := fun n h => Nat.le_trans h (by decide)
    have lT : L ≠ T := fun q => by
      rw [q, nT] at hL
      cases hL
    have I2 : Inv X pins σ (upd H1 L (.lst ((Ts ++ [T]).map V.ref))) { s with heap := g.update L (Obj.mapSeq (·.push (Value.ref T))) } :=
      I1.lset (its' := itl ++ [.ref T]) (t' := s.toks) hL1 e (by simp) (by rw [List.map_append]; exact r.append (.cons rfl .nil)) (by rw [List.length_map, List.length_append]; exact big _ (by simp; omega))
    have sL : Same H0 (upd H1 L (.lst ((Ts ++ [T]).map V.ref))) := fun c o e => by
      rw [upd_ne (ne_of_none e nH)]
      exact sT _ _ (hS _ _ e)
    refine wpAny_bind (wpAny_updateSeq e rfl (wpAny_pure ⟨plainId_quiet F.plain_extend_loop _, ?_⟩) (by rw [List.size_toArray]; exact big _ (by omega)) (by show (itl.toArray.push _).size ≤ sizeLine + 1; rw [Array.size_push, List.size_toArray]; exact Nat.le_succ_of_le (big _ (by omega))))
    refine ih (k + 1) _ _ (Ts ++ [T]) (by omega) (by omega) I2 upd_same (by simp [hlen]) (fun j T' x y h1 h2 h3 => ?_) sL ha hb (fun c hc => ⟨by
      rw [upd_ne (fun (q : c = L) => nL (q ▸ hc))]
      exact fresh c hc, (hf c hc).2⟩) (Z1.keepBut nL (fun c o n e => (Heap.get?_update_other _ _ (Ne.symm n)).trans e) ⟨_, Heap.get?_update_self _ e rfl⟩) hz fin
    by_cases jk : j < k
    · rw [List.getElem?_append_left (by omega)] at h1
      have q := sT _ _ (hP j T' x y h1 h2 h3)
      rw [upd_ne (ne_of q hL1 (by intro w; cases w))]
      exact q
    · have jl : j < (Ts ++ [T]).length := (List.getElem?_eq_some_iff.mp h1).1
      have ej : j = k := by simp at jl; omega
      subst ej
      rw [List.getElem?_append_right (by omega), hlen, Nat.sub_self] at h1
      obtain rfl : T = T' := Option.some.inj h1
      rw [List.getElem?_eq_getElem lt] at h2
      rw [List.getElem?_eq_getElem lt2] at h3
      rw [← Option.some.inj h2, ← Option.some.inj h3, upd_ne (Ne.symm lT)]
      exact hT
theorem zip_no_len : typeLookup (.type "zip") "__len__" = pure none := by rw [typeLookup_type, builtinLookup_eq_fast]; kernel_rfl
theorem zip_no_hint : typeLookup (.type "zip") "__length_hint__" = pure none := by rw [typeLookup_type, builtinLookup_eq_fast]; kernel_rfl
theorem zip_init (hh : A.handled = none) (D : ZipApart z TI TO i1 i2 a b) (nL : L ∉ [z, TI, TO, i1, i2]) (hl : xs.length = ys.length) (H0 : Hp) (nH : H0 L = none) (s : Shared) (H : Hp) (I : Inv X pins σ H s) (hL : H L = some (.lst [])) (hS : Same H0 H)
    (ha : SqT X.K H0 a xs) (hb : SqT X.K H0 b ys) (hf : ∀ c ∈ [z, TI, TO, i1, i2], FpOk X pins H c) (Z : ZipSt s.heap z TI TO i1 i2 a b 0) (z0 : IsZip s.heap z TI TO .none) (hz : xs.length ≤ 1000000)
    (fin : ∀ (s' : Shared) (H' : Hp) (Ts' : List Addr), Inv X pins σ H' s' → H' L = some (.lst (Ts'.map V.ref)) → Ts'.length = xs.length → PairsAt H' Ts' xs ys → Same H0 H' → R (.ok (.ret .none)) s') :
    wpAny (model X.prog X.w) A.in1 (Builtin.«list.__init__» ⟨[.ref L, .ref z], []⟩)
      (fun fin u => match fin with | .done f => R (.ok f) u | .again c => c.quiet = true ∧ codeAny (model X.prog X.w) A c R u) (fun e u => R (.error e) u) s := by
  obtain ⟨_, itl, n, r, len, e⟩ := I.lstM hL
  have e0 : itl = [] := List.length_eq_zero_iff.mp len.symm
  subst e0
  have ty : ∀ h : Heap, ZipSt h z TI TO i1 i2 a b 0 → ∃ o, h.get? z = some o ∧ o.cls = .type "zip" := fun h q => by
    rcases q.held with q | ⟨_, _, _, q, _⟩ <;> exact ⟨_, q, rfl⟩
  have upH : upd H L (.lst []) = H := by
    funext c
    by_cases h : c = L
    · rw [h, upd_same, hL]
    · rw [upd_ne h]
  have nz : L ≠ z := fun q => nL (by simp [q])
  -- each rewriting of the list leaves it empty
  have step : ∀ (h : Heap) (n : Nat) (f : Array Value → Array Value), Inv X pins σ H { s with heap := h } → ZipSt h z TI TO i1 i2 a b 0 → h.get? L = some { cls := .type "list", data := .seq #[] n } → f #[] = #[] →
      Inv X pins σ H { s with heap := h.update L (Obj.mapSeq f) } ∧ ZipSt (h.update L (Obj.mapSeq f)) z TI TO i1 i2 a b 0 := fun h n f J Zh eh ef => by
    have J1 := J.lset (its := []) (its' := []) (f := f) (t' := s.toks) (ys := []) hL eh (by rw [show (([] : List Value).toArray) = #[] from rfl, ef]) .nil (Nat.zero_le _)
    rw [upH] at J1
    exact ⟨J1, Zh.keepBut nL (fun c o n' e' => (Heap.get?_update_other _ _ (Ne.symm n')).trans e') ⟨_, Heap.get?_update_self _ eh rfl⟩⟩
  show wpAny _ A.in1 (do let old ← Builtin.List.listItems (.ref L); Builtin.List.listUpdate (.ref L) (fun _ => #[]); letGo old.toList.reverse; Builtin.List.listExtendWith (.ref L) (.ref z) .none) _ _ s
  refine wpAny_bind ?_
  unfold Builtin.List.listItems
  refine wpAny_bind (wpAny_seqItems e rfl (wpAny_pure ?_))
  obtain ⟨I1, Z1⟩ := step s.heap n (fun _ => #[]) I Z e rfl
  have e1 := Heap.get?_update_self (Obj.mapSeq (fun _ => (#[] : Array Value))) e rfl
  have z1 : IsZip (s.heap.update L (Obj.mapSeq (fun _ => (#[] : Array Value)))) z TI TO .none := (Heap.get?_update_other _ _ nz).trans z0
  show wpAny _ A.in1 (updateSeq L (fun _ => #[]) >>= fun _ => letGo (#[] : Array Value).toList.reverse >>= fun _ => Builtin.List.listExtendWith (.ref L) (.ref z) .none) _ _ s
  refine wpAny_bind (wpAny_updateSeq e rfl (wpAny_bind (wpAny_letGo ?_)))
  generalize hg1 : s.heap.update L (Obj.mapSeq (fun _ => (#[] : Array Value))) = g1 at I1 Z1 e1 z1
  unfold Builtin.List.listExtendWith
  refine wpAny_bind (wpAny_typeOf (s := { s with heap := g1 }) (T := "zip") (ty g1 Z1) ?_)
  have h1 : Builtin.List.listSameRef (.ref L) (.ref z) = false := by simp [Builtin.List.listSameRef, nz]
  have h2 : (Value.type "zip" == Value.type "list") = false := by decide
  have h3 : (Value.type "zip" == Value.type "tuple") = false := by decide
  simp only [h1, h2, h3, Bool.or_false, Bool.false_eq_true, if_false]
  refine wpAny_bind (wpAny_pyIter_zip (s := { s with heap := g1 }) z1 ?_)
  refine wpAny_bind (wpAny_holding ?_)
  unfold Builtin.List.listLengthHint
  refine wpAny_bind (wpAny_specialOf (s := { s with heap := g1 }) (ty g1 Z1) zip_no_len ?_)
  show wpAny _ A.in1 (specialOf (Value.ref z) (Str.ofString "__length_hint__") >>= _) _ _ _
  refine wpAny_bind (wpAny_specialOf (s := { s with heap := g1 }) (ty g1 Z1) zip_no_hint (wpAny_pure ?_))
  show wpAny _ A.in1 (rule "list.extend.makes-room" >>= fun _ => Builtin.List.listTouch (.ref L) >>= fun _ => again (.builtin "list.extend.loop" ⟨[.ref L, .ref z, Value.none], []⟩)) _ _ _
  refine wpAny_bind (wpAny_rule (wpAny_bind ?_))
  show wpAny _ A.in1 (updateSeq L (·.push .none) >>= fun _ => updateSeq L (·.pop)) _ _ _
  refine wpAny_bind (wpAny_updateSeq e1 rfl ?_)
  have e2 := Heap.get?_update_self (Obj.mapSeq (·.push Value.none)) e1 rfl
  refine wpAny_updateSeq (hz := by seq_fits) e2 rfl ?_
  have e3 := Heap.get?_update_self (Obj.mapSeq (·.pop)) e2 rfl
  have oth : ∀ c o, c ≠ L → g1.get? c = some o → ((g1.update L (Obj.mapSeq (·.push Value.none))).update L (Obj.mapSeq (·.pop))).get? c = some o := fun c o hc x =>
    (Heap.get?_update_other _ _ (Ne.symm hc)).trans ((Heap.get?_update_other _ _ (Ne.symm hc)).trans x)
  have I3 : Inv X pins σ H { s with heap := (g1.update L (Obj.mapSeq (·.push Value.none))).update L (Obj.mapSeq (·.pop)) } := by
    have J := I1.write (x := L) (e := L) (o := .lst []) (t' := s.toks) (by rw [hL]; exact trivial) (.inl rfl) oth ⟨_, e3⟩ ⟨Nat.zero_le _, [], _, .nil, e3⟩
    rw [upH] at J
    exact J
  refine wpAny_pure ⟨plainId_quiet F.plain_extend_loop _, ?_⟩
  exact zip_loop hh D nL hl H0 nH xs.length 0 _ H [] (by omega) (Nat.zero_le _) I3 hL rfl (fun j T x y h _ _ => by simp at h) hS ha hb hf (Z1.keepBut nL oth ⟨_, e3⟩) hz fin
end
end Nm
namespace Nm
open PySem PySem.Spec PyProof.Rows L2
def tListZip (K : PySem.W.Frag) (ta : TA) : TE := fun σ H Q => ta σ H fun vs H1 => ∃ a b xs ys, vs = [.ref a, .ref b] ∧ SqT K H1 a xs ∧ SqT K H1 b ys ∧ xs.length = ys.length ∧ xs.length ≤ 1000000 ∧
  ∀ (L : Addr) (H' : Hp) (Ts : List Addr), Same H1 H' → H1 L = none → H' L = some (.lst (Ts.map V.ref)) → Ts.length = xs.length → PairsAt H' Ts xs ys → Q (.ref L) H'
theorem pe_listZip {X : Cx} {e e2 : Expr} {ta : TA} {p p2 pos pos2 : Pos} (hc : X.calm = true) (hg : Gl X "list") (hm : X.mg "list" = none) (hg2 : Gl X "zip") (hm2 : X.mg "zip" = none) (ha : PA X [e, e2] ta)
    (hs : starEach [e, e2] X.env = (false, eval e X.env) :: starEach [e2] X.env := by rfl) (hpl : (backTo pos2 (starEach [e2] X.env)).any (·.1) = false := by rfl)
    (hs2 : starEach [.Call (.Name "zip" p2) [e, e2] [] pos2] X.env = (false, eval (.Call (.Name "zip" p2) [e, e2] [] pos2) X.env) :: starEach [] X.env := by rfl) :
    PE X (.Call (.Name "list" p) [.Call (.Name "zip" p2) [e, e2] [] pos2] [] pos) (tListZip X.K ta) := by
  refine ⟨fun pins s σ H Q I h => ?_⟩
  refine Call_ (ld_blt I hg hm boot_list (callWith_type1 (args_cons (Call_ (ld_blt I hg2 hm2 boot_zip (callWith_type1 (thn (ha.run pos2 pins s σ H _ I h) fun us s1 ⟨vs, H1, I1, r1, q1⟩ => ?_) hs hpl))) hs2) hs2 rfl))
  obtain ⟨a, b, xs, ys, rfl, ha', hb', hl, hz, q⟩ := q1
  obtain ⟨u1, u2, rfl, e1, e2'⟩ := vals2 r1
  cases (show u1 = Value.ref a from e1)
  cases (show u2 = Value.ref b from e2')
  obtain ⟨its, rv, p1, _⟩ := I1.tuple ha'
  obtain ⟨its2, rv2, p2', _⟩ := I1.tuple hb'
  obtain ⟨o1, ho1, _⟩ := id p1
  obtain ⟨o2, ho2, _⟩ := id p2'
  refine RZ.call_zipT (show s1.heap.IsTuple a its.toArray from p1) (show s1.heap.IsTuple b its2.toArray from p2') fun g hz0 hTI hTO t1 t2 hsz hk => args_nil ?_
  have D := PySem.W.ktu_apart s1.heap.objs.size a b (Heap.lt_size ho1) (Heap.lt_size ho2)
  have I2 : Inv X pins σ H1 { s1 with heap := g } := I1.kept (t' := s1.toks) hk
  have f5 : ∀ c ∈ [s1.heap.objs.size + 4, s1.heap.objs.size + 2, s1.heap.objs.size + 3, s1.heap.objs.size, s1.heap.objs.size + 1], s1.heap.objs.size ≤ c ∧ c < g.objs.size := fun c hc => by
    simp only [List.mem_cons, List.not_mem_nil, or_false] at hc
    rcases hc with h | h | h | h | h <;> subst h <;> omega
  have I3 := I2.lnew (its := []) (ys := []) (t' := s1.toks) .nil (Nat.zero_le _)
  have nL : H1 g.objs.size = none := I2.fresh
  refine callType_codes (Q₁ := fun obj u => obj = .ref g.objs.size ∧ u = { s1 with heap := g.push { cls := .type "list", data := .seq #[] } }) F.called_list (F.typeCall_list_1 _) F.entry_list_init
    (code_list_new _ ⟨rfl, rfl⟩) fun obj u hu => ?_
  obtain ⟨rfl, rfl⟩ := hu
  have hS : (g.push { cls := .type "list", data := .seq #[] }).get? g.objs.size = some { cls := .type "list", data := .seq #[] } := Heap.get?_push_size _ rfl
  have sN : Same H1 (upd H1 g.objs.size (.lst [])) := fun c o e => by
    rw [upd_ne (ne_of_none e nL)]
    exact e
  refine ⟨⟨_, hS, rfl⟩, F.args_list_init_2 _ _, ?_⟩
  refine zip_init (pins := pins) (σ := σ) (A := X.A.in1) (I.ok.hd hc) D (fun hm' => Nat.lt_irrefl _ (f5 _ hm').2) hl H1 nL _ _ I3 upd_same sN ha' hb' (fun c hc => ?_) (ZipSt.keep ⟨.inl hz0, hTI, ⟨_, _, hTO⟩, t1, t2⟩ fun c o e => Heap.get?_push_of_some _ e) (Heap.get?_push_of_some _ hz0) hz (fun s' H' Ts' I' hL' hlen hP hS' => ?_)
  · refine I1.fpOk (f5 c hc).1 ?_
    rw [upd_ne (Nat.ne_of_lt (f5 c hc).2)]
    exact I1.hok.fresh (f5 c hc).1
  · exact ⟨rfl, .ref g.objs.size, H', I', rfl, q _ H' Ts' hS' nL hL' hlen hP⟩
end Nm
namespace Nm
open PySem PySem.Spec PyProof.Rows L2
/-! ### values: the mathematics, and how they stand in the heap -/
inductive Tr where
  | num (i : Int) : Tr
  | mk (m : Str) (ps : List Tr) : Tr
mutual
def Tr.sz : Tr → Nat
  | .num _ => 1
  | .mk _ ps => 1 + Tr.szL ps
def Tr.szL : List Tr → Nat
  | [] => 0
  | t :: r => t.sz + Tr.szL r
end
theorem Tr.sz_pos (t : Tr) : 0 < t.sz := by
  cases t with
  | num i => simp [Tr.sz]
  | mk m ps => simp [Tr.sz]; omega
theorem szL_len : ∀ ps : List Tr, ps.length ≤ Tr.szL ps
  | [] => Nat.le_refl _
  | t :: r => by
    have h1 := t.sz_pos
    have h2 := szL_len r
    simp only [List.length_cons, Tr.szL]
    omega
theorem szL_app (a b : List Tr) : Tr.szL (a ++ b) = Tr.szL a + Tr.szL b := by
  induction a with
  | nil => simp [Tr.szL]
  | cons t r ih => simp only [List.cons_append, Tr.szL, ih]; omega
def mkF (m : Str) (p : Addr) : List (Str × V) := putF "parts" (.ref p) (putF "maker" (.str m) [])
theorem mkF_maker (m : Str) (p : Addr) : (mkF m p).lookup ("maker" : Str) = some (.str m) := by
  unfold mkF
  rw [lookup_putF, if_neg (by decide +kernel), lookup_putF, if_pos rfl]
theorem mkF_parts (m : Str) (p : Addr) : (mkF m p).lookup ("parts" : Str) = some (.ref p) := by
  unfold mkF
  rw [lookup_putF, if_pos rfl]
mutual
/-- the value v stands for the tree -/
inductive VAt (C : Addr) (H : Hp) : V → Tr → Prop
  | num (i : Int) : VAt C H (.int i) (.num i)
  | mk {a dx p : Addr} {m : Str} {xs : List V} {ts : List Tr} (ea : H a = some (.ins C dx (mkF m p))) (ep : H p = some (.tup xs)) (h : VAts C H xs ts) : VAt C H (.ref a) (.mk m ts)
inductive VAts (C : Addr) (H : Hp) : List V → List Tr → Prop
  | nil : VAts C H [] []
  | cons {x : V} {t : Tr} {xs : List V} {ts : List Tr} (h : VAt C H x t) (r : VAts C H xs ts) : VAts C H (x :: xs) (t :: ts)
end
mutual
theorem VAt.mono {C : Addr} {H H' : Hp} (k1 : ∀ a dx fs, H a = some (.ins C dx fs) → H' a = some (.ins C dx fs)) (k2 : ∀ a xs, H a = some (.tup xs) → H' a = some (.tup xs)) : ∀ {t : Tr} {v : V}, VAt C H v t → VAt C H' v t
  | .num _, _, .num i => .num i
  | .mk _ _, _, .mk ea ep h => .mk (k1 _ _ _ ea) (k2 _ _ ep) (VAts.mono k1 k2 h)
theorem VAts.mono {C : Addr} {H H' : Hp} (k1 : ∀ a dx fs, H a = some (.ins C dx fs) → H' a = some (.ins C dx fs)) (k2 : ∀ a xs, H a = some (.tup xs) → H' a = some (.tup xs)) : ∀ {ts : List Tr} {xs : List V}, VAts C H xs ts → VAts C H' xs ts
  | [], _, .nil => .nil
  | _ :: _, _, .cons h r => .cons (VAt.mono k1 k2 h) (VAts.mono k1 k2 r)
end
theorem VAt.same {C : Addr} {H H' : Hp} {v : V} {t : Tr} (h : VAt C H v t) (s : Same H H') : VAt C H' v t := h.mono (fun a dx fs e => s _ _ e) fun a xs e => s _ _ e
theorem VAts.same {C : Addr} {H H' : Hp} {xs : List V} {ts : List Tr} (h : VAts C H xs ts) (s : Same H H') : VAts C H' xs ts := h.mono (fun a dx fs e => s _ _ e) fun a xs e => s _ _ e
/-- a list, a dict, written: no value is touched -/
theorem VAt.put {C : Addr} {H : Hp} {v : V} {t : Tr} (h : VAt C H v t) {p : Addr} {o o' : HO} (e : H p = some o) (n1 : ∀ dx fs, o ≠ .ins C dx fs) (n2 : ∀ xs, o ≠ .tup xs) : VAt C (upd H p o') v t :=
  h.mono (fun a dx fs q => by rw [upd_ne (ne_of q e (fun z => n1 _ _ z.symm))]; exact q) fun a xs q => by rw [upd_ne (ne_of q e (fun z => n2 _ z.symm))]; exact q
theorem VAts.len {C : Addr} {H : Hp} : ∀ {xs : List V} {ts : List Tr}, VAts C H xs ts → xs.length = ts.length
  | _, _, .nil => rfl
  | _, _, .cons _ r => by simp [VAts.len r]
theorem VAts.at {C : Addr} {H : Hp} : ∀ {xs : List V} {ts : List Tr} {i : Nat} {x : V}, VAts C H xs ts → xs[i]? = some x → ∃ t, ts[i]? = some t ∧ VAt C H x t
  | _, _, _, _, .nil, e => by simp at e
  | _, _, 0, _, .cons h _, e => by
    simp at e
    subst e
    exact ⟨_, rfl, h⟩
  | _, _, i + 1, x, .cons _ r, e => by
    obtain ⟨t, h1, h2⟩ := VAts.at (i := i) (x := x) r (by simpa using e)
    exact ⟨t, by simpa using h1, h2⟩
theorem VAts.app {C : Addr} {H : Hp} : ∀ {xs : List V} {ts : List Tr} {ys : List V} {us : List Tr}, VAts C H xs ts → VAts C H ys us → VAts C H (xs ++ ys) (ts ++ us)
  | _, _, _, _, .nil, k => k
  | _, _, _, _, .cons h r, k => .cons h (VAts.app r k)
/-- what the law asks of the class of values -/
structure MadeTxt (K : PySem.W.Frag) (mg : Str → Option Value) (C fE : Addr) : Prop where
  cl : Cls K C
  nM : NoAttr K C "maker"
  nP : NoAttr K C "parts"
  gM : mg "Made" = some (.ref C)
  eqF : PySem.W.findIn K (.ref C) "__eq__" = some (some (.ref fE))
  eqK : PySem.W.isFn K (.ref fE) = true
  neF : PySem.W.findIn K (.ref C) "__ne__" = some (some (.builtin "object.__ne__"))
  subI : PySem.W.subIn K (.type "int") (.ref C) = some false
  subC : PySem.W.subIn K (.ref C) (.type "int") = some false
  kitC : PySem.W.kitOne K (.ref C) (.ref C) = some true
  kitI : PySem.W.kitOne K (.type "int") (.ref C) = some false
  kitB : PySem.W.kitOne K (.ref C) (.type "bool") = some false
  kitN : PySem.W.kitOne K (.ref C) (.type "int") = some false
  ca : PySem.W.findIn K (.ref C) "__class__" = some (some (.builtin "object.__class__"))
  gt : PySem.W.specialIn K (.builtin "object.__class__") "__get__" = some (some (.builtin "getset_descriptor.__get__"))
  tk : PySem.W.takesIn K (.builtin "object.__class__") = some true
  mo : PySem.W.mroIn K C (.type "object") = some true
theorem MadeTxt.ins {K : PySem.W.Frag} {mg : Str → Option Value} {C fE : Addr} (M : MadeTxt K mg C fE) {H : Hp} {a dx : Addr} {fs : List (Str × V)} (e : H a = some (.ins C dx fs)) : TyX K H (.ref a) (.ref C) := .base (.ins e M.cl M.ca M.gt M.tk M.mo)
end Nm
namespace Nm
open PySem PySem.Spec PyProof.Rows L2
/-! ### == and != of values -/
noncomputable instance : DecidableEq Tr := fun a b => Classical.propDecidable (a = b)
def spEqM (C : Addr) : Sp := fun vs H Q _ => ∃ (a : Addr) (y : V) (t u : Tr), vs = [.ref a, y] ∧ VAt C H (.ref a) t ∧ VAt C H y u ∧ t.sz ≤ 1000000 ∧ u.sz ≤ 1000000 ∧ ∀ H', Same H H' → Q (.bl (decide (t = u))) H'
def rEqM (C : Addr) : R2 := fun x y H Q => ∃ t u : Tr, VAt C H x t ∧ VAt C H y u ∧ t.sz ≤ 1000000 ∧ u.sz ≤ 1000000 ∧ ∀ H', Same H H' → Q (.bl (decide (t = u))) H'
def rNeM (C : Addr) : R2 := fun x y H Q => ∃ t u : Tr, VAt C H x t ∧ VAt C H y u ∧ t.sz ≤ 1000000 ∧ u.sz ≤ 1000000 ∧ ((∃ i j, t = .num i ∧ u = .num j) ∨ (∃ m ps m' ps', t = .mk m ps ∧ u = .mk m' ps')) ∧ ∀ H', Same H H' → Q (.bl (!decide (t = u))) H'
theorem int_eq_inst (i : Int) (t : Tok) (a C dx : Addr) : Meets (Builtin.«int.__eq__» ⟨[.int i t, .ref a], []⟩) (fun _ R s => s.heap.get? a = some (PySem.W.instObj C dx) ∧ R (.ok (.ret .notImplemented)) s) :=
  .of_wp fun prog w A R s h => by
    obtain ⟨hp, g, d, tk, os⟩ := s
    obtain ⟨ha, h⟩ := h
    wp_walk using AutoSeq1.wpAny_loadPart' ha
    exact ⟨_, rfl, h⟩
section
variable {X : Cx} {n : Nat} {fE C : Addr} {fdE : FuncData}
theorem call_eqM {A : Around} {pins : List (Addr × Obj)} {s : Shared} {σ : L2.St} {H : Hp} {a : Addr} {y : V} {v : Value} {t u : Tr} (F : FnOk X.prog X.w X.K X.mg X.base CX0 n fE fdE ["self", "other"] (spEqM C)) (hb : Binds X.K fdE ["self", "other"] [])
    (sb : Sub X n A) (I : L2.Inv X pins σ H s) (rv : RelV y v) (ht : VAt C H (.ref a) t) (hu : VAt C H y u) (zt : t.sz ≤ 1000000) (zu : u.sz ≤ 1000000) :
    wpAny (model X.prog X.w) A (call (.ref fE) [.ref a, v]) (fun r s' => r = .bool (decide (t = u)) ∧ ∃ H', L2.Inv X pins σ H' s' ∧ Same H H') X.xe s := by
  have hsp : spEqM C [.ref a, y] H (fun v H' => v = .bl (decide (t = u)) ∧ Same H H') E0 := ⟨a, y, t, u, rfl, ht, hu, zt, zu, fun H' e => ⟨rfl, e⟩⟩
  have e0 : Env0 X.prog X.w X.K X.mg X.base A X.stack s H := by
    have e := I.env0
    exact ⟨by rw [sb.fr]; exact e.frames, e.mod, e.bs, e.bsz, e.funs, e.frf, e.hok, e.bare⟩
  have r2 : Vals [V.ref a, y] [Value.ref a, v] := .cons rfl (.cons rv .nil)
  have bd := hb s [.ref a, v] I.kIn rfl
  refine wpAny_call (codeAny_mono (F.run A X.stack s H ⟨[.ref a, v], []⟩ [.ref a, v] [.ref a, y] _ E0 sb.room e0 (by simpa using bd) r2 hsp) fun r s' hq => ?_)
  cases r with
  | error e => exact pass0 pins σ H s e s' I hq
  | ok fl =>
    cases fl with
    | ret w =>
      obtain ⟨z, H', I', rz, ez, ex⟩ := I.after hq
      subst ez
      exact ⟨rz, H', I', ex⟩
    | next => exact False.elim hq
    | brk => exact False.elim hq
    | cont => exact False.elim hq
theorem VAt.cls {H : Hp} {a : Addr} {t : Tr} (h : VAt C H (.ref a) t) : ∃ dx p m ts, H a = some (.ins C dx (mkF m p)) ∧ t = .mk m ts := by
  cases h with
  | mk ea ep h => exact ⟨_, _, _, _, ea, rfl⟩
theorem op_eqM {mg : Str → Option Value} (F : FnOk X.prog X.w X.K X.mg X.base CX0 n fE fdE ["self", "other"] (spEqM C)) (hb : Binds X.K fdE ["self", "other"] []) (M : MadeTxt X.K mg C fE) (hr : Room n X.A) : OpR X (compareOp .Eq) (rEqM C) := by
  intro pins s σ H x y v w Q I rx ry h
  obtain ⟨t, u, ht, hu, zt, zu, q⟩ := h
  show wpAny (model X.prog X.w) X.A (richCompare .Eq v w) (EP X pins σ Q) X.xe s
  have fin : ∀ r s', (r = Value.bool (decide (t = u)) ∧ ∃ H', L2.Inv X pins σ H' s' ∧ Same H H') → EP X pins σ Q r s' := fun r s' ⟨e, H', I', S⟩ => by
    subst e
    exact ⟨.bl (decide (t = u)), H', I', rfl, q H' S⟩
  obtain ⟨m, hF⟩ := I.fr
  cases ht with
  | num i =>
    cases hu with
    | num j =>
      have e : decide (Tr.num i = Tr.num j) = decide (V.int i = V.int j) := by
        by_cases h : i = j
        · rw [h, decide_eq_true rfl, decide_eq_true rfl]
        · rw [decide_eq_false (fun z => h (Tr.num.inj z)), decide_eq_false (fun z => h (V.int.inj z))]
      refine op_eq pins s σ H _ _ v w Q I rx ry ⟨rfl, ?_⟩
      rw [← e]
      exact q H fun _ _ e => e
    | @mk b dy py m2 ys us eb epb hys =>
      obtain ⟨tk, rfl⟩ := rx
      cases (show w = Value.ref b from ry)
      obtain ⟨mB, J, _⟩ := ins_get I.hok eb
      have ob := J.obj
      obtain ⟨od, J', _⟩ := J.look
      have hB : VAt C H (.ref b) (.mk m2 us) := .mk eb epb hys
      have X₀ := I.ok.mod.kin
      have KI := X₀.keeps hF.keep
      have sym : decide (Tr.mk m2 us = Tr.num i) = decide (Tr.num i = Tr.mk m2 us) := by
        rw [decide_eq_false (by intro z; cases z), decide_eq_false (by intro z; cases z)]
      have second : wpAny (model X.prog X.w) X.A (tryCompare (.ref b) "__eq__" (.int i tk)) (fun r s' => ∃ x, r = some x ∧ EP X pins σ Q x s') X.xe s := by
        unfold tryCompare
        refine wpAny_bind (PySem.W.ifBound_K KI J' M.eqF M.eqK (wpAny_mono (call_eqM (y := .int i) F hb ⟨hr, rfl⟩ I ⟨tk, rfl⟩ hB (.num i) zu zt) (fun r s' z => ?_) fun _ _ e => e))
        obtain ⟨e, H', I', S⟩ := z
        subst e
        rw [sym]
        exact wpAny_pure ⟨_, rfl, fin _ _ ⟨rfl, H', I', S⟩⟩
      unfold richCompare
      have one : oneThing? .Eq (.int i tk) (.ref b) = none := rfl
      simp only [one]
      refine wpAny_holding (wpAny_bind (wpAny_cRoomFor hr.units0 ?_))
      refine wpAny_bind (wpAny_typeOf (T := "int") (typeIs_int s i tk) (wpAny_bind (J'.type.here ?_)))
      rw [if_pos (show (Value.type "int" != Value.ref C) = true from rfl)]
      refine wpAny_bind ((PySem.W.looks_subIn KI M.subC).here ?_)
      simp only [Bool.false_eq_true, if_false, Bool.not_false, if_true]
      refine wpAny_bind (m := tryCompare (.int i tk) _ _) ?_
      unfold tryCompare
      refine wpAny_bind (wpAny_callSpecialIfBound?_slot (typeIs_int s i tk) PySem.F.slot_int_eq (call_meets PySem.F.slot_int_eq (typeIs_int s i tk) PySem.F.entry_int_eq (PySem.F.args_int_eq_2 _ _) (int_eq_inst i tk b C dy) ⟨ob, wpAny_pure ?_⟩))
      refine wpAny_bind (wpAny_mono second (fun r s' z => ?_) fun _ _ e => e)
      obtain ⟨x, rfl, z⟩ := z
      exact wpAny_pure z
  | @mk a dx p m1 xs ts ea ep hx =>
    cases (show v = Value.ref a from rx)
    obtain ⟨mA, J, _⟩ := ins_get I.hok ea
    obtain ⟨od, J', _⟩ := J.look
    have hA : VAt C H (.ref a) (.mk m1 ts) := .mk ea ep hx
    have back : wpAny (model X.prog X.w) X.A (call (.ref fE) [.ref a, w]) (PySem.W.CmpBack (EP X pins σ Q)) X.xe s := wpAny_mono (call_eqM F hb ⟨hr, rfl⟩ I ry hA hu zt zu) (fun r s' z => by
      obtain ⟨e, z⟩ := z
      subst e
      exact fin _ _ ⟨rfl, z⟩) fun _ _ e => e
    cases hu with
    | num j =>
      obtain ⟨tk, rfl⟩ := ry
      exact PySem.W.cmp_K (op := .Eq) (tb := .type "int") hr.units0 hF I.ok.mod.kin J' (fun A Q E s k q => wpAny_typeOf (T := "int") (typeIs_int s j tk) q) (by simp [PySem.W.notFirst, M.subI]) M.eqF M.eqK back
    | @mk b dy py m2 ys us eb epb hys =>
      cases (show w = Value.ref b from ry)
      obtain ⟨mB, JB, _⟩ := ins_get I.hok eb
      obtain ⟨odB, JB', _⟩ := JB.look
      exact PySem.W.cmp_K (op := .Eq) (tb := .ref C) hr.units0 hF I.ok.mod.kin J' JB'.type (by simp [PySem.W.notFirst]) M.eqF M.eqK back
end
end Nm
namespace Nm
open PySem PySem.Spec PyProof.Rows L2
/-! ### != of values of one sort: object's own, by == -/
section
variable {prog : Program} {w : World} {A : Around} {E : Value → Shared → Prop} {s : Shared} {K : PySem.W.Frag} {x C : Addr} {ox : Obj} {od : Option Obj}
/-- a built-in slot of an own instance, bound -/
theorem ifBound_B {M : Model} {name : Str} {id : String} {args : List Value} {Q : Option Value → Shared → Prop} (X : K.In s.heap) (I : PySem.W.InstAt s.heap x ox C od) (hs : PySem.W.findIn K (.ref C) name = some (some (.builtin id)))
    (hb : ∀ self, bindSpecial (.builtin id) self = pure (.builtin id, [self])) (h : wpAny M A (call (.builtin id) (.ref x :: args)) (fun v => Q (some v)) E s) : wpAny M A (callSpecialIfBound? (.ref x) name args) Q E s := by
  simp only [callSpecialIfBound?, bindSpecialIfBound?]
  refine wpAny_holding (wpAny_bind (wpAny_bind (wpAny_bind (I.type.here ((PySem.W.looks_findIn X hs).here ?_)))))
  refine wpAny_bind (wpAny_askSetting (wpAny_ite ?_))
  have last : wpAny M A (call (.builtin id) ([.ref x] ++ args) >>= fun v => pure (some v)) Q E s := wpAny_bind (wpAny_mono h (fun v u hu => wpAny_pure hu) fun _ _ hu => hu)
  split
  · refine wpAny_bind (wpAny_of_eq (hb _) (wpAny_pure ?_))
    exact last
  · refine wpAny_tryCatch (wpAny_bind (wpAny_of_eq (hb _) (wpAny_pure ?_)))
    exact last
theorem check_ne {M : Model} {y : Value} {Q : Unit → Shared → Prop} (X : K.In s.heap) (I : PySem.W.InstAt s.heap x ox C od) (hsub : PySem.W.subIn K (.ref C) (.type "object") = some true) (q : Q () s) :
    wpAny M A (checkBuiltinCall "object.__ne__" ⟨[.ref x, y], []⟩) Q E s := by
  simp only [checkBuiltinCall, PySem.F.cmpKind_ne, PySem.F.cmpSplit_ne]
  have ha := PySem.F.cmpArgs_ne (.ref x) y
  refine wpAny_bind ?_
  unfold isInstance
  refine wpAny_bind (I.type.here ((PySem.W.looks_subIn X hsub).here ?_))
  cases hsig : Manifest.signature? "object.__ne__" with
  | none => exact wpAny_pure q
  | some sig =>
    simp only [argsOk, hsig] at ha
    have h2 : Bind.checkArgs "object.__ne__" sig ⟨[.ref x, y], []⟩ = pure () := ha
    show wpAny M A (Bind.checkArgs "object.__ne__" sig ⟨[.ref x, y], []⟩) Q E _
    rw [h2]
    exact wpAny_pure q
end
section
variable {X : Cx} {n : Nat} {fE C : Addr} {fdE : FuncData}
theorem rawne {prog : Program} {w : World} {A : Around} {E : Value → Shared → Prop} {s : Shared} {K : PySem.W.Frag} {x f : Addr} {y : Value} {ox : Obj} {od : Option Obj} {Q : Value → Shared → Prop} (XK : K.In s.heap) (I : PySem.W.InstAt s.heap x ox C od)
    (hs : PySem.W.findIn K (.ref C) "__eq__" = some (some (.ref f))) (hf : PySem.W.isFn K (.ref f) = true) (hu : A.units < cLine)
    (h : wpAny (model prog w) A (call (.ref f) [.ref x, y]) (fun v u => ∃ b, v = .bool b ∧ Q (.bool (!b)) u) E s) :
    wpAny (model prog w) A (Builtin.«object.__ne__» ⟨[.ref x, y], []⟩) (fun fin u => ∃ v, fin = .done (.ret v) ∧ Q v u) E s := by
  show wpAny (model prog w) A (cRoomFor "comparison" [.ref x, y] >>= _) _ E s
  refine wpAny_bind (wpAny_cRoomFor hu ?_)
  refine wpAny_bind (PySem.W.ifBound_K XK I hs hf (wpAny_mono h (fun v u z => ?_) fun _ _ z => z))
  obtain ⟨b, rfl, q⟩ := z
  refine wpAny_bind (wpAny_truthy_bool (wpAny_pure ⟨_, rfl, q⟩))
theorem op_neM {mg : Str → Option Value} (F : FnOk X.prog X.w X.K X.mg X.base CX0 n fE fdE ["self", "other"] (spEqM C)) (hb : Binds X.K fdE ["self", "other"] []) (M : MadeTxt X.K mg C fE) (hsub : PySem.W.subIn X.K (.ref C) (.type "object") = some true) (hr : Room (n + 1) X.A) : OpR X (compareOp .NotEq) (rNeM C) := by
  intro pins s σ H x y v w Q I rx ry h
  obtain ⟨t, u, ht, hu, zt, zu, kind, q⟩ := h
  rcases kind with ⟨i, j, rfl, rfl⟩ | ⟨m1, ts, m2, us, rfl, rfl⟩
  · cases ht
    cases hu
    have e : decide (Tr.num i = Tr.num j) = decide (V.int i = V.int j) := by
      by_cases h : i = j
      · rw [h, decide_eq_true rfl, decide_eq_true rfl]
      · rw [decide_eq_false (fun z => h (Tr.num.inj z)), decide_eq_false (fun z => h (V.int.inj z))]
    refine op_ne pins s σ H _ _ v w Q I rx ry ⟨rfl, ?_⟩
    rw [← e]
    exact q H fun _ _ e => e
  · have hA := ht
    have hB := hu
    cases ht with
    | @mk a dx p _ xs _ ea ep hx =>
    cases hu with
    | @mk b dy py _ ys _ eb epb hys =>
    cases (show v = Value.ref a from rx)
    cases (show w = Value.ref b from ry)
    obtain ⟨mA, J, _⟩ := ins_get I.hok ea
    obtain ⟨od, J', _⟩ := J.look
    obtain ⟨mB, JB, _⟩ := ins_get I.hok eb
    obtain ⟨odB, JB', _⟩ := JB.look
    obtain ⟨m, hF⟩ := I.fr
    have KI := I.ok.mod.kin.keeps hF.keep
    show wpAny (model X.prog X.w) X.A (richCompare .NotEq (.ref a) (.ref b)) (EP X pins σ Q) X.xe s
    have inner : wpAny (model X.prog X.w) X.A (call (.builtin "object.__ne__") [.ref a, .ref b]) (fun v u => v ≠ .notImplemented ∧ EP X pins σ Q v u) X.xe s := by
      refine wpAny_call (codeAny_call_builtin PySem.F.cmp_object.ne.plain PySem.F.cmpEntry_ne (check_ne KI J' hsub ?_))
      refine wpAny_mono (rawne (Q := fun v u => v ≠ .notImplemented ∧ EP X pins σ Q v u) KI J' M.eqF M.eqK hr.in1.units0 (wpAny_mono (call_eqM (A := X.A.in1) (y := .ref b) F hb ⟨hr.in1, rfl⟩ I rfl hA hB zt zu) (fun r u z => ?_) fun _ _ z => z)) (fun fin u z => ?_) fun _ _ z => z
      · obtain ⟨e, H', I', S⟩ := z
        exact ⟨_, e, by simp, .bl (!decide (Tr.mk m1 ts = Tr.mk m2 us)), H', I', rfl, q H' S⟩
      · obtain ⟨v, rfl, z⟩ := z
        exact z
    unfold richCompare
    simp only [oneThing_ref]
    refine wpAny_holding (wpAny_bind (wpAny_cRoomFor hr.units0 ?_))
    refine wpAny_bind (J'.type.here (wpAny_bind (JB'.type.here ?_)))
    rw [if_neg (by simp)]
    refine wpAny_bind (wpAny_pure ?_)
    simp only [Bool.false_eq_true, if_false]
    refine wpAny_bind (m := tryCompare (.ref a) _ _) ?_
    unfold tryCompare
    refine wpAny_bind (ifBound_B KI J' M.neF PySem.F.cmp_object.ne.bind (wpAny_mono inner (fun r u z => ?_) fun _ _ z => z))
    obtain ⟨nn, z⟩ := z
    cases r <;> first | exact absurd rfl nn | exact wpAny_pure (wpAny_pure z)
end
end Nm
namespace Nm
open PySem PySem.Spec PyProof.Rows L2
/-! ### texts: enumerate, list, times -/
/-- enumerate(s), s a text: a new pair of the place and the sign -/
def Itn (x : Str) : It :=
  ⟨fun i _ => i < x.cps.size, fun i H v H' => ∃ T c, v = .ref T ∧ H T = none ∧ H' = upd H T (.tup [.int (i : Nat), .str ⟨#[c]⟩]) ∧ x.cps[i]? = some c, fun i _ => i = x.cps.size⟩
theorem turn_enumS {P : Program} {w : World} {K : PySem.W.Frag} {elts : List Expr} {kk : Nat} {tpos : Pos} (x : Str) (t : Tok) (e it : Addr) :
    Turn P w K (.Tuple elts kk tpos) (Itn x) [e, it] e (fun i h => (∃ old, IsEnum h e it ((i : Nat) : Int) old) ∧ h.IsStrIter it (strIterType x) x t i ∧ e ≠ it) where
  mem := List.mem_cons_self
  obj := by
    rintro i h ⟨⟨old, he⟩, ⟨o, ho, _, hd⟩, _⟩ b hb
    rcases List.mem_cons.mp hb with rfl | hb
    · exact ⟨_, he, fun v q => nomatch q⟩
    · obtain rfl := List.mem_singleton.mp hb
      exact ⟨o, ho, fun v q => by rw [hd] at q; cases q⟩
  keep := by
    rintro i h h' ⟨⟨old, he⟩, ⟨o, ho, r⟩, hne⟩ k
    exact ⟨⟨old, k e List.mem_cons_self _ he⟩, ⟨o, k it (by simp) o ho, r⟩, hne⟩
  item := by
    intro X hP hw hK hc i pins s σ H E I hf st hg
    subst hP hw hK
    obtain ⟨⟨old, he⟩, hit, hne⟩ := st
    have hel := Heap.lt_size he
    have hil : it < s.heap.objs.size := by
      obtain ⟨_, q, _⟩ := hit
      exact Heap.lt_size q
    have hcase : ∀ b ∈ [e, it], b = e ∨ b = it := fun b hb => by simpa using hb
    refine wpAny_pyNext_enum_itemC (Draws.text (A := X.A.in1) (I.ok.hd hc) it x t) he hit hg hne (by simpa using hne) ?_
    rintro y h' tk ⟨c, u, hcx, rfl⟩ ho hit' hT hsz hk
    refine ⟨_, rfl, wpAny_letOwnedTupleGo_enum (s := { s with heap := h', toks := tk + 1 }) ho ?_⟩
    intro h2 he2 sb
    have hT2 : h2.get? s.heap.objs.size = some { cls := .type "tuple", data := .seq #[.int (i : Nat) tk, .str ⟨#[c]⟩ u] } := (sb.2 _ (Nat.ne_of_gt hel)).trans hT
    have new : ObjOk X.prog X.w (upd H s.heap.objs.size (.tup [.int (i : Nat), .str ⟨#[c]⟩])) h2 s.heap.objs.size (.tup [.int (i : Nat), .str ⟨#[c]⟩]) :=
      ⟨by show 2 ≤ sizeLine; decide, [.int (i : Nat) tk, .str ⟨#[c]⟩ u], .cons ⟨_, rfl⟩ (.cons ⟨_, rfl⟩ .nil), ⟨_, hT2, rfl, _, rfl⟩⟩
    have J : Inv X pins σ (upd H s.heap.objs.size (.tup [.int (i : Nat), .str ⟨#[c]⟩])) { s with heap := h2, toks := tk + 1 } := by
      refine I.turnedNew (ch := [e, it]) (fun b o hb q => ?_) hf (Nat.le_refl _) new
      have n1 : b ≠ e := fun z => hb (by simp [z])
      have n2 : b ≠ it := fun z => hb (by simp [z])
      exact (sb.2 b n1).trans (hk b o n1 n2 q)
    refine ⟨.ref s.heap.objs.size, _, J, rfl, ⟨_, c, rfl, I.hok.fresh (Nat.le_refl _), rfl, hcx⟩, ⟨⟨.str ⟨#[c]⟩ u, ?_⟩, ?_, hne⟩, ?_⟩
    · have e1 : ((i + 1 : Nat) : Int) = (i : Int) + 1 := Int.natCast_succ i
      rw [e1]
      exact he2
    · obtain ⟨o, q, r⟩ := hit'
      exact ⟨o, (sb.2 it (Ne.symm hne)).trans q, r⟩
    · intro b hb
      have lt : b < s.heap.objs.size := by
        rcases hcase b hb with rfl | rfl
        · exact hel
        · exact hil
      rw [upd_ne (Nat.ne_of_lt lt)]
      exact (hf b hb).1
  done := by
    intro X hP hw hK hc i pins s σ H E I hf st hg
    subst hP hw hK
    obtain ⟨⟨old, he⟩, hit, hne⟩ := st
    obtain ⟨f0, f1, f2, f3, f4, f5⟩ := hf it (by simp)
    have D := Draws.text (prog := X.prog) (w := X.w) (A := X.A.in1) (I.ok.hd hc) it x t
    obtain rfl : i = x.cps.size := hg
    exact wpAny_pyNext_enum_endD D he hit fun h' hx => ⟨rfl, I.turned (t' := s.toks) (fun b o hb q => hx b o hb q) f0 f1 f3 f4 f5⟩
  self := by
    rintro A i s Q E ⟨⟨old, he⟩, _⟩ h
    exact wpAny_pyIter_enum he h
theorem vals_signs : ∀ (cs : List Nat) (us : List Value), us.length = cs.length → (∀ (j : Nat) (v : Value), us[j]? = some v → ∃ c u, cs[j]? = some c ∧ v = Value.str ⟨#[c]⟩ u) → Vals (cs.map fun c => V.str ⟨#[c]⟩) us
  | [], [], _, _ => .nil
  | c :: cs, v :: us, hl, h => by
    obtain ⟨c', u, e, rfl⟩ := h 0 v rfl
    obtain rfl : c = c' := Option.some.inj e
    exact .cons ⟨u, rfl⟩ (vals_signs cs us (Nat.succ.inj hl) fun j v e => h (j + 1) v e)
  | [], _ :: _, hl, _ => nomatch hl
  | _ :: _, [], hl, _ => nomatch hl
theorem walk_enumS {z : Str} : Walk (Itn z) z.cps.size (fun _ => True) (fun i H v H' => ∃ T c, v = .ref T ∧ H T = none ∧ H' = upd H T (.tup [.int (i : Nat), .str ⟨#[c]⟩]) ∧ z.cps[i]? = some c) :=
  ⟨fun _ _ hi _ => hi, fun _ _ => rfl, fun _ _ _ _ _ _ y => y⟩
def iEnumS (ta : TA) : TI := fun σ H R => ta σ H fun vs H1 => ∃ x, vs = [.str x] ∧ R (Itn x) H1
theorem pi_enumS {X : Cx} {e : Expr} {ta : TA} {p pos tpos : Pos} {elts : List Expr} {kk : Nat} (hg : Gl X "enumerate") (hm : X.mg "enumerate" = none) (ha : PA X [e] ta) (hs : starEach [e] X.env = [(false, eval e X.env)] := by rfl) :
    PI X (.Tuple elts kk tpos) (.Call (.Name "enumerate" p) [e] [] pos) (iEnumS ta) := by
  constructor
  intro pins s σ H R I h
  refine Call_ (ld_blt I hg hm boot_enumerate (PyProof.Rows.callWith_type1 (thn (ha.run pos pins s σ H _ I h) ?_) hs rfl))
  rintro us s1 ⟨vs, H1, I1, r1, x, rfl, q⟩
  obtain ⟨u, rfl, t, rfl⟩ := vals1 r1
  refine call_enumerate_str fun h' he hit hsz hk => wpAny_pyIter_enum he ?_
  have I2 : Inv X pins σ H1 { s1 with heap := h' } := I1.kept (t' := s1.toks) hk
  refine ⟨s1.heap.objs.size + 1, [s1.heap.objs.size + 1, s1.heap.objs.size], _, _, H1, rfl, I2, turn_enumS x t (s1.heap.objs.size + 1) s1.heap.objs.size, ⟨⟨.none, he⟩, hit, Nat.succ_ne_self _⟩, ?_, q⟩
  intro b hb
  have hle : s1.heap.objs.size ≤ b := by
    rcases List.mem_cons.mp hb with rfl | hb
    · exact Nat.le_succ _
    · obtain rfl := List.mem_singleton.mp hb
      exact Nat.le_refl _
  exact I1.fpOk hle (I1.hok.fresh hle)
section
variable {X : Cx}
/-- list(s), s a text: its signs -/
theorem call_list_txt (hc : X.calm = true) : CallR X (.type "list") (fun xs H Q => ∃ z : Str, xs = [.str z] ∧ z.cps.size ≤ sizeLine ∧ ∀ p, H p = none → Q (.ref p) (upd H p (.lst (z.cps.toList.map fun c => V.str ⟨#[c]⟩)))) := by
  intro pins s σ H xs us Q I r h
  obtain ⟨z, rfl, hz, q⟩ := h
  obtain ⟨u, rfl, t, rfl⟩ := vals1 r
  refine call_list_str (hn := hz) (I.ok.hd hc) z t ?_
  intro h' tk acc' c' hk hL hI
  have len : acc'.size = z.cps.size := hI.1
  have vals : Vals (z.cps.toList.map fun c => V.str ⟨#[c]⟩) acc'.toList := vals_signs _ _ (by simpa using len) fun j v e => by
    obtain ⟨c, u, h1, h2⟩ := hI.2 j v (by simpa using e)
    exact ⟨c, u, by simpa using h1, h2⟩
  have new : ObjOk X.prog X.w (upd H s.heap.objs.size (.lst (z.cps.toList.map fun c => V.str ⟨#[c]⟩))) h' s.heap.objs.size (.lst (z.cps.toList.map fun c => V.str ⟨#[c]⟩)) :=
    ⟨by simpa using hz, acc'.toList, c', vals, by simpa using hL⟩
  exact ⟨.ref s.heap.objs.size, _, I.laid (t' := tk) hk (Nat.le_refl _) new, rfl, q _ (I.hok.fresh (Nat.le_refl _))⟩
/-- s * n -/
def timesS (z : Str) (k : Int) : Str := if k < 1 then Str.empty else if (k == 1 || z.length == 0) = true then z else ⟨(List.replicate k.toNat z.cps).foldl (· ++ ·) #[]⟩
theorem op_times : OpR X (binaryOp .Mult) (fun x y H Q => ∃ (z : Str) (k : Int), x = .str z ∧ y = .int k ∧ 0 ≤ k ∧ k ≤ 1000 ∧ z.length ≤ 1000 ∧ Q (.str (timesS z k)) H) := by
  intro pins s σ H x y v u Q I rx ry h
  obtain ⟨z, k, rfl, rfl, h0, h1, hz, q⟩ := h
  obtain ⟨t, rfl⟩ := rx
  obtain ⟨t', rfl⟩ := ry
  have big : ∀ n : Nat, n ≤ 1000000 → n ≤ sizeLine := fun n h => Nat.le_trans h (by decide)
  have hm : z.length * k.toNat ≤ 1000000 := by
    have e : z.length * k.toNat ≤ 1000 * 1000 := Nat.mul_le_mul hz (by omega)
    omega
  refine PySem.P.mul_str ?_ (fun hn _ => ?_) (fun _ _ => ?_) ?_
  · have a1 : ¬ k < -(2 ^ 63 : Int) := by omega
    have a2 : ¬ k ≥ 2 ^ 63 := by omega
    rw [decide_eq_false a1, decide_eq_false a2]
    rfl
  · have p1 : (1000 : Int) ≤ (2 ^ 63 - 1) / k := Int.le_ediv_of_mul_le (by omega) (by omega)
    have p2 : ((z.length : Nat) : Int) ≤ 1000 := by omega
    omega
  · exact decide_eq_false fun z => by
      have := big _ hm
      omega
  · unfold timesS at q
    by_cases c1 : k < 1
    · rw [if_pos c1] at q ⊢
      exact ⟨Nat.zero_le _, .str _, H, I.tok _, ⟨_, rfl⟩, q⟩
    · rw [if_neg c1] at q ⊢
      by_cases c2 : (k == 1 || z.length == 0) = true
      · rw [if_pos c2] at q ⊢
        exact ⟨.str z, H, I, ⟨_, rfl⟩, q⟩
      · rw [if_neg c2] at q ⊢
        refine ⟨?_, .str _, H, I.tok _, ⟨_, rfl⟩, q⟩
        have len : ∀ (n : Nat) (a : Array Nat) (acc : Array Nat), ((List.replicate n a).foldl (· ++ ·) acc).size = acc.size + n * a.size := by
          intro n
          induction n with
          | zero => intro a acc; simp
          | succ n ih =>
            intro a acc
            rw [List.replicate_succ, List.foldl_cons, ih, Array.size_append, Nat.succ_mul]
            omega
        show ((List.replicate k.toNat z.cps).foldl (· ++ ·) #[]).size ≤ sizeLine
        rw [len, Nat.mul_comm]
        have e : (#[] : Array Nat).size = 0 := rfl
        rw [e, Nat.zero_add]
        exact big _ hm
end
end Nm
namespace Nm
open PySem L2
/-! ### the mathematics: words of lines -/
abbrev codes (s : Str) : List Nat := s.cps.toList
def sBIG : Str := "ABCDEFGHIJKLMNOPQRSTUVWXYZ"
def sSMA : Str := "abcdefghijklmnopqrstuvwxyz"
def sDIG : Str := "0123456789"
def sALL : Str := sBIG ++ sSMA ++ sDIG ++ "_"
def kwL : List Str := ["kind", "fun", "let", "in"]
def allIn (t s : Str) : Bool := (codes t).all fun c => decide (c ∈ codes s)
def hd (w : Str) : Nat := (codes w).headD 0
def isName (w f : Str) : Bool := if (decide (w = "") || (decide (w.length > 24) || !decide (hd w ∈ codes f))) = true then false else allIn w sALL
def isBig (w : Str) : Bool := isName w sBIG
def isSmall (w : Str) : Bool := !decide (w ∈ kwL) && isName w sSMA
def digs (w : Str) : Str := if decide (cutS w none (some 1) = "-") = true then cutS w (some 1) none else w
def isNum (w : Str) : Bool :=
  if (decide (digs w = "") || (decide ((digs w).length > 400) || !allIn (digs w) sDIG)) = true then false else if decide (hd (digs w) = 48) = true then decide (w = "0") else true
def digs2 (w : Str) : Str := if decide (hd w = 45) = true then cutS w (some 1) none else w
def lawKind (w : Str) : Str :=
  if decide (w ∈ kwL) = true then w
  else if ((decide (hd w ∈ codes (sBIG ++ sSMA)) && decide (w.length ≤ 24)) && allIn w sALL) = true then (if decide (hd w ∈ codes sBIG) = true then "big" else "small")
  else if ((!decide (digs2 w = "") && (decide ((digs2 w).length ≤ 400) && allIn (digs2 w) sDIG)) && (decide (w = "0") || !decide (hd (digs2 w) = 48))) = true then "number" else "word " ++ w
theorem str_ext {a b : Str} (h : codes a = codes b) : a = b := by
  obtain ⟨⟨x⟩⟩ := a
  obtain ⟨⟨y⟩⟩ := b
  have e : x = y := h
  rw [e]
theorem codes_cons {w : Str} (h : w ≠ "") : ∃ c r, codes w = c :: r := by
  cases e : codes w with
  | nil => exact (h (str_ext (by rw [e]; rfl))).elim
  | cons c r => exact ⟨c, r, rfl⟩
theorem hd_of {w : Str} {c : Nat} {r : List Nat} (e : codes w = c :: r) : hd w = c := by
  unfold hd
  rw [e]
  rfl
theorem len_codes (w : Str) : w.length = (codes w).length := by
  show w.cps.size = w.cps.toList.length
  simp
theorem cut1_of {w : Str} {c : Nat} {r : List Nat} (e : codes w = c :: r) : codes (cutS w none (some 1)) = [c] := by
  have l : w.length = r.length + 1 := by rw [len_codes, e]; rfl
  show ((w.cps.toList.drop (HT.sIx w.length 0 none)).take (HT.sIx w.length w.length (some 1) - HT.sIx w.length 0 none)).toArray.toList = [c]
  rw [show HT.sIx w.length 0 none = 0 from rfl, show (some (1 : Int)) = some ((1 : Nat) : Int) from rfl, HT.sIx_nat, show w.cps.toList = c :: r from e, show min 1 w.length = 1 by omega]
  rfl
theorem cutT_codes (w : Str) : codes (cutS w (some 1) none) = (codes w).drop 1 := by
  show ((w.cps.toList.drop (HT.sIx w.length 0 (some 1))).take (HT.sIx w.length w.length none - HT.sIx w.length 0 (some 1))).toArray.toList = w.cps.toList.drop 1
  rw [show HT.sIx w.length w.length none = w.length from rfl, show (some (1 : Int)) = some ((1 : Nat) : Int) from rfl, HT.sIx_nat]
  have e : w.length = w.cps.toList.length := len_codes w
  rw [e]
  cases w.cps.toList with
  | nil => rfl
  | cons c r => simp
theorem digs_eq {w : Str} (h : w ≠ "") : digs w = digs2 w := by
  obtain ⟨c, r, e⟩ := codes_cons h
  unfold digs digs2
  have q : (cutS w none (some 1) = "-") ↔ (hd w = 45) := by
    rw [hd_of e]
    constructor
    · intro z
      have z2 := congrArg codes z
      rw [cut1_of e] at z2
      have z3 : [c] = [45] := z2
      exact (List.cons.inj z3).1
    · intro z
      exact str_ext (by rw [cut1_of e, z]; rfl)
  by_cases z : hd w = 45
  · rw [decide_eq_true z, decide_eq_true (q.mpr z)]
  · rw [decide_eq_false z, decide_eq_false fun y => z (q.mp y)]
theorem allIn_hd {w s : Str} {c : Nat} {r : List Nat} (e : codes w = c :: r) (h : allIn w s = true) : c ∈ codes s := by
  unfold allIn at h
  rw [e, List.all_cons] at h
  exact of_decide_eq_true (Bool.and_eq_true_iff.mp h).1
theorem kw_facts : ∀ w ∈ kwL, isBig w = false ∧ isNum w = false ∧ w ≠ "big" ∧ w ≠ "small" ∧ w ≠ "number" := by
  intro w h
  unfold kwL at h
  simp only [List.mem_cons, List.not_mem_nil, or_false] at h
  rcases h with rfl | rfl | rfl | rfl <;> decide +kernel
theorem letters_no_digits : ∀ c ∈ codes (sBIG ++ sSMA), c ∉ codes sDIG ∧ c ≠ 45 := by
  have h : (codes (sBIG ++ sSMA)).all (fun c => decide (c ∉ codes sDIG ∧ c ≠ 45)) = true := by decide +kernel
  intro c hc
  exact of_decide_eq_true (List.all_eq_true.mp h c hc)
theorem big_or_small (c : Nat) : c ∈ codes (sBIG ++ sSMA) ↔ c ∈ codes sBIG ∨ c ∈ codes sSMA := by
  have e : codes (sBIG ++ sSMA) = codes sBIG ++ codes sSMA := by decide +kernel
  rw [e, List.mem_append]
theorem big_not_small : ∀ c ∈ codes sBIG, c ∉ codes sSMA := by
  have h : (codes sBIG).all (fun c => decide (c ∉ codes sSMA)) = true := by decide +kernel
  intro c hc
  exact of_decide_eq_true (List.all_eq_true.mp h c hc)
theorem word_ne (w : Str) : ("word " : Str) ++ w ≠ "big" ∧ ("word " : Str) ++ w ≠ "small" ∧ ("word " : Str) ++ w ≠ "number" := by
  have e : codes (("word " : Str) ++ w) = 119 :: 111 :: 114 :: 100 :: 32 :: codes w := by
    show (("word " : Str).cps ++ w.cps).toList = _
    rw [Array.toList_append]
    rfl
  refine ⟨fun h => ?_, fun h => ?_, fun h => ?_⟩
  · have h3 : some 119 = (codes "big").head? := by
      rw [← h, e]
      rfl
    exact absurd h3 (by decide +kernel)
  · have h3 : some 119 = (codes "small").head? := by
      rw [← h, e]
      rfl
    exact absurd h3 (by decide +kernel)
  · have h3 : some 119 = (codes "number").head? := by
      rw [← h, e]
      rfl
    exact absurd h3 (by decide +kernel)
theorem asked_eq {w : Str} (h : w ≠ "") : isBig w = decide (lawKind w = "big") ∧ isSmall w = decide (lawKind w = "small") ∧ isNum w = decide (lawKind w = "number") := by
  obtain ⟨c, r, e⟩ := codes_cons h
  have hc := hd_of e
  unfold lawKind
  by_cases hk : w ∈ kwL
  · obtain ⟨f1, f2, f3, f4, f5⟩ := kw_facts w hk
    rw [if_pos (decide_eq_true hk), f1, f2, decide_eq_false f3, decide_eq_false f4, decide_eq_false f5]
    unfold isSmall
    rw [decide_eq_true hk]
    exact ⟨rfl, rfl, rfl⟩
  rw [if_neg (by rw [decide_eq_false hk]; exact Bool.false_ne_true)]
  have small_eq : isSmall w = isName w sSMA := by unfold isSmall; rw [decide_eq_false hk]; rfl
  have name_eq : ∀ f, isName w f = (decide (c ∈ codes f) && (decide (w.length ≤ 24) && allIn w sALL)) := fun f => by
    unfold isName
    rw [hc, decide_eq_false h]
    by_cases l : w.length ≤ 24
    · have l' : ¬ w.length > 24 := by omega
      by_cases m : c ∈ codes f
      · simp [l, l', m]
      · simp [l, l', m]
    · have l' : w.length > 24 := by omega
      simp [l, l']
  rw [hc]
  by_cases hn : ((decide (c ∈ codes (sBIG ++ sSMA)) && decide (w.length ≤ 24)) && allIn w sALL) = true
  · rw [if_pos hn]
    simp only [Bool.and_eq_true, decide_eq_true_eq] at hn
    obtain ⟨⟨hm, hl⟩, ha⟩ := hn
    obtain ⟨nd, nm⟩ := letters_no_digits c hm
    have num : isNum w = false := by
      have d2 : digs w = w := by
        rw [digs_eq h]
        unfold digs2
        rw [hc, if_neg (by rw [decide_eq_false nm]; exact Bool.false_ne_true)]
      unfold isNum
      rw [d2]
      have na : allIn w sDIG = false := by
        cases q : allIn w sDIG with
        | false => rfl
        | true => exact (nd (allIn_hd e q)).elim
      rw [na]
      simp
    rw [num]
    unfold isBig
    rw [small_eq, name_eq, name_eq, ha, decide_eq_true hl]
    by_cases b : c ∈ codes sBIG
    · rw [if_pos (decide_eq_true b), decide_eq_true b, decide_eq_false (big_not_small c b)]
      decide +kernel
    · have s : c ∈ codes sSMA := ((big_or_small c).mp hm).resolve_left b
      rw [if_neg (by rw [decide_eq_false b]; exact Bool.false_ne_true), decide_eq_false b, decide_eq_true s]
      decide +kernel
  · rw [if_neg hn]
    have big : isBig w = false := by
      unfold isBig
      rw [name_eq]
      cases q : (decide (c ∈ codes sBIG) && (decide (w.length ≤ 24) && allIn w sALL)) with
      | false => rfl
      | true =>
        simp only [Bool.and_eq_true, decide_eq_true_eq] at q
        exact (hn (by rw [decide_eq_true ((big_or_small c).mpr (.inl q.1)), decide_eq_true q.2.1, q.2.2]; rfl)).elim
    have small : isSmall w = false := by
      rw [small_eq, name_eq]
      cases q : (decide (c ∈ codes sSMA) && (decide (w.length ≤ 24) && allIn w sALL)) with
      | false => rfl
      | true =>
        simp only [Bool.and_eq_true, decide_eq_true_eq] at q
        exact (hn (by rw [decide_eq_true ((big_or_small c).mpr (.inr q.1)), decide_eq_true q.2.1, q.2.2]; rfl)).elim
    rw [big, small]
    have num : isNum w = ((!decide (digs2 w = "") && (decide ((digs2 w).length ≤ 400) && allIn (digs2 w) sDIG)) && (decide (w = "0") || !decide (hd (digs2 w) = 48))) := by
      unfold isNum
      rw [digs_eq h]
      by_cases a1 : digs2 w = ""
      · simp [a1]
      · by_cases a2 : (digs2 w).length ≤ 400
        · have a2' : ¬ (digs2 w).length > 400 := by omega
          cases a3 : allIn (digs2 w) sDIG with
          | false => simp [a1, a2, a2']
          | true =>
            by_cases a4 : hd (digs2 w) = 48
            · simp [a1, a2, a2', a4]
            · simp [a1, a2, a2', a4]
        · have a2' : (digs2 w).length > 400 := by omega
          simp [a1, a2, a2']
    rw [num]
    by_cases q : ((!decide (digs2 w = "") && (decide ((digs2 w).length ≤ 400) && allIn (digs2 w) sDIG)) && (decide (w = "0") || !decide (hd (digs2 w) = 48))) = true
    · rw [if_pos q, q]
      decide +kernel
    · rw [if_neg q]
      obtain ⟨w1, w2, w3⟩ := word_ne w
      rw [decide_eq_false w1, decide_eq_false w2, decide_eq_false w3]
      exact ⟨rfl, rfl, Bool.eq_false_iff.mpr q⟩
/-! the words of a line -/
def flush (k : Nat) (w : List Nat) : List (List Nat × Nat) := if w = [] then [] else [(w, k + 1 - w.length)]
def scan : List Nat → Nat → List Nat → List (List Nat × Nat)
  | [], k, w => flush k w
  | c :: r, k, w =>
    if c = 59 then flush k w
    else if c = 32 then flush k w ++ scan r (k + 1) []
    else if c = 40 ∨ c = 41 then flush k w ++ ([c], k + 1) :: scan r (k + 1) []
    else scan r (k + 1) (w ++ [c])
theorem scan_blank : ∀ (l : List Nat) (k : Nat) (w : List Nat), scan (l ++ [32]) k w = scan l k w
  | [], k, w => by
    show (if (32 : Nat) = 59 then flush k w else if (32 : Nat) = 32 then flush k w ++ flush (k + 1) [] else _) = flush k w
    rw [if_neg (by decide), if_pos rfl]
    simp [flush]
  | c :: r, k, w => by
    show (if c = 59 then _ else if c = 32 then _ ++ scan (r ++ [32]) (k + 1) [] else if c = 40 ∨ c = 41 then _ ++ ([c], k + 1) :: scan (r ++ [32]) (k + 1) [] else scan (r ++ [32]) (k + 1) (w ++ [c])) = scan (c :: r) k w
    rw [scan_blank r, scan_blank r]
    rfl
theorem scan_stop : ∀ (l : List Nat) (r : List Nat) (k : Nat) (w : List Nat), 59 ∉ l → scan (l ++ 59 :: r) k w = scan l k w
  | [], r, k, w, _ => by
    show (if (59 : Nat) = 59 then flush k w else _) = flush k w
    rw [if_pos rfl]
  | c :: l, r, k, w, h => by
    have h1 : c ≠ 59 := fun z => h (by simp [z])
    have h2 : 59 ∉ l := fun z => h (by simp [z])
    show (if c = 59 then _ else if c = 32 then _ ++ scan (l ++ 59 :: r) (k + 1) [] else if c = 40 ∨ c = 41 then _ ++ ([c], k + 1) :: scan (l ++ 59 :: r) (k + 1) [] else scan (l ++ 59 :: r) (k + 1) (w ++ [c])) = scan (c :: l) k w
    rw [scan_stop l r _ _ h2, scan_stop l r _ _ h2]
    rfl
/-- ahead of the first ; -/
def told (l : List Nat) : List Nat := l.takeWhile (· != 59)
theorem scan_told (l : List Nat) (k : Nat) (w : List Nat) : scan (told l) k w = scan l k w := by
  have nt : 59 ∉ told l := fun h => by
    have q := List.all_takeWhile (p := (· != 59)) (l := l)
    have := List.all_eq_true.mp q 59 h
    simp at this
  have e := List.takeWhile_append_dropWhile (p := (· != 59)) (l := l)
  cases d : l.dropWhile (· != 59) with
  | nil =>
    rw [d, List.append_nil] at e
    unfold told
    rw [e]
  | cons c r =>
    have hc : c = 59 := by
      have h1 := List.head?_dropWhile_not (p := (· != 59)) (l := l)
      rw [d] at h1
      simpa using h1
    rw [hc] at d
    rw [d] at e
    have e2 : told l ++ 59 :: r = l := e
    conv => rhs; rw [← e2]
    exact (scan_stop (told l) r k w nt).symm
end Nm
namespace Nm
open PySem PySem.Spec PyProof.Rows L2
open TL (numL tl_num numL_len numL_digits numL_ne numL_val numL_lt numL_step)
/-! ### the texts of values, their words, and how words are read -/
def Tr.parts : Tr → List Tr
  | .num _ => []
  | .mk _ ts => ts
def numC (i : Int) : List Nat := codes (Str.ofString (toString i))
theorem numC_nat (n : Nat) : numC (n : Int) = numL n := tl_num n
theorem numC_neg (n : Nat) : numC (Int.negSucc n) = 45 :: numL (n + 1) := by
  have e : toString (Int.negSucc n) = "-" ++ toString (n + 1) := rfl
  unfold numC
  rw [e]
  have h2 : numL (n + 1) = codes (Str.ofString (toString ((n + 1 : Nat) : Int))) := (numC_nat (n + 1)).symm
  rw [h2]
  show (Str.ofString ("-" ++ toString (n + 1))).cps.toList = _
  rw [PyProof.Rows.signs_ofString]
  show _ = 45 :: (Str.ofString (toString (n + 1))).cps.toList
  rw [PyProof.Rows.signs_ofString, String.toList_append, List.map_append]
  rfl
theorem numC_cases (i : Int) : (0 ≤ i ∧ numC i = numL i.natAbs) ∨ (i < 0 ∧ numC i = 45 :: numL i.natAbs) := by
  cases i with
  | ofNat n => exact .inl ⟨Int.natCast_nonneg n, numC_nat n⟩
  | negSucc n => exact .inr ⟨Int.negSucc_lt_zero n, numC_neg n⟩
theorem numC_len {i : Int} (h : i.natAbs < 10 ^ 400) : (numC i).length ≤ 401 := by
  have l := numL_len (k := 400) (by decide) h
  rcases numC_cases i with ⟨_, e⟩ | ⟨_, e⟩ <;> rw [e]
  · omega
  · simp only [List.length_cons]; omega
theorem numC_free {i : Int} {c : Nat} (h : c ∈ numC i) : c = 45 ∨ (48 ≤ c ∧ c ≤ 57) := by
  rcases numC_cases i with ⟨_, e⟩ | ⟨_, e⟩ <;> rw [e] at h
  · exact .inr (numL_digits _ c h)
  · rcases List.mem_cons.mp h with h | h
    · exact .inl h
    · exact .inr (numL_digits _ c h)
theorem numC_ne (i : Int) : numC i ≠ [] := by
  rcases numC_cases i with ⟨_, e⟩ | ⟨_, e⟩ <;> rw [e]
  · exact numL_ne _
  · exact fun z => nomatch z
mutual
def wC : Tr → List Nat
  | .num i => numC i
  | .mk m ps => codes m ++ wCL ps
def wCL : List Tr → List Nat
  | [] => []
  | p :: r => 32 :: ((if p.parts.isEmpty then wC p else 40 :: (wC p ++ [41])) ++ wCL r)
end
def pC (p : Tr) : List Nat := if p.parts.isEmpty then wC p else 40 :: (wC p ++ [41])
theorem wCL_cons (p : Tr) (r : List Tr) : wCL (p :: r) = 32 :: (pC p ++ wCL r) := by
  unfold pC
  rw [wCL]
mutual
def tk : Tr → List (List Nat)
  | .num i => [numC i]
  | .mk m ps => codes m :: tkL ps
def tkL : List Tr → List (List Nat)
  | [] => []
  | p :: r => (if p.parts.isEmpty then tk p else [40] :: (tk p ++ [[41]])) ++ tkL r
end
def tkP (p : Tr) : List (List Nat) := if p.parts.isEmpty then tk p else [40] :: (tk p ++ [[41]])
theorem tkL_cons (p : Tr) (r : List Tr) : tkL (p :: r) = tkP p ++ tkL r := by
  unfold tkP
  rw [tkL]
mutual
def Tr.good : Tr → Prop
  | .num i => i.natAbs < 10 ^ 400
  | .mk m ps => isBig m = true ∧ Tr.goodL ps
def Tr.goodL : List Tr → Prop
  | [] => True
  | t :: r => t.good ∧ Tr.goodL r
end
theorem goodL_mem : ∀ {ts : List Tr} {t : Tr}, Tr.goodL ts → t ∈ ts → t.good
  | u :: r, t, h, m => by
    unfold Tr.goodL at h
    rcases List.mem_cons.mp m with rfl | m
    · exact h.1
    · exact goodL_mem h.2 m
theorem goodL_app : ∀ {ts us : List Tr}, Tr.goodL ts → Tr.goodL us → Tr.goodL (ts ++ us)
  | [], _, _, k => k
  | t :: r, us, h, k => by
    unfold Tr.goodL at h
    show t.good ∧ Tr.goodL (r ++ us)
    exact ⟨h.1, goodL_app h.2 k⟩
/-! big names -/
def okC (c : Nat) : Prop := c ≠ 32 ∧ c ≠ 40 ∧ c ≠ 41 ∧ c ≠ 59
theorem all_ok : ∀ c ∈ codes sALL, okC c := by
  have h : (codes sALL).all (fun c => decide (c ≠ 32 ∧ c ≠ 40 ∧ c ≠ 41 ∧ c ≠ 59)) = true := by decide +kernel
  intro c hc
  have q := List.all_eq_true.mp h c hc
  exact (of_decide_eq_true q : c ≠ 32 ∧ c ≠ 40 ∧ c ≠ 41 ∧ c ≠ 59)
theorem big_split {m : Str} (h : isBig m = true) : m ≠ "" ∧ m.length ≤ 24 ∧ hd m ∈ codes sBIG ∧ allIn m sALL = true := by
  unfold isBig isName at h
  by_cases c : (decide (m = "") || (decide (m.length > 24) || !decide (hd m ∈ codes sBIG))) = true
  · rw [if_pos c] at h; cases h
  · rw [if_neg c] at h
    simp only [Bool.or_eq_true, decide_eq_true_eq, Bool.not_eq_true', decide_eq_false_iff_not, not_or, Decidable.not_not] at c
    exact ⟨c.1, by omega, c.2.2, h⟩
theorem big_of {m : Str} (h1 : m ≠ "") (h2 : m.length ≤ 24) (h3 : hd m ∈ codes sBIG) (h4 : allIn m sALL = true) : isBig m = true := by
  unfold isBig isName
  rw [decide_eq_false h1, decide_eq_false (by omega : ¬ m.length > 24), decide_eq_true h3]
  exact h4
theorem big_ok {m : Str} (h : isBig m = true) : ∀ c ∈ codes m, okC c := by
  obtain ⟨_, _, _, h4⟩ := big_split h
  intro c hc
  unfold allIn at h4
  exact all_ok c (of_decide_eq_true (List.all_eq_true.mp h4 c hc))
theorem big_ne {m : Str} (h : isBig m = true) : codes m ≠ [] := fun e => (big_split h).1 (str_ext (by rw [e]; rfl))
theorem big_num {m : Str} (h : isBig m = true) : isNum m = false := by
  obtain ⟨h1, h2, h3, h4⟩ := big_split h
  obtain ⟨c, r, e⟩ := codes_cons h1
  rw [hd_of e] at h3
  obtain ⟨nd, nm⟩ := letters_no_digits c ((big_or_small c).mpr (.inl h3))
  have d2 : digs m = m := by
    rw [digs_eq h1]
    unfold digs2
    rw [hd_of e, if_neg (by rw [decide_eq_false nm]; exact Bool.false_ne_true)]
  unfold isNum
  rw [d2]
  have na : allIn m sDIG = false := by
    cases q : allIn m sDIG with
    | false => rfl
    | true => exact (nd (allIn_hd e q)).elim
  rw [na]
  simp
/-! numbers -/
theorem dig_codes : codes sDIG = [48, 49, 50, 51, 52, 53, 54, 55, 56, 57] := by decide +kernel
theorem dig_mem (c : Nat) : c ∈ codes sDIG ↔ 48 ≤ c ∧ c ≤ 57 := by
  rw [dig_codes]
  simp only [List.mem_cons, List.not_mem_nil, or_false]
  omega
theorem allIn_dig (w : Str) : allIn w sDIG = true ↔ NumText.AllDigits (codes w) := by
  unfold allIn NumText.AllDigits
  rw [List.all_eq_true]
  exact ⟨fun h c hc => (dig_mem c).mp (of_decide_eq_true (h c hc)), fun h c hc => decide_eq_true ((dig_mem c).mpr (h c hc))⟩
def intOf (w : Str) : Int := (intText? w).getD 0
theorem num_split {w : Str} (h : isNum w = true) : digs w ≠ "" ∧ (digs w).length ≤ 400 ∧ allIn (digs w) sDIG = true := by
  unfold isNum at h
  by_cases c : (decide (digs w = "") || (decide ((digs w).length > 400) || !allIn (digs w) sDIG)) = true
  · rw [if_pos c] at h; cases h
  · simp only [Bool.or_eq_true, decide_eq_true_eq, Bool.not_eq_true', not_or, Bool.not_eq_false] at c
    exact ⟨c.1, by omega, c.2.2⟩
theorem digs2_codes {w : Str} {c : Nat} {r : List Nat} (e : codes w = c :: r) : codes (digs2 w) = if c = 45 then r else c :: r := by
  unfold digs2
  rw [hd_of e]
  by_cases h : c = 45
  · rw [decide_eq_true h, if_pos rfl, if_pos h, cutT_codes, e]
    rfl
  · rw [decide_eq_false h, if_neg Bool.false_ne_true, if_neg h, e]
theorem int_ok {w : Str} (h : isNum w = true) : intText? w = some (intOf w) ∧ w.length ≤ 401 := by
  obtain ⟨h1, h2, h3⟩ := num_split h
  have w0 : w ≠ "" := fun z => by subst z; exact absurd h1 (by decide +kernel)
  obtain ⟨c, r, e⟩ := codes_cons w0
  rw [digs_eq w0] at h1 h2 h3
  have e2 := digs2_codes e
  rw [allIn_dig, e2] at h3
  have lw := len_codes w
  have l2 := len_codes (digs2 w)
  rw [e2] at l2
  rw [e] at lw
  by_cases hc : c = 45
  · subst hc
    rw [if_pos rfl] at h3 l2
    have rn : r ≠ [] := fun z => h1 (str_ext (by rw [e2, if_pos rfl, z]; rfl))
    have ll : w.length ≤ 401 := by simp only [List.length_cons] at lw; omega
    have q := intText_neg (x := w) (cs := r) e h3 rn (by omega)
    unfold intOf
    rw [q]
    exact ⟨rfl, ll⟩
  · rw [if_neg hc] at h3 l2
    have ll : w.length ≤ 401 := by omega
    have q := intText_digits (x := w) (by rw [show w.cps.toList = c :: r from e]; exact h3) (by rw [show w.cps.toList = c :: r from e]; exact fun z => nomatch z) (by omega)
    unfold intOf
    rw [q]
    exact ⟨rfl, ll⟩
def numS (i : Int) : Str := Str.ofString (toString i)
theorem numS_codes (i : Int) : codes (numS i) = numC i := rfl
theorem numL_hd {n : Nat} (h : n ≠ 0) : ∃ c r, numL n = c :: r ∧ c ≠ 48 := by
  induction n using Nat.strongRecOn with
  | _ n ih =>
    by_cases l : n < 10
    · exact ⟨48 + n, [], numL_lt l, by omega⟩
    · obtain ⟨c, r, e, k⟩ := ih (n / 10) (by omega) (by omega)
      exact ⟨c, r ++ [48 + n % 10], by rw [numL_step (by omega), e]; rfl, k⟩
theorem numS_num {i : Int} (h : i.natAbs < 10 ^ 400) : isNum (numS i) = true ∧ intOf (numS i) = i := by
  have ne : numS i ≠ "" := fun z => numC_ne i (by rw [← numS_codes, z]; rfl)
  obtain ⟨c, r, e⟩ := codes_cons ne
  have ll := numL_len (k := 400) (by decide) h
  have dg := numL_digits i.natAbs
  have hv := numL_val i.natAbs
  have nn := numL_ne i.natAbs
  have e2 := digs2_codes e
  have key : codes (digs2 (numS i)) = numL i.natAbs := by
    rw [e2]
    rw [numS_codes] at e
    rcases numC_cases i with ⟨h0, q⟩ | ⟨h0, q⟩
    · rw [q] at e
      have := dg c (by rw [e]; exact List.mem_cons_self ..)
      rw [if_neg (by omega), e]
    · rw [q] at e
      obtain ⟨e1, e3⟩ := List.cons.inj e
      rw [if_pos e1.symm, e3]
  have d0 : digs2 (numS i) ≠ "" := fun z => nn (by rw [← key, z]; rfl)
  have al : allIn (digs2 (numS i)) sDIG = true := by rw [allIn_dig, key]; exact dg
  have dl : ¬ (digs2 (numS i)).length > 400 := by rw [len_codes, key]; omega
  have l1 := numC_len h
  have lS : (numS i).length ≤ 401 := by rw [len_codes, numS_codes]; exact l1
  constructor
  · unfold isNum
    rw [digs_eq ne, decide_eq_false d0, decide_eq_false dl, al]
    show (if decide (hd (digs2 (numS i)) = 48) = true then decide (numS i = "0") else true) = true
    by_cases z : i.natAbs = 0
    · have i0 : i = 0 := by omega
      subst i0
      decide +kernel
    · obtain ⟨c', r', e', k'⟩ := numL_hd z
      rw [hd_of (key.trans e'), decide_eq_false k']
      rfl
  · unfold intOf
    rcases numC_cases i with ⟨h0, q⟩ | ⟨h0, q⟩
    · have x := intText_digits (x := numS i) (by rw [show (numS i).cps.toList = numL i.natAbs from q]; exact dg) (by rw [show (numS i).cps.toList = numL i.natAbs from q]; exact nn) (by omega)
      rw [x, show (numS i).cps.toList = numL i.natAbs from q, hv]
      show ((i.natAbs : Nat) : Int) = i
      omega
    · have x := intText_neg (x := numS i) (cs := numL i.natAbs) q dg nn (by omega)
      rw [x, hv]
      show -((i.natAbs : Nat) : Int) = i
      omega
theorem num_log {i : Int} (h : i.natAbs < 10 ^ 400) : i.natAbs.log2 < 1920 := by
  by_cases z : i.natAbs = 0
  · rw [z]; decide
  · rw [Nat.log2_lt z]
    exact Nat.lt_trans h (by decide +kernel)
/-! the words of a text, without their columns -/
def fl (w : List Nat) : List (List Nat) := if w = [] then [] else [w]
def wd : List Nat → List Nat → List (List Nat)
  | [], w => fl w
  | c :: r, w => if c = 59 then fl w else if c = 32 then fl w ++ wd r [] else if c = 40 ∨ c = 41 then fl w ++ [c] :: wd r [] else wd r (w ++ [c])
theorem flush_fl (k : Nat) (w : List Nat) : (flush k w).map (·.1) = fl w := by
  unfold flush fl
  by_cases h : w = []
  · rw [if_pos h, if_pos h]; rfl
  · rw [if_neg h, if_neg h]; rfl
theorem scan_wd : ∀ (l : List Nat) (k : Nat) (w : List Nat), (scan l k w).map (·.1) = wd l w
  | [], k, w => flush_fl k w
  | c :: r, k, w => by
    unfold scan wd
    by_cases h1 : c = 59
    · rw [if_pos h1, if_pos h1]; exact flush_fl k w
    · rw [if_neg h1, if_neg h1]
      by_cases h2 : c = 32
      · rw [if_pos h2, if_pos h2, List.map_append, flush_fl, scan_wd r]
      · rw [if_neg h2, if_neg h2]
        by_cases h3 : c = 40 ∨ c = 41
        · rw [if_pos h3, if_pos h3, List.map_append, List.map_cons, flush_fl, scan_wd r]
        · rw [if_neg h3, if_neg h3, scan_wd r]
theorem wd_stop : ∀ (l r w : List Nat), wd (l ++ 59 :: r) w = wd l w
  | [], r, w => by
    show (if (59 : Nat) = 59 then fl w else _) = fl w
    rw [if_pos rfl]
  | c :: l, r, w => by
    show (if c = 59 then fl w else if c = 32 then fl w ++ wd (l ++ 59 :: r) [] else if c = 40 ∨ c = 41 then fl w ++ [c] :: wd (l ++ 59 :: r) [] else wd (l ++ 59 :: r) (w ++ [c])) = wd (c :: l) w
    rw [wd_stop l r, wd_stop l r]
    rfl
theorem wd_blank : ∀ (l r w : List Nat), 59 ∉ l → wd (l ++ 32 :: r) w = wd l w ++ wd r []
  | [], r, w, _ => by
    show (if (32 : Nat) = 59 then fl w else if (32 : Nat) = 32 then fl w ++ wd r [] else _) = fl w ++ wd r []
    rw [if_neg (by decide), if_pos rfl]
  | c :: l, r, w, h => by
    have h1 : c ≠ 59 := fun z => h (by simp [z])
    have h2 : 59 ∉ l := fun z => h (by simp [z])
    show (if c = 59 then fl w else if c = 32 then fl w ++ wd (l ++ 32 :: r) [] else if c = 40 ∨ c = 41 then fl w ++ [c] :: wd (l ++ 32 :: r) [] else wd (l ++ 32 :: r) (w ++ [c])) = (if c = 59 then fl w else if c = 32 then fl w ++ wd l [] else if c = 40 ∨ c = 41 then fl w ++ [c] :: wd l [] else wd l (w ++ [c])) ++ wd r []
    rw [wd_blank l r _ h2, wd_blank l r _ h2, if_neg h1, if_neg h1]
    by_cases h3 : c = 32
    · rw [if_pos h3, if_pos h3, List.append_assoc]
    · rw [if_neg h3, if_neg h3]
      by_cases h4 : c = 40 ∨ c = 41
      · rw [if_pos h4, if_pos h4]; simp
      · rw [if_neg h4, if_neg h4]
theorem wd_paren {c : Nat} (hc : c = 40 ∨ c = 41) : ∀ (l r w : List Nat), 59 ∉ l → wd (l ++ c :: r) w = wd l w ++ [c] :: wd r []
  | [], r, w, _ => by
    show (if c = 59 then fl w else if c = 32 then fl w ++ wd r [] else if c = 40 ∨ c = 41 then fl w ++ [c] :: wd r [] else wd r (w ++ [c])) = fl w ++ [c] :: wd r []
    rw [if_neg (by omega), if_neg (by omega), if_pos hc]
  | d :: l, r, w, h => by
    have h1 : d ≠ 59 := fun z => h (by simp [z])
    have h2 : 59 ∉ l := fun z => h (by simp [z])
    show (if d = 59 then fl w else if d = 32 then fl w ++ wd (l ++ c :: r) [] else if d = 40 ∨ d = 41 then fl w ++ [d] :: wd (l ++ c :: r) [] else wd (l ++ c :: r) (w ++ [d])) = (if d = 59 then fl w else if d = 32 then fl w ++ wd l [] else if d = 40 ∨ d = 41 then fl w ++ [d] :: wd l [] else wd l (w ++ [d])) ++ [c] :: wd r []
    rw [wd_paren hc l r _ h2, wd_paren hc l r _ h2, if_neg h1, if_neg h1]
    by_cases h3 : d = 32
    · rw [if_pos h3, if_pos h3, List.append_assoc]
    · rw [if_neg h3, if_neg h3]
      by_cases h4 : d = 40 ∨ d = 41
      · rw [if_pos h4, if_pos h4]; simp
      · rw [if_neg h4, if_neg h4]
theorem wd_word : ∀ (u w : List Nat), (∀ c ∈ u, okC c) → wd u w = fl (w ++ u)
  | [], w, _ => by rw [List.append_nil]; rfl
  | c :: u, w, h => by
    obtain ⟨h1, h2, h3, h4⟩ := h c (List.mem_cons_self ..)
    unfold wd
    rw [if_neg h4, if_neg h1, if_neg (by omega), wd_word u _ fun d hd => h d (List.mem_cons_of_mem _ hd), List.append_assoc]
    rfl
theorem fl_of {w : List Nat} (h : w ≠ []) : fl w = [w] := if_neg h
theorem numC_ok (i : Int) : ∀ c ∈ numC i, okC c := fun c hc => by
  rcases numC_free hc with h | h
  · exact ⟨by omega, by omega, by omega, by omega⟩
  · exact ⟨by omega, by omega, by omega, by omega⟩
mutual
theorem free_wC : ∀ t : Tr, t.good → 59 ∉ wC t
  | .num i, _, h => (numC_ok i 59 (by unfold wC at h; exact h)).2.2.2 rfl
  | .mk m ps, g, h => by
    unfold Tr.good at g
    unfold wC at h
    rcases List.mem_append.mp h with h | h
    · exact (big_ok g.1 59 h).2.2.2 rfl
    · exact free_wCL ps g.2 h
theorem free_wCL : ∀ ps : List Tr, Tr.goodL ps → 59 ∉ wCL ps
  | [], _, h => by unfold wCL at h; exact nomatch h
  | p :: r, g, h => by
    unfold Tr.goodL at g
    rw [wCL_cons] at h
    have fp := free_wC p g.1
    have fr := free_wCL r g.2
    unfold pC at h
    by_cases e : p.parts.isEmpty = true
    · rw [if_pos e] at h
      simp only [List.mem_cons, List.mem_append] at h
      rcases h with h | h | h
      · omega
      · exact fp h
      · exact fr h
    · rw [if_neg e] at h
      simp only [List.mem_cons, List.mem_append, List.not_mem_nil, or_false] at h
      rcases h with h | (h | h | h) | h
      · omega
      · omega
      · exact fp h
      · omega
      · exact fr h
end
mutual
theorem wd_wC : ∀ t : Tr, t.good → wd (wC t) [] = tk t
  | .num i, _ => by
    unfold wC tk
    rw [wd_word _ _ (numC_ok i), List.nil_append, fl_of (numC_ne i)]
  | .mk m ps, g => by
    unfold Tr.good at g
    unfold wC tk
    have q := wd_wCL ps g.2 (codes m) fun h => (big_ok g.1 59 h).2.2.2 rfl
    rw [q, wd_word _ _ (big_ok g.1), List.nil_append, fl_of (big_ne g.1)]
    rfl
theorem wd_wCL : ∀ ps : List Tr, Tr.goodL ps → ∀ l : List Nat, 59 ∉ l → wd (l ++ wCL ps) [] = wd l [] ++ tkL ps
  | [], _, l, _ => by
    unfold wCL tkL
    rw [List.append_nil, List.append_nil]
  | p :: r, g, l, hl => by
    unfold Tr.goodL at g
    have fp := free_wC p g.1
    have wp := wd_wC p g.1
    rw [wCL_cons, tkL_cons, wd_blank _ _ _ hl]
    congr 1
    have ep : 59 ∉ pC p ∧ wd (pC p) [] = tkP p := by
      unfold pC tkP
      by_cases e : p.parts.isEmpty = true
      · rw [if_pos e, if_pos e]
        exact ⟨fp, wp⟩
      · rw [if_neg e, if_neg e]
        refine ⟨fun h => ?_, ?_⟩
        · simp only [List.mem_cons, List.mem_append, List.not_mem_nil, or_false] at h
          rcases h with h | h | h
          · omega
          · exact fp h
          · omega
        · have e1 := wd_paren (c := 40) (.inl rfl) [] (wC p ++ [41]) [] (fun h => nomatch h)
          have e2 := wd_paren (c := 41) (.inr rfl) (wC p) [] [] fp
          rw [List.nil_append] at e1
          rw [e1, e2, wp]
          rfl
    rw [wd_wCL r g.2 (pC p) ep.1, ep.2]
end
/-! more blanks -/
inductive Wide : List Nat → List Nat → Prop
  | nil : Wide [] []
  | sep {l l' : List Nat} {c : Nat} (a b : Nat) (h : Wide l l') (hc : c = 32 ∨ c = 40 ∨ c = 41) : Wide (l ++ [c]) (l' ++ (List.replicate a 32 ++ c :: List.replicate b 32))
  | sign {l l' : List Nat} {c : Nat} (h : Wide l l') (hc : c ≠ 32 ∧ c ≠ 40 ∧ c ≠ 41) : Wide (l ++ [c]) (l' ++ [c])
theorem wd_cong : ∀ (l x y w : List Nat), (∀ w', wd x w' = wd y w') → wd (l ++ x) w = wd (l ++ y) w
  | [], x, y, w, h => h w
  | c :: l, x, y, w, h => by
    show (if c = 59 then fl w else if c = 32 then fl w ++ wd (l ++ x) [] else if c = 40 ∨ c = 41 then fl w ++ [c] :: wd (l ++ x) [] else wd (l ++ x) (w ++ [c])) = (if c = 59 then fl w else if c = 32 then fl w ++ wd (l ++ y) [] else if c = 40 ∨ c = 41 then fl w ++ [c] :: wd (l ++ y) [] else wd (l ++ y) (w ++ [c]))
    rw [wd_cong l x y _ h, wd_cong l x y _ h]
theorem wd_blanks (a : Nat) (r : List Nat) : wd (List.replicate a 32 ++ r) [] = wd r [] := by
  induction a with
  | zero => rfl
  | succ a ih =>
    rw [List.replicate_succ]
    have e := wd_blank [] (List.replicate a 32 ++ r) [] (fun h => nomatch h)
    rw [List.nil_append] at e
    show wd (32 :: (List.replicate a 32 ++ r)) [] = _
    rw [e, ih]
    rfl
theorem wd_sep {c : Nat} (hc : c = 32 ∨ c = 40 ∨ c = 41) (a b : Nat) (r w : List Nat) : wd ((List.replicate a 32 ++ c :: List.replicate b 32) ++ r) w = wd (c :: r) w := by
  have base : ∀ w, wd (c :: (List.replicate b 32 ++ r)) w = wd (c :: r) w := fun w => by
    rcases hc with rfl | h
    · have e1 := wd_blank [] (List.replicate b 32 ++ r) w (fun h => nomatch h)
      have e2 := wd_blank [] r w (fun h => nomatch h)
      rw [List.nil_append] at e1 e2
      rw [e1, e2, wd_blanks]
    · have e1 := wd_paren h [] (List.replicate b 32 ++ r) w (fun h => nomatch h)
      have e2 := wd_paren h [] r w (fun h => nomatch h)
      rw [List.nil_append] at e1 e2
      rw [e1, e2, wd_blanks]
  rw [List.append_assoc]
  cases a with
  | zero => exact base w
  | succ a =>
    have e1 := wd_blank [] (List.replicate a 32 ++ c :: (List.replicate b 32 ++ r)) w (fun h => nomatch h)
    rw [List.nil_append] at e1
    show wd (32 :: (List.replicate a 32 ++ c :: (List.replicate b 32 ++ r))) w = _
    rw [e1, wd_blanks, base []]
    rcases hc with rfl | h
    · have e2 := wd_blank [] r w (fun h => nomatch h)
      have e3 := wd_blank [] r [] (fun h => nomatch h)
      rw [List.nil_append] at e2 e3
      rw [e2, e3]
      rfl
    · have e2 := wd_paren h [] r w (fun h => nomatch h)
      have e3 := wd_paren h [] r [] (fun h => nomatch h)
      rw [List.nil_append] at e2 e3
      rw [e2, e3]
      rfl
theorem Wide.wd {l l' : List Nat} (h : Wide l l') : ∀ r w, Nm.wd (l' ++ r) w = Nm.wd (l ++ r) w := by
  induction h with
  | nil => exact fun _ _ => rfl
  | @sep l l' c a b h hc ih =>
    intro r w
    rw [List.append_assoc l', ih, List.append_assoc l]
    exact wd_cong l _ _ w fun w' => wd_sep hc a b r w'
  | @sign l l' c h hc ih =>
    intro r w
    rw [List.append_assoc, List.append_assoc, ih]
theorem Wide.free {l l' : List Nat} (h : Wide l l') (f : 59 ∉ l) : 59 ∉ l' := by
  induction h with
  | nil => exact f
  | @sep l l' c a b h hc ih =>
    have f1 : 59 ∉ l := fun z => f (List.mem_append_left _ z)
    intro z
    simp only [List.mem_append, List.mem_cons, List.mem_replicate] at z
    rcases z with z | z | z | z
    · exact ih f1 z
    · omega
    · omega
    · omega
  | @sign l l' c h hc ih =>
    have f1 : 59 ∉ l := fun z => f (List.mem_append_left _ z)
    intro z
    rcases List.mem_append.mp z with z | z
    · exact ih f1 z
    · exact f (List.mem_append_right _ z)
/-! how words are read -/
abbrev Itm := Str ⊕ Tr
def mayP : List Itm → Bool
  | .inl _ :: _ => true
  | _ => false
def valsI (l : List Itm) : List Tr := l.filterMap fun i => match i with
  | .inr t => some t
  | .inl _ => none
def readV : List Itm → Tr
  | .inl m :: r => .mk m (valsI r)
  | .inr t :: _ => t
  | [] => .num 0
theorem valsI_map (ps : List Tr) : valsI (ps.map .inr) = ps := by
  unfold valsI
  induction ps with
  | nil => rfl
  | cons p r ih => rw [List.map_cons, List.filterMap_cons, ih]
def takeW1 (told : List Itm) (rest : List (List Itm)) (w : Str) : Option (List (List Itm)) :=
  if w = "(" then (if (!mayP told && (!rest.isEmpty || !told.isEmpty)) = true then none else some ([] :: told :: rest))
  else if w = ")" then (match rest with
    | [] => none
    | t2 :: r2 => if told.isEmpty = true then none else some ((t2 ++ [.inr (readV told)]) :: r2))
  else if (!told.isEmpty && !mayP told) = true then none
  else if isNum w = true then some ((told ++ [.inr (.num (intOf w))]) :: rest)
  else if isBig w = true then some ((told ++ [if told.isEmpty = true then .inl w else .inr (.mk w [])]) :: rest)
  else none
def takeW : List (List Itm) → Str → Option (List (List Itm))
  | [], _ => none
  | told :: rest, w => takeW1 told rest w
def takeAll : List (List Itm) → List Str → Option (List (List Itm))
  | S, [] => some S
  | S, w :: r => match takeW S w with
    | none => none
    | some S' => takeAll S' r
theorem takeAll_app : ∀ (a b : List Str) (S S' : List (List Itm)), takeAll S a = some S' → takeAll S (a ++ b) = takeAll S' b
  | [], b, S, S', h => by
    obtain rfl := Option.some.inj h
    rfl
  | w :: a, b, S, S', h => by
    show (match takeW S w with | none => none | some S' => takeAll S' (a ++ b)) = _
    unfold takeAll at h
    cases e : takeW S w with
    | none => rw [e] at h; cases h
    | some S1 =>
      rw [e] at h
      exact takeAll_app a b S1 S' h
abbrev ws (l : List (List Nat)) : List Str := l.map fun w => ⟨w.toArray⟩
theorem ws_codes (m : Str) : (⟨(codes m).toArray⟩ : Str) = m := str_ext (by simp)
def toldOf : Tr → List Itm
  | .num i => [.inr (.num i)]
  | .mk m ps => .inl m :: ps.map .inr
theorem readV_told (t : Tr) : readV (toldOf t) = t := by
  cases t with
  | num i => rfl
  | mk m ps =>
    show Tr.mk m (valsI (ps.map .inr)) = _
    rw [valsI_map]
theorem ne_paren {w : Str} (h : ∀ c ∈ codes w, okC c) : w ≠ "(" ∧ w ≠ ")" := by
  refine ⟨fun z => ?_, fun z => ?_⟩
  · subst z
    exact (h 40 (by decide +kernel)).2.1 rfl
  · subst z
    exact (h 41 (by decide +kernel)).2.2.1 rfl
theorem take_num {told : List Itm} {rest : List (List Itm)} {i : Int} (h : i.natAbs < 10 ^ 400) (m : told = [] ∨ mayP told = true) : takeW (told :: rest) (numS i) = some ((told ++ [.inr (.num i)]) :: rest) := by
  obtain ⟨n1, n2⟩ := ne_paren (w := numS i) (numC_ok i)
  obtain ⟨a, b⟩ := numS_num h
  show takeW1 _ _ _ = _
  unfold takeW1
  rw [if_neg n1, if_neg n2, if_neg (by rcases m with rfl | m <;> simp [*]), if_pos a, b]
theorem take_big {told : List Itm} {rest : List (List Itm)} {w : Str} (h : isBig w = true) (m : told = [] ∨ mayP told = true) : takeW (told :: rest) w = some ((told ++ [if told.isEmpty = true then .inl w else .inr (.mk w [])]) :: rest) := by
  obtain ⟨n1, n2⟩ := ne_paren (w := w) (big_ok h)
  show takeW1 _ _ _ = _
  unfold takeW1
  rw [if_neg n1, if_neg n2, if_neg (by rcases m with rfl | m <;> simp [*]), if_neg (by rw [big_num h]; exact Bool.false_ne_true), if_pos h]
theorem take_open {told : List Itm} {rest : List (List Itm)} (m : mayP told = true ∨ (rest = [] ∧ told = [])) : takeW (told :: rest) ("(" : Str) = some ([] :: told :: rest) := by
  show takeW1 _ _ _ = _
  unfold takeW1
  rw [if_pos rfl, if_neg (by rcases m with m | ⟨rfl, rfl⟩ <;> simp [*])]
theorem take_close {told t2 : List Itm} {r2 : List (List Itm)} (h : told ≠ []) : takeW (told :: t2 :: r2) (")" : Str) = some ((t2 ++ [.inr (readV told)]) :: r2) := by
  show takeW1 _ _ _ = _
  unfold takeW1
  rw [if_neg (by decide +kernel), if_pos rfl]
  show (if told.isEmpty = true then none else _) = _
  rw [if_neg (by cases told with | nil => exact (h rfl).elim | cons a b => exact Bool.false_ne_true)]
theorem take_one {S S' : List (List Itm)} {w : Str} (h : takeW S w = some S') (r : List Str) : takeAll S (w :: r) = takeAll S' r := by
  show (match takeW S w with | none => none | some S' => takeAll S' r) = _
  rw [h]
theorem toldOf_ne (t : Tr) : toldOf t ≠ [] := by cases t <;> exact fun z => nomatch z
mutual
theorem take_tk : ∀ t : Tr, t.good → ∀ (rest : List (List Itm)) (r : List Str), takeAll ([] :: rest) (ws (tk t) ++ r) = takeAll (toldOf t :: rest) r
  | .num i, g, rest, r => by
    unfold Tr.good at g
    unfold tk
    exact take_one (take_num g (.inl rfl)) r
  | .mk m ps, g, rest, r => by
    unfold Tr.good at g
    unfold tk
    show takeAll ([] :: rest) ((⟨(codes m).toArray⟩ : Str) :: (ws (tkL ps) ++ r)) = _
    rw [ws_codes, take_one (take_big g.1 (.inl rfl))]
    exact take_tkL ps g.2 m [] rest r
theorem take_tkL : ∀ ps : List Tr, Tr.goodL ps → ∀ (m : Str) (xs : List Itm) (rest : List (List Itm)) (r : List Str), takeAll ((.inl m :: xs) :: rest) (ws (tkL ps) ++ r) = takeAll ((.inl m :: (xs ++ ps.map .inr)) :: rest) r
  | [], _, m, xs, rest, r => by
    unfold tkL
    rw [List.map_nil, List.append_nil]
    rfl
  | p :: q, g, m, xs, rest, r => by
    unfold Tr.goodL at g
    rw [tkL_cons]
    have e1 : ws (tkP p ++ tkL q) ++ r = ws (tkP p) ++ (ws (tkL q) ++ r) := by simp [ws]
    have e2 : takeAll ((.inl m :: xs) :: rest) (ws (tkP p) ++ (ws (tkL q) ++ r)) = takeAll ((.inl m :: (xs ++ [.inr p])) :: rest) (ws (tkL q) ++ r) := by
      have ind := take_tk p g.1
      generalize ws (tkL q) ++ r = r'
      unfold tkP
      by_cases e : p.parts.isEmpty = true
      · rw [if_pos e]
        cases p with
        | num i =>
          have g1 := g.1
          unfold Tr.good at g1
          unfold tk
          exact take_one (take_num (told := .inl m :: xs) g1 (.inr rfl)) r'
        | mk m' ps' =>
          have g1 := g.1
          unfold Tr.good at g1
          have e0 : ps' = [] := List.isEmpty_iff.mp e
          subst e0
          unfold tk tkL
          show takeAll ((.inl m :: xs) :: rest) ((⟨(codes m').toArray⟩ : Str) :: r') = _
          rw [ws_codes, take_one (take_big (told := .inl m :: xs) g1.1 (.inr rfl))]
          rfl
      · rw [if_neg e]
        have e3 : ws ([40] :: (tk p ++ [[41]])) ++ r' = ("(" : Str) :: (ws (tk p) ++ ((")" : Str) :: r')) := by
          simp only [ws, List.map_cons, List.map_append, List.cons_append, List.append_assoc, List.map_nil, List.nil_append]
          rfl
        rw [e3, take_one (take_open (.inl rfl)), ind ((.inl m :: xs) :: rest), take_one (take_close (toldOf_ne p)), readV_told]
        rfl
    rw [e1, e2]
    have e4 := take_tkL q g.2 m (xs ++ [.inr p]) rest r
    rw [List.append_assoc] at e4
    exact e4
end
/-- the words of a text tell a value -/
def Tells (l : List Nat) (t : Tr) : Prop := ∃ told : List Itm, takeAll [[]] (ws (wd l [])) = some [told] ∧ told ≠ [] ∧ readV told = t
theorem tells_of {t : Tr} (g : t.good) {l : List Nat} (e : wd l [] = tk t) : Tells l t := by
  have h := take_tk t g [] []
  rw [List.append_nil] at h
  refine ⟨toldOf t, ?_, toldOf_ne t, readV_told t⟩
  rw [e]
  exact h
theorem tells_in {t : Tr} (g : t.good) {l : List Nat} (e : wd l [] = [40] :: (tk t ++ [[41]])) : Tells l t := by
  have e3 : ws ([40] :: (tk t ++ [[41]])) = ("(" : Str) :: (ws (tk t) ++ [(")" : Str)]) := by
    simp only [ws, List.map_cons, List.map_append, List.map_nil]
    rfl
  refine ⟨[.inr t], ?_, (fun z => nomatch z), rfl⟩
  rw [e, e3, take_one (take_open (.inr ⟨rfl, rfl⟩)), take_tk t g, take_one (take_close (toldOf_ne t)), readV_told]
  rfl
mutual
theorem len_wC : ∀ t : Tr, t.good → (wC t).length + 3 ≤ 410 * t.sz
  | .num i, g => by
    unfold Tr.good at g
    have h := numC_len g
    unfold wC Tr.sz
    omega
  | .mk m ps, g => by
    unfold Tr.good at g
    have h := (big_split g.1).2.1
    rw [len_codes] at h
    have k := len_wCL ps g.2
    unfold wC Tr.sz
    rw [List.length_append]
    omega
theorem len_wCL : ∀ ps : List Tr, Tr.goodL ps → (wCL ps).length ≤ 410 * Tr.szL ps
  | [], _ => by simp [wCL]
  | p :: r, g => by
    unfold Tr.goodL at g
    have h := len_wC p g.1
    have k := len_wCL r g.2
    have e : (pC p).length ≤ (wC p).length + 2 := by
      unfold pC
      by_cases e : p.parts.isEmpty = true
      · rw [if_pos e]; omega
      · rw [if_neg e]; simp
    rw [wCL_cons, Tr.szL, List.length_cons, List.length_append]
    omega
end
end Nm
namespace Nm
open PySem PySem.Spec PyProof.Rows L2
/-! ### the program: values made, their parts, == -/
def top (i : Nat) : Stmt := PySem.Challenge.pw_namedmeets_k02_whole_texts_of_values.main.body.getD i (.Pass ⟨0, 0, 0, 0⟩)
theorem ite_no {c : Bool} {A B : Prop} (h : c = false) (k : B) : if c = true then A else B := by
  rw [h]
  exact iteF k
theorem ite_yes {c : Bool} {A B : Prop} (h : c = true) (k : A) : if c = true then A else B := by
  rw [h]
  exact iteT k
theorem pe_gref {X : Cx} {x : Str} {C : Addr} {pos : Pos} (hg : Gl X x) (hm : X.mg x = some (.ref C)) (hd : (x == ("__debug__" : Str)) = false := by decide) : PE X (.Name x pos) (tC (.ref C)) := pe_glob hg hm rfl hd
theorem same_new {H : Hp} {p : Addr} {o : HO} (h : H p = none) : Same H (upd H p o) := fun b u e => by
  rw [upd_ne (ne_of_none e h)]
  exact e
theorem sz_of {n : Nat} (h : n ≤ 2000000) : n ≤ sizeLine := Nat.le_trans h (by decide)
structure VTxt (mg : Str → Option Value) : Prop where
  isinstance : mg "isinstance" = none
  len : mg "len" = none
  range : mg "range" = none
  reversed : mg "reversed" = none
  tuple : mg "tuple" = none
  list : mg "list" = none
  int : mg "int" = none
  bool : mg "bool" = none
  zip : mg "zip" = none
  str : mg "str" = none
  enumerate : mg "enumerate" = none
def spInit (C : Addr) : Sp := fun vs H Q _ => ∃ (x dx p : Addr) (m : Str) (xs : List V), vs = [.ref x, .str m, .ref p] ∧ H x = some (.ins C dx []) ∧ H p = some (.tup xs) ∧ Q .non (upd H x (.ins C dx (mkF m p)))
def spParts (C : Addr) : Sp := fun vs H Q _ => ∃ (v : V) (t : Tr), vs = [v] ∧ VAt C H v t ∧ ∀ (p : Addr) (xs : List V) (H' : Hp), Same H H' → H' p = some (.tup xs) → VAts C H' xs t.parts → Q (.ref p) H'
theorem VAts.snoc {C : Addr} {H : Hp} : ∀ {ts : List Tr} {xs : List V}, VAts C H xs ts → xs = [] ∨ ∃ xs' x ts' t, xs = xs' ++ [x] ∧ ts = ts' ++ [t] ∧ VAts C H xs' ts' ∧ VAt C H x t
  | _, _, .nil => .inl rfl
  | _, _, .cons h r => by
    rcases r.snoc with e | ⟨xs', x, ts', t, e1, e2, k1, k2⟩
    · subst e
      cases r
      exact .inr ⟨[], _, [], _, rfl, rfl, .nil, h⟩
    · subst e1 e2
      exact .inr ⟨_ :: xs', x, _ :: ts', t, rfl, rfl, .cons h k1, k2⟩
theorem VAts.put {C : Addr} {H : Hp} {xs : List V} {ts : List Tr} (h : VAts C H xs ts) {p : Addr} {o o' : HO} (e : H p = some o) (n1 : ∀ dx fs, o ≠ .ins C dx fs) (n2 : ∀ xs, o ≠ .tup xs) : VAts C (upd H p o') xs ts :=
  h.mono (fun a dx fs q => by rw [upd_ne (ne_of q e (fun z => n1 _ _ z.symm))]; exact q) fun a xs q => by rw [upd_ne (ne_of q e (fun z => n2 _ z.symm))]; exact q
theorem same_put {H H1 : Hp} {l : Addr} {o : HO} (s : Same H H1) (n : H l = none) : Same H (upd H1 l o) := fun b u e => by
  rw [upd_ne (ne_of_none e n)]
  exact s _ _ e
section
variable {P : Program} {w : World} {K : PySem.W.Frag} {mg : Str → Option Value} {base : Heap} {C fE : Addr}

abbrev sMadeinit : Stmt := inClass (top 18) 0
abbrev NMadeinit : List Str := ["self", "maker", "parts"]
abbrev PMadeinit : List Str := ["self", "maker", "parts"]
theorem scMadeinit : FnScope NMadeinit PMadeinit (defScope sMadeinit) := ⟨rfl, rfl, rfl, by decide +kernel, rfl, by decide +kernel, by decide +kernel⟩

theorem ok_init {f : Addr} {fd : FuncData} (F : Fun K "__init__" "Made.__init__" sMadeinit f fd) (T : VTxt mg) (MT : MadeTxt K mg C fE) : FnOk P w K mg base CX0 1 f fd PMadeinit (spInit C) := by
  refine F.ok scMadeinit (fun vs H Q E h => ?_) (fun cdv A outer s H vs Q E hr h => ?_)
  · obtain ⟨x, dx, p, m, xs, rfl, _⟩ := h
    rfl
  · obtain ⟨x, dx, p, m, xs, rfl, hx, hp, k⟩ := h
    have px : p ≠ x := ne_of hp hx (by intro z; cases z)
    refine ⟨_, (pss_cons (ps_fld (pv 0) (pv 1) rfl)
      (pss_one (ps_fld (pv 0) (pe_ifExp (pt_val (pe_callB call_isi (by rfl) T.isinstance (by decide +kernel) (pa_cons (pv 2) (pa_cons (pe_bltn (v := .ty "list") (by rfl) T.list (by decide +kernel) rfl) pa_nil)))) (pe_callTy call_tuple_of (by rfl) T.tuple (by decide +kernel) (pa_cons (pv 2) pa_nil)) (pv 2)) rfl))), ?_⟩
    refine ⟨.str m, (by kernel_rfl), .ref x, (by kernel_rfl), x, C, dx, [], rfl, hx, MT.cl, MT.nM, (by show 0 < 1000; decide), ?_⟩
    refine ⟨.ref p, (by kernel_rfl), _, _, _, _, false, rfl, .ty "list", .base (.tup (Eq.trans (upd_ne px) hp)), kit_ty (by decide +kernel), _, rfl, ?_⟩
    refine ite_no rfl ?_
    refine ⟨.ref p, (by kernel_rfl), .ref x, (by kernel_rfl), x, C, dx, _, rfl, upd_same, MT.cl, MT.nP, (by show 1 < 1000; decide), ?_⟩
    rw [upd_upd]
    exact k

abbrev spartsof : Stmt := top 19
abbrev Npartsof : List Str := ["value"]
abbrev Ppartsof : List Str := ["value"]
theorem scpartsof : FnScope Npartsof Ppartsof (defScope spartsof) := ⟨rfl, rfl, rfl, by decide +kernel, rfl, by decide +kernel, by decide +kernel⟩

theorem ok_parts {f : Addr} {fd : FuncData} (F : Fun K "parts_of" "parts_of" spartsof f fd) (T : VTxt mg) (MT : MadeTxt K mg C fE) : FnOk P w K mg base CX0 1 f fd Ppartsof (spParts C) := by
  refine F.ok scpartsof (fun vs H Q E h => ?_) (fun cdv A outer s H vs Q E hr h => ?_)
  · obtain ⟨v, t, rfl, _⟩ := h
    rfl
  · obtain ⟨v, t, rfl, hv, k⟩ := h
    refine ⟨_, (pss_one (ps_ret (pe_ifExp (pt_val (pe_callB call_isi (by rfl) T.isinstance (by decide +kernel) (pa_cons (pv 0) (pa_cons (pe_gref (by rfl) MT.gM) pa_nil)))) (pe_fld (pv 0) rfl) (pe_tup pa_nil)))), ?_⟩
    cases hv with
    | num i =>
      refine ⟨.int i, (by kernel_rfl), _, _, _, _, false, rfl, .own C, .base (.int i), MT.kitI, _, rfl, ?_⟩
      refine ite_no rfl ?_
      exact ⟨by show 0 ≤ sizeLine; decide, fun p np => k p [] _ (same_new np) upd_same .nil⟩
    | @mk a dx p m xs ts ea ep h =>
      refine ⟨.ref a, (by kernel_rfl), _, _, _, _, true, rfl, .own C, MT.ins ea, MT.kitC, _, rfl, ?_⟩
      refine ite_yes rfl ?_
      exact ⟨.ref a, (by kernel_rfl), a, C, dx, _, _, rfl, ea, MT.cl, MT.nP, mkF_parts m p, k p xs H (fun _ _ e => e) ep h⟩

end
end Nm
namespace Nm
open PySem PySem.Spec PyProof.Rows L2
/-! ### Made.__eq__ -/
/-- what waits: pairs of values, at new pairs -/
inductive QAt (C : Addr) (H : Hp) : List V → List (Tr × Tr) → Prop
  | nil : QAt C H [] []
  | cons {T : Addr} {x y : V} {t u : Tr} {xs : List V} {ws : List (Tr × Tr)} (e : H T = some (.tup [x, y])) (hx : VAt C H x t) (hy : VAt C H y u) (r : QAt C H xs ws) : QAt C H (.ref T :: xs) ((t, u) :: ws)
theorem QAt.mono {C : Addr} {H H' : Hp} (k1 : ∀ a dx fs, H a = some (.ins C dx fs) → H' a = some (.ins C dx fs)) (k2 : ∀ a xs, H a = some (.tup xs) → H' a = some (.tup xs)) : ∀ {ws : List (Tr × Tr)} {xs : List V}, QAt C H xs ws → QAt C H' xs ws
  | _, _, .nil => .nil
  | _, _, .cons e hx hy r => .cons (k2 _ _ e) (hx.mono k1 k2) (hy.mono k1 k2) (r.mono k1 k2)
theorem QAt.same {C : Addr} {H H' : Hp} {xs : List V} {ws : List (Tr × Tr)} (h : QAt C H xs ws) (s : Same H H') : QAt C H' xs ws := h.mono (fun a dx fs e => s _ _ e) fun a xs e => s _ _ e
theorem QAt.put {C : Addr} {H : Hp} {xs : List V} {ws : List (Tr × Tr)} (h : QAt C H xs ws) {p : Addr} {o o' : HO} (e : H p = some o) (n1 : ∀ dx fs, o ≠ .ins C dx fs) (n2 : ∀ xs, o ≠ .tup xs) : QAt C (upd H p o') xs ws :=
  h.mono (fun a dx fs q => by rw [upd_ne (ne_of q e (fun z => n1 _ _ z.symm))]; exact q) fun a xs q => by rw [upd_ne (ne_of q e (fun z => n2 _ z.symm))]; exact q
theorem QAt.len {C : Addr} {H : Hp} : ∀ {xs : List V} {ws : List (Tr × Tr)}, QAt C H xs ws → xs.length = ws.length
  | _, _, .nil => rfl
  | _, _, .cons _ _ _ r => by simp [QAt.len r]
theorem QAt.app {C : Addr} {H : Hp} : ∀ {xs ys : List V} {ws vs : List (Tr × Tr)}, QAt C H xs ws → QAt C H ys vs → QAt C H (xs ++ ys) (ws ++ vs)
  | _, _, _, _, .nil, k => k
  | _, _, _, _, .cons e hx hy r, k => .cons e hx hy (QAt.app r k)
theorem QAt.snoc {C : Addr} {H : Hp} : ∀ {ws : List (Tr × Tr)} {xs : List V}, QAt C H xs ws → xs = [] ∨ ∃ xs' T x y ws' t u, xs = xs' ++ [V.ref T] ∧ ws = ws' ++ [(t, u)] ∧ QAt C H xs' ws' ∧ H T = some (.tup [x, y]) ∧ VAt C H x t ∧ VAt C H y u
  | _, _, .nil => .inl rfl
  | _, _, .cons e hx hy r => by
    rcases r.snoc with q | ⟨xs', T, x, y, ws', t, u, e1, e2, k⟩
    · subst q
      cases r
      exact .inr ⟨[], _, _, _, [], _, _, rfl, rfl, .nil, e, hx, hy⟩
    · subst e1 e2
      exact .inr ⟨_ :: xs', T, x, y, _ :: ws', t, u, rfl, rfl, .cons e hx hy k.1, k.2⟩
theorem qat_zip {C : Addr} {H : Hp} : ∀ {Ts : List Addr} {xs ys : List V} {ts us : List Tr}, Ts.length = xs.length → xs.length = ys.length → PairsAt H Ts xs ys → VAts C H xs ts → VAts C H ys us → QAt C H (Ts.map V.ref) (ts.zip us)
  | [], _, _, _, _, _, _, _, .nil, _ => .nil
  | [], _, _, _, _, e, _, _, .cons _ _, _ => nomatch e
  | T :: Ts, _, _, _, _, e, _, _, .nil, _ => nomatch e
  | T :: Ts, _, _, _, _, _, e, _, .cons _ _, .nil => nomatch e
  | T :: Ts, _, _, _, _, e1, e2, p, .cons hx r, .cons hy r' => .cons (p 0 T _ _ rfl rfl rfl) hx hy (qat_zip (Nat.succ.inj e1) (Nat.succ.inj e2) (fun j T' x y h1 h2 h3 => p (j + 1) T' x y (by simpa using h1) (by simpa using h2) (by simpa using h3)) r r')
def allEq (ws : List (Tr × Tr)) : Prop := ∀ p ∈ ws, p.1 = p.2
theorem allEq_snoc (ws : List (Tr × Tr)) (t u : Tr) : allEq (ws ++ [(t, u)]) ↔ allEq ws ∧ t = u := by
  constructor
  · intro h
    exact ⟨fun p m => h p (List.mem_append_left _ m), h (t, u) (by simp)⟩
  · rintro ⟨h, e⟩ p m
    rcases List.mem_append.mp m with m | m
    · exact h p m
    · obtain rfl := List.mem_singleton.mp m
      exact e
theorem allEq_zip : ∀ (ts us : List Tr), ts.length = us.length → (allEq (ts.zip us) ↔ ts = us)
  | [], [], _ => ⟨fun _ => rfl, fun _ p m => nomatch m⟩
  | [], _ :: _, e => nomatch e
  | _ :: _, [], e => nomatch e
  | t :: ts, u :: us, e => by
    have ih := allEq_zip ts us (Nat.succ.inj e)
    constructor
    · intro h
      have h1 : t = u := h (t, u) (by simp)
      have h2 := ih.mp fun p m => h p (List.mem_cons_of_mem _ m)
      rw [h1, h2]
    · intro h
      obtain ⟨h1, h2⟩ := List.cons.inj h
      intro p m
      rcases List.mem_cons.mp m with rfl | m
      · exact h1
      · exact ih.mpr h2 p m
theorem allEq_app (ws vs : List (Tr × Tr)) : allEq (ws ++ vs) ↔ allEq ws ∧ allEq vs := by
  constructor
  · intro h
    exact ⟨fun p m => h p (List.mem_append_left _ m), fun p m => h p (List.mem_append_right _ m)⟩
  · rintro ⟨h1, h2⟩ p m
    rcases List.mem_append.mp m with m | m
    · exact h1 p m
    · exact h2 p m
def szW (ws : List (Tr × Tr)) : Nat := Tr.szL (ws.map (·.1))
theorem szW_app (a b : List (Tr × Tr)) : szW (a ++ b) = szW a + szW b := by unfold szW; rw [List.map_append, szL_app]
theorem szW_zip (ts us : List Tr) (e : ts.length = us.length) : szW (ts.zip us) = Tr.szL ts := by
  unfold szW
  rw [List.map_fst_zip (by omega)]
theorem szW_len (ws : List (Tr × Tr)) : ws.length ≤ szW ws := by
  have h := szL_len (ws.map (·.1))
  rw [List.length_map] at h
  exact h
section
variable {P : Program} {w : World} {K : PySem.W.Frag} {mg : Str → Option Value} {base : Heap} {C fE : Addr}

abbrev sMadeeq : Stmt := inClass (top 18) 1
abbrev NMadeeq : List Str := ["self", "other", "waiting", "one", "two"]
abbrev PMadeeq : List Str := ["self", "other"]
theorem scMadeeq : FnScope NMadeeq PMadeeq (defScope sMadeeq) := ⟨rfl, rfl, rfl, by decide +kernel, rfl, by decide +kernel, by decide +kernel⟩

theorem ok_eq {f : Addr} {fd : FuncData} (F : Fun K "__eq__" "Made.__eq__" sMadeeq f fd) (T : VTxt mg) (MT : MadeTxt K mg C fE) : FnOk P w K mg base CX0 1 f fd ["self", "other"] (spEqM C) := by
  refine F.ok scMadeeq (fun vs H Q E h => ?_) (fun cdv A outer s H vs Q E hr h => ?_)
  · obtain ⟨a, y, t, u, rfl, _⟩ := h
    rfl
  · obtain ⟨a, y, t, u, rfl, ht, hu, zt, zu, k⟩ := h
    refine ⟨_, (pss_cons (ps_set (i := 2) scMadeeq.nd rfl (Or.inl rfl) (pe_lst (pa_cons (pe_tup (pa_cons (pv 0) (pa_cons (pv 1) pa_nil))) pa_nil)))
      (pss_cons (ps_while PassesOwn.never (pt_truth (pv 2) (by intro _; rfl))
      (pss_cons (ps_asg (pe_bm0 PySem.F.plainAttrs_list PySem.F.slot_list_pop PySem.F.type_list_pop mt_pop (pv 2)) (pg_tup (by rfl) (pgs_cons (pg_name (i := 3) scMadeeq.nd rfl (Or.inl rfl)) (pgs_cons (pg_name (i := 4) scMadeeq.nd rfl (Or.inl rfl)) pgs_nil))))
      (pss_one (ps_if (PW.pt (pw_and (pt_val (pe_callB call_isi (by rfl) T.isinstance (by decide +kernel) (pa_cons (pv 3) (pa_cons (pe_gref (by rfl) MT.gM) pa_nil)))) (pw_and1 (pt_val (pe_callB call_isi (by rfl) T.isinstance (by decide +kernel) (pa_cons (pv 4) (pa_cons (pe_gref (by rfl) MT.gM) pa_nil)))))))
      (pss_cons (ps_if (PW.pt (pw_or (pt_cmpR op_ne (pe_fld (pv 3) rfl) (pe_fld (pv 4) rfl) (nomark _)) (pw_or1 (pt_cmpR op_ne (pe_callB call_len_seq (by rfl) T.len PySem.boot_len (pa_cons (pe_fld (pv 3) rfl) pa_nil)) (pe_callB call_len_seq (by rfl) T.len PySem.boot_len (pa_cons (pe_fld (pv 4) rfl) pa_nil)) (nomark _)))))
      (pss_one (ps_ret pe_bl))
      pss_nil)
      (pss_one (ps_expr (pe_bm PySem.F.plainAttrs_list PySem.F.slot_list_extend PySem.F.type_list_extend mt_extend (pv 2) (pa_cons (pe_listZip rfl (by rfl) T.list (by rfl) T.zip (pa_cons (pe_fld (pv 3) rfl) (pa_cons (pe_fld (pv 4) rfl) pa_nil))) pa_nil)))))
      (pss_one (ps_if (PW.pt (pw_or (pt_val (pe_callB call_isi (by rfl) T.isinstance (by decide +kernel) (pa_cons (pv 3) (pa_cons (pe_gref (by rfl) MT.gM) pa_nil)))) (pw_or1 (pt_val (pe_callB call_isi (by rfl) T.isinstance (by decide +kernel) (pa_cons (pv 4) (pa_cons (pe_gref (by rfl) MT.gM) pa_nil)))))))
      (pss_one (ps_ret pe_bl))
      (pss_one (ps_if (PW.pt (pw_or (pt_cmpR op_ne (pe_callB call_isi (by rfl) T.isinstance (by decide +kernel) (pa_cons (pv 3) (pa_cons (pe_bltn (v := .ty "bool") (by rfl) T.bool (by decide +kernel) rfl) pa_nil))) (pe_callB call_isi (by rfl) T.isinstance (by decide +kernel) (pa_cons (pv 4) (pa_cons (pe_bltn (v := .ty "bool") (by rfl) T.bool (by decide +kernel) rfl) pa_nil))) (nomark _)) (pw_or1 (pt_cmpR op_ne (pv 3) (pv 4) (nomark _)))))
      (pss_one (ps_ret pe_bl))
      pss_nil))))))))
      (pss_one (ps_ret pe_bl)))), ?_⟩
    refine ⟨.ref a, (by kernel_rfl), y, (by kernel_rfl), by show 2 ≤ sizeLine; decide, fun T0 nT0 => ?_⟩
    refine ⟨by show 1 ≤ sizeLine; decide, fun l nl => ?_⟩
    have s0 := same_new (o := .tup [.ref a, y]) nT0
    have e0 := upd_same (H := H) (a := T0) (o := .tup [.ref a, y])
    generalize upd H T0 (.tup [.ref a, y]) = H0 at s0 e0 nl ⊢
    have nH : H l = none := by
      cases e : H l with
      | none => rfl
      | some o => rw [s0 _ _ e] at nl; cases nl
    refine ⟨fun m σ H' => ∃ (xs : List V) (ws : List (Tr × Tr)) (v3 v4 : Option V), σ = [some (.ref a), some y, some (.ref l), v3, v4] ∧ H' l = some (.lst xs) ∧ QAt C H' xs ws ∧ Same H H' ∧ (t = u ↔ allEq ws) ∧ szW ws ≤ t.sz ∧ m = szW ws,
      ⟨_, [.ref T0], [(t, u)], none, none, rfl, upd_same, .cons (same_new nl _ _ e0) (ht.same (s0.trans (same_new nl))) (hu.same (s0.trans (same_new nl))) .nil, s0.trans (same_new nl), ⟨fun e p m => by obtain rfl := List.mem_singleton.mp m; exact e, fun h => h (t, u) (by simp)⟩, by simp [szW, Tr.szL], rfl⟩, ?_⟩
    rintro m σ H1 ⟨xs, ws, v3, v4, rfl, hl, hq, S, iff, hz, rfl⟩
    refine ⟨.ref l, (by kernel_rfl), !xs.isEmpty, .inl ⟨xs, SqL.of hl, rfl⟩, ?_⟩
    rcases hq.snoc with e | ⟨xs', T1, x1, y1, ws', t1, u1, rfl, rfl, hq', eT, hx, hy⟩
    · subst e
      cases hq
      refine ite_no rfl ?_
      have e : t = u := iff.mpr fun p m => nomatch m
      rw [show decide (t = u) = true from decide_eq_true e] at k
      exact k _ S
    refine ite_yes (by cases xs' <;> rfl) ?_
    refine ⟨_, fun σ' H' h => h, ?_⟩
    refine ⟨.ref l, (by kernel_rfl), .inl ⟨rfl, _, SqL.of hl⟩, l, _, .ref T1, rfl, rfl, hl, (by simp), ?_⟩
    rw [show (xs' ++ [V.ref T1]).dropLast = xs' from List.dropLast_concat]
    have S2 : Same H (upd H1 l (.lst xs')) := same_put S nH
    have T1l : T1 ≠ l := ne_of eT hl (by intro z; cases z)
    have eT2 : upd H1 l (.lst xs') T1 = some (.tup [x1, y1]) := (upd_ne T1l).trans eT
    have hq2 := hq'.put (o' := .lst xs') hl (by intro _ _ z; cases z) (by intro _ z; cases z)
    have hx2 := hx.put (o' := .lst xs') hl (by intro _ _ z; cases z) (by intro _ z; cases z)
    have hy2 := hy.put (o' := .lst xs') hl (by intro _ _ z; cases z) (by intro _ z; cases z)
    have hl2 := upd_same (H := H1) (a := l) (o := .lst xs')
    clear hx hy hq' eT hq
    generalize upd H1 l (.lst xs') = H2 at S2 eT2 hq2 hx2 hy2 hl2 ⊢
    refine ⟨T1, [x1, y1], rfl, SqT.of eT2, rfl, x1, [y1], rfl, y1, [], rfl, rfl, ?_⟩
    rw [allEq_snoc] at iff
    rw [szW_app] at hz
    have e1 : szW [(t1, u1)] = t1.sz := by simp [szW, Tr.szL]
    have lq := hq2.len
    have lw := szW_len ws'
    cases hx2 with
    | num i =>
      refine ⟨.int i, (by kernel_rfl), _, _, _, _, false, rfl, .own C, .base (.int i), MT.kitI, _, rfl, ?_⟩
      refine ite_no rfl ?_
      refine ite_no rfl ?_
      refine ⟨.int i, (by kernel_rfl), _, _, _, _, false, rfl, .own C, .base (.int i), MT.kitI, _, rfl, ?_⟩
      refine ite_no rfl ?_
      cases hy2 with
      | num j =>
        refine ⟨.int j, (by kernel_rfl), _, _, _, _, false, rfl, .own C, .base (.int j), MT.kitI, _, rfl, ?_⟩
        refine ite_no rfl ?_
        refine ⟨.int i, (by kernel_rfl), _, _, _, _, false, rfl, .ty "bool", .base (.int i), kit_ty (by decide +kernel), .int j, (by kernel_rfl), _, _, _, _, false, rfl, .ty "bool", .base (.int j), kit_ty (by decide +kernel), rfl, _, rfl, ?_⟩
        refine ite_no (by decide) ?_
        refine ⟨.int i, (by kernel_rfl), .int j, (by kernel_rfl), rfl, _, rfl, ?_⟩
        by_cases ij : i = j
        · refine ite_no (by rw [ij, decide_eq_true rfl]; rfl) ?_
          exact ⟨szW ws', by rw [szW_app, e1]; simp [Tr.sz], xs', ws', _, _, rfl, hl2, hq2, S2, iff.trans ⟨fun h => h.1, fun h => ⟨h, by rw [ij]⟩⟩, by omega, rfl⟩
        · refine ite_yes (by rw [decide_eq_false (fun z => ij (V.int.inj z))]; rfl) ?_
          rw [show decide (t = u) = false from decide_eq_false fun e => ij (Tr.num.inj (iff.mp e).2)] at k
          exact k _ S2
      | @mk b dy py m2 ys us eb epb hys =>
        refine ⟨.ref b, (by kernel_rfl), _, _, _, _, true, rfl, .own C, MT.ins eb, MT.kitC, _, rfl, ?_⟩
        refine ite_yes rfl ?_
        rw [show decide (t = u) = false from decide_eq_false fun e => by have z := (iff.mp e).2; cases z] at k
        exact k _ S2
    | @mk b1 d1 p1 m1 xs1 ts1 eb1 ep1 hxs1 =>
      refine ⟨.ref b1, (by kernel_rfl), _, _, _, _, true, rfl, .own C, MT.ins eb1, MT.kitC, _, rfl, ?_⟩
      refine ite_yes rfl ?_
      cases hy2 with
      | num j =>
        refine ⟨.int j, (by kernel_rfl), _, _, _, _, false, rfl, .own C, .base (.int j), MT.kitI, _, rfl, ?_⟩
        refine ite_no rfl ?_
        refine ⟨.ref b1, (by kernel_rfl), _, _, _, _, true, rfl, .own C, MT.ins eb1, MT.kitC, _, rfl, ?_⟩
        refine ite_yes rfl ?_
        refine ite_yes rfl ?_
        rw [show decide (t = u) = false from decide_eq_false fun e => by have z := (iff.mp e).2; cases z] at k
        exact k _ S2
      | @mk b2 d2 p2 m2 xs2 ts2 eb2 ep2 hxs2 =>
        refine ⟨.ref b2, (by kernel_rfl), _, _, _, _, true, rfl, .own C, MT.ins eb2, MT.kitC, _, rfl, ?_⟩
        refine ite_yes rfl ?_
        refine ⟨.ref b1, (by kernel_rfl), b1, C, d1, _, _, rfl, eb1, MT.cl, MT.nM, mkF_maker m1 p1, .ref b2, (by kernel_rfl), b2, C, d2, _, _, rfl, eb2, MT.cl, MT.nM, mkF_maker m2 p2, rfl, _, rfl, ?_⟩
        by_cases em : m1 = m2
        · refine ite_no (by rw [em, decide_eq_true rfl]; rfl) ?_
          refine ⟨.ref b1, (by kernel_rfl), b1, C, d1, _, _, rfl, eb1, MT.cl, MT.nP, mkF_parts m1 p1, p1, _, rfl, .inr (SqT.of ep1), .ref b2, (by kernel_rfl), b2, C, d2, _, _, rfl, eb2, MT.cl, MT.nP, mkF_parts m2 p2, p2, _, rfl, .inr (SqT.of ep2), rfl, _, rfl, ?_⟩
          have l1 := hxs1.len
          have l2 := hxs2.len
          by_cases el : xs1.length = xs2.length
          · refine ite_no (by rw [el, decide_eq_true rfl]; rfl) ?_
            have et : ts1.length = ts2.length := by omega
            have sz1 : (Tr.mk m1 ts1).sz = 1 + Tr.szL ts1 := by simp [Tr.sz]
            have b1' := szL_len ts1
            refine ⟨.ref l, (by kernel_rfl), .inl ⟨rfl, _, SqL.of hl2⟩, .ref b1, (by kernel_rfl), b1, C, d1, _, _, rfl, eb1, MT.cl, MT.nP, mkF_parts m1 p1, .ref b2, (by kernel_rfl), b2, C, d2, _, _, rfl, eb2, MT.cl, MT.nP, mkF_parts m2 p2, p1, p2, xs1, xs2, rfl, SqT.of ep1, SqT.of ep2, el, (by omega), fun L H3 Ts S3 nL hL hlen hP => ?_⟩
            have hl3 := S3 _ _ hl2
            refine ⟨l, L, xs', _, rfl, rfl, hl3, hL, sz_of (by rw [List.length_map]; omega), ?_⟩
            have hz' := qat_zip hlen el hP (hxs1.same S3) (hxs2.same S3)
            have zz := szW_zip ts1 ts2 et
            refine ⟨szW (ws' ++ ts1.zip ts2), by rw [szW_app, szW_app, e1, zz, sz1]; omega, xs' ++ Ts.map V.ref, ws' ++ ts1.zip ts2, _, _, rfl, upd_same, ((hq2.same S3).app hz').put hl3 (by intro _ _ z; cases z) (by intro _ z; cases z), same_put (S2.trans S3) nH, ?_, by rw [szW_app, zz]; omega, rfl⟩
            rw [allEq_app, allEq_zip ts1 ts2 et]
            refine iff.trans ⟨fun h => ⟨h.1, (Tr.mk.inj h.2).2⟩, fun h => ⟨h.1, by rw [em, h.2]⟩⟩
          · refine ite_yes (by rw [decide_eq_false (fun z => el (by have q := V.int.inj z; omega))]; rfl) ?_
            rw [show decide (t = u) = false from decide_eq_false fun e => by have z := Tr.mk.inj (iff.mp e).2; have q := congrArg List.length z.2; omega] at k
            exact k _ S2
        · refine ite_yes (by rw [decide_eq_false (fun z => em (V.str.inj z))]; rfl) ?_
          refine ite_yes rfl ?_
          rw [show decide (t = u) = false from decide_eq_false fun e => em (Tr.mk.inj (iff.mp e).2).1] at k
          exact k _ S2
end
end Nm
namespace Nm
open PySem PySem.Spec PyProof.Rows L2
/-! ### the program's words -/
theorem pe_gstr {X : Cx} {x z : Str} {pos : Pos} (hg : Gl X x) (hm : ∃ t, X.mg x = some (.str z t)) (hd : (x == ("__debug__" : Str)) = false := by decide) : PE X (.Name x pos) (tC (.str z)) := by
  obtain ⟨t, e⟩ := hm
  exact pe_glob hg e ⟨t, rfl⟩ hd
theorem pe_gint {X : Cx} {x : Str} {z : Int} {pos : Pos} (hg : Gl X x) (hm : ∃ t, X.mg x = some (.int z t)) (hd : (x == ("__debug__" : Str)) = false := by decide) : PE X (.Name x pos) (tC (.int z)) := by
  obtain ⟨t, e⟩ := hm
  exact pe_glob hg e ⟨t, rfl⟩ hd
theorem dec_str (a b : Str) : decide (V.str a = V.str b) = decide (a = b) := by
  by_cases h : a = b
  · rw [h]
    simp
  · rw [decide_eq_false h, decide_eq_false fun z => h (V.str.inj z)]
structure WTxt (mg : Str → Option Value) : Prop where
  BIG_LETTERS : ∃ t, mg "BIG_LETTERS" = some (.str sBIG t)
  SMALL_LETTERS : ∃ t, mg "SMALL_LETTERS" = some (.str sSMA t)
  DIGITS : ∃ t, mg "DIGITS" = some (.str sDIG t)
  MOST_SIGNS : ∃ t, mg "MOST_SIGNS" = some (.int 24 t)
  MOST_DIGITS : ∃ t, mg "MOST_DIGITS" = some (.int 400 t)
  len : mg "len" = none
  enumerate : mg "enumerate" = none
  tuple : mg "tuple" = none
  int : mg "int" = none
  list : mg "list" = none
  isinstance : mg "isinstance" = none
  range : mg "range" = none
def spAll : Sp := fun vs H Q _ => ∃ t s : Str, vs = [.str t, .str s] ∧ Q (.bl (allIn t s)) H
def spName : Sp := fun vs H Q _ => ∃ w f : Str, vs = [.str w, .str f] ∧ w.length ≤ 900000 ∧ Q (.bl (isName w f)) H
def spW (f : Str → Bool) : Sp := fun vs H Q _ => ∃ w : Str, vs = [.str w] ∧ w.length ≤ 900000 ∧ Q (.bl (f w)) H
theorem atI0 {α : Type} {c : α} {r l : List α} (e : l = c :: r) : atI l 0 = some c := by
  rw [e]
  exact atI_nat (by rfl)
section
variable {P : Program} {w : World} {K : PySem.W.Frag} {mg : Str → Option Value} {base : Heap}

abbrev sallamong : Stmt := top 9
abbrev Nallamong : List Str := ["text", "signs", "sign"]
abbrev Pallamong : List Str := ["text", "signs"]
theorem scallamong : FnScope Nallamong Pallamong (defScope sallamong) := ⟨rfl, rfl, rfl, by decide +kernel, rfl, by decide +kernel, by decide +kernel⟩

theorem ok_all {f : Addr} {fd : FuncData} (F : Fun K "all_among" "all_among" sallamong f fd) : FnOk P w K mg base CX0 1 f fd Pallamong spAll := by
  refine F.ok scallamong (fun vs H Q E h => ?_) (fun cdv A outer s H vs Q E hr h => ?_)
  · obtain ⟨t, z, rfl, _⟩ := h
    rfl
  · obtain ⟨t, z, rfl, k⟩ := h
    refine ⟨_, (pss_cons (ps_for PassesOwn.never rfl (pi_str (pv 0)) (pg_name (i := 2) scallamong.nd rfl (Or.inl rfl))
      (pss_one (ps_if (pt_cmpR op_notIn_sign (pv 2) (pv 1) (by rfl))
      (pss_one (ps_ret pe_bl))
      pss_nil)))
      (pss_one (ps_ret pe_bl))), ?_⟩
    refine ⟨.str t, (by kernel_rfl), t, rfl, ?_⟩
    refine for_it (walk_str (z := t)) (fun i σ H' => H' = H ∧ (∃ v, σ = [some (.str t), some (.str z), v]) ∧ ((codes t).take i).all (fun c => decide (c ∈ codes z)) = true) ⟨rfl, ⟨none, rfl⟩, rfl⟩ (fun _ _ _ _ _ => True.intro) ?_ ?_
    · rintro i x σ H1 H2 hi ⟨rfl, ⟨v, rfl⟩, ha⟩ ⟨rfl, c, hc, rfl⟩
      have hc' : (codes t)[i]? = some c := by simpa using hc
      refine ⟨.str ⟨#[c]⟩, (by kernel_rfl), .str z, (by kernel_rfl), c, z, rfl, rfl, _, rfl, ?_⟩
      by_cases m : c ∈ codes z
      · refine ite_no (by rw [decide_eq_true m]; rfl) ?_
        refine ⟨rfl, ⟨_, rfl⟩, ?_⟩
        rw [List.take_add_one, hc', List.all_append, ha]
        show (true && ((decide (c ∈ codes z)) && true)) = true
        rw [decide_eq_true m]
        rfl
      · refine ite_yes (by rw [decide_eq_false m]; rfl) ?_
        have e : allIn t z = false := by
          unfold allIn
          refine List.all_eq_false.mpr ⟨c, List.mem_of_getElem? hc', ?_⟩
          simp [m]
        rw [e] at k
        exact k
    · rintro σ H1 ⟨rfl, ⟨v, rfl⟩, ha⟩
      have e : allIn t z = true := by
        unfold allIn
        have l : t.cps.size = (codes t).length := by simp
        rw [l, List.take_length] at ha
        exact ha
      rw [e] at k
      exact k

abbrev sisname : Stmt := top 10
abbrev Nisname : List Str := ["word", "first_signs"]
abbrev Pisname : List Str := ["word", "first_signs"]
theorem scisname : FnScope Nisname Pisname (defScope sisname) := ⟨rfl, rfl, rfl, by decide +kernel, rfl, by decide +kernel, by decide +kernel⟩

theorem ok_name {f fA : Addr} {fd fdA : FuncData} (F : Fun K "is_name" "is_name" sisname f fd) (T : WTxt mg) (F_all_among : Fun K "all_among" "all_among" sallamong fA fdA) (b_all_among : Binds K fdA Pallamong []) (g_all_among : mg "all_among" = some (.ref fA)) :
    FnOk P w K mg base CX0 2 f fd Pisname spName := by
  have G_all_among : FnOk P w K mg base CX0 1 fA fdA Pallamong spAll := ok_all F_all_among
  refine F.ok scisname (fun vs H Q E h => ?_) (fun cdv A outer s H vs Q E hr h => ?_)
  · obtain ⟨t, z, rfl, _⟩ := h
    rfl
  · obtain ⟨t, z, rfl, hl, k⟩ := h
    have hr1 := hr
    refine ⟨_, (pss_cons (ps_if (PW.pt (pw_or (pt_cmpR op_eq (pv 0) pe_str (nomark _)) (pw_or (pt_cmpR op_gt (pe_callB call_len_str (by rfl) T.len PySem.boot_len (pa_cons (pv 0) pa_nil)) (pe_gint (by rfl) T.MOST_SIGNS) (nomark _)) (pw_or1 (pt_cmpR op_notIn_sign (pe_ix ix_str (pv 0) pe_int (fun _ _ => rfl)) (pv 1) (by rfl))))))
      (pss_one (ps_ret pe_bl))
      pss_nil)
      (pss_one (ps_ret (pe_call G_all_among hr1 rfl g_all_among F_all_among.kp b_all_among .nil pass0 (pa_cons (pv 0) (pa_cons (pe_op op_add_str (pe_op op_add_str (pe_op op_add_str (pe_gstr (by rfl) T.BIG_LETTERS) (pe_gstr (by rfl) T.SMALL_LETTERS)) (pe_gstr (by rfl) T.DIGITS)) pe_str) pa_nil)))))), ?_⟩
    refine ⟨.str t, (by kernel_rfl), rfl, _, rfl, ?_⟩
    rw [dec_str]
    by_cases h0 : t = ""
    · refine ite_yes (decide_eq_true h0) ?_
      refine ite_yes rfl ?_
      have e : isName t z = false := by unfold isName; rw [decide_eq_true h0]; rfl
      rw [e] at k
      exact k
    refine ite_no (decide_eq_false h0) ?_
    obtain ⟨c, r, ec⟩ := codes_cons h0
    refine ⟨.str t, (by kernel_rfl), t, rfl, sz_of (by omega), _, _, rfl, rfl, _, rfl, ?_⟩
    by_cases h1 : t.length > 24
    · refine ite_yes (decide_eq_true (by omega)) ?_
      refine ite_yes rfl ?_
      have e : isName t z = false := by unfold isName; rw [decide_eq_false h0, decide_eq_true h1]; rfl
      rw [e] at k
      exact k
    refine ite_no (decide_eq_false (by omega)) ?_
    refine ⟨.str t, (by kernel_rfl), t, 0, c, rfl, rfl, sz_of (by omega), atI0 ec, .str z, (by kernel_rfl), c, z, rfl, rfl, _, rfl, ?_⟩
    by_cases h2 : c ∈ codes z
    · refine ite_no (by rw [decide_eq_true h2]; rfl) ?_
      refine ⟨.str t, (by kernel_rfl), _, _, rfl, rfl, (by decide +kernel), _, _, rfl, rfl, (by decide +kernel), _, _, rfl, rfl, (by decide +kernel), t, sALL, rfl, ?_⟩
      have e : isName t z = allIn t sALL := by
        unfold isName
        rw [decide_eq_false h0, decide_eq_false h1, hd_of ec, decide_eq_true h2]
        rfl
      rw [e] at k
      exact k
    · refine ite_yes (by rw [decide_eq_false h2]; rfl) ?_
      have e : isName t z = false := by
        unfold isName
        rw [decide_eq_false h0, decide_eq_false h1, hd_of ec, decide_eq_false h2]
        rfl
      rw [e] at k
      exact k

abbrev sisbig : Stmt := top 11
abbrev Nisbig : List Str := ["word"]
abbrev Pisbig : List Str := ["word"]
theorem scisbig : FnScope Nisbig Pisbig (defScope sisbig) := ⟨rfl, rfl, rfl, by decide +kernel, rfl, by decide +kernel, by decide +kernel⟩

theorem ok_big {f fN fA : Addr} {fd fdN fdA : FuncData} (F : Fun K "is_big" "is_big" sisbig f fd) (T : WTxt mg) (F_is_name : Fun K "is_name" "is_name" sisname fN fdN) (b_is_name : Binds K fdN Pisname []) (g_is_name : mg "is_name" = some (.ref fN)) (F_all_among : Fun K "all_among" "all_among" sallamong fA fdA) (b_all_among : Binds K fdA Pallamong []) (g_all_among : mg "all_among" = some (.ref fA)) : FnOk P w K mg base CX0 3 f fd Pisbig (spW isBig) := by
  have G_is_name : FnOk P w K mg base CX0 2 fN fdN Pisname spName := ok_name F_is_name T F_all_among b_all_among g_all_among
  refine F.ok scisbig (fun vs H Q E h => ?_) (fun cdv A outer s H vs Q E hr h => ?_)
  · obtain ⟨t, rfl, _⟩ := h
    rfl
  · obtain ⟨t, rfl, hl, k⟩ := h
    have hr1 := hr
    refine ⟨_, (pss_one (ps_ret (pe_call G_is_name hr1 rfl g_is_name F_is_name.kp b_is_name .nil pass0 (pa_cons (pv 0) (pa_cons (pe_gstr (by rfl) T.BIG_LETTERS) pa_nil))))), ?_⟩
    exact ⟨.str t, (by kernel_rfl), t, sBIG, rfl, hl, k⟩

/-! ### integers as they are written -/
theorem sign_is1 (c n : Nat) {z : Str} (hz : codes z = [n]) : decide (V.str ⟨#[c]⟩ = V.str z) = decide (c = n) := by
  rw [dec_str]
  by_cases h : c = n
  · rw [decide_eq_true h, decide_eq_true]
    exact str_ext (by rw [hz, ← h])
  · have q : ¬ (⟨#[c]⟩ : Str) = z := fun y => h (by
      have y2 : [c] = codes z := congrArg codes y
      rw [hz] at y2
      exact (List.cons.inj y2).1)
    rw [decide_eq_false h, decide_eq_false q]
def isCnt (w : Str) : Bool := !decide (w = "") && (allIn w sDIG && (decide (w = "0") || !decide (hd w = 48)))
def isWr (w : Str) : Bool := if decide (cutS w none (some 1) = "-") = true then (isCnt (cutS w (some 1) none) && !decide (w = "-0")) else isCnt w
theorem dig_sign (c : Nat) : (decide (c < 128) && Unicode.isDigit c) = decide (c ∈ codes sDIG) := by
  by_cases h : c < 128
  · have k : ∀ n : _root_.Fin 128, (Unicode.isDigit n.val) = decide (n.val ∈ codes sDIG) := by decide +kernel
    rw [decide_eq_true h, Bool.true_and]
    exact k ⟨c, h⟩
  · have k : (codes sDIG).all (fun c => decide (c < 128)) = true := by decide +kernel
    rw [decide_eq_false h, Bool.false_and]
    exact (decide_eq_false fun m => h (of_decide_eq_true (List.all_eq_true.mp k c m))).symm
theorem all_and2 {p q : Nat → Bool} : ∀ l : List Nat, (l.all p && l.all q) = l.all fun c => p c && q c
  | [] => rfl
  | a :: r => by
    rw [List.all_cons, List.all_cons, List.all_cons, ← all_and2 r]
    cases p a <;> cases q a <;> cases r.all p <;> cases r.all q <;> rfl
theorem ascii_dig (w : Str) : (Txt.isascii w && Txt.isdigit w) = (!decide (w = "") && allIn w sDIG) := by
  have e1 : Txt.isascii w = (codes w).all fun c => decide (c < 128) := by
    unfold Txt.isascii
    rw [← Array.all_toList]
  have e2 : Txt.isdigit w = (!decide (w = "") && (codes w).all Unicode.isDigit) := by
    unfold Txt.isdigit
    rw [← Array.all_toList]
    congr 1
    by_cases h : w = ""
    · rw [decide_eq_true h, h]
      rfl
    · obtain ⟨c, r, e⟩ := codes_cons h
      rw [decide_eq_false h, len_codes, e]
      rfl
  have e3 : allIn w sDIG = ((codes w).all (fun c => decide (c < 128)) && (codes w).all Unicode.isDigit) := by
    rw [all_and2]
    unfold allIn
    congr 1
    funext c
    exact (dig_sign c).symm
  rw [e1, e2, e3]
  cases (codes w).all (fun c => decide (c < 128)) <;> cases decide (w = "") <;> simp
theorem cont_minus (c : Nat) : (("-" : Str).cps.contains c) = decide (c = 45) := by
  by_cases h : c = 45
  · rw [decide_eq_true h, h]
    decide +kernel
  · rw [decide_eq_false h]
    have e : ("-" : Str).cps = #[45] := by decide +kernel
    rw [e]
    simp [h]
theorem sub_len (x : Str) (a b : Nat) : (PySem.Builtin.Str.strSub x a b).length = min b x.length - a := by
  unfold PySem.Builtin.Str.strSub
  simp [Str.length]
open PySem PySem.Spec PyProof PyProof.Rows in
theorem lstrip_len (t : Str) : (Txt.lstripChars t "-").length = t.length - ((codes t).takeWhile fun c => decide (c = 45)).length := by
  unfold Txt.lstripChars
  rw [stripBy_eq]
  have e : stripLo ("-" : Str).cps.contains true t = ((codes t).takeWhile fun c => decide (c = 45)).length := by
    unfold stripLo
    rw [if_pos rfl]
    congr 2
    funext c
    exact cont_minus c
  have e2 : stripHi ("-" : Str).cps.contains false t (stripLo ("-" : Str).cps.contains true t) = t.length := by
    unfold stripHi
    rw [if_neg Bool.false_ne_true]
  rw [e2, e, sub_len, Nat.min_self]
theorem num_eq (t : Str) : isNum t = (isWr t && decide ((((Txt.lstripChars t "-").length : Nat) : Int) ≤ 400)) := by
  have cnt : ∀ {d : Str}, isCnt d = true → ∃ c r, codes d = c :: r ∧ c ≠ 45 ∧ allIn d sDIG = true ∧ d ≠ "" ∧ (d = "0" ∨ c ≠ 48) := fun {d} h => by
    unfold isCnt at h
    simp only [Bool.and_eq_true, Bool.or_eq_true, decide_eq_true_eq, Bool.not_eq_true', decide_eq_false_iff_not] at h
    obtain ⟨h0, h1, h2⟩ := h
    obtain ⟨c, r, e⟩ := codes_cons h0
    refine ⟨c, r, e, fun z => ?_, h1, h0, ?_⟩
    · have := allIn_hd e h1
      rw [z] at this
      exact absurd this (by decide +kernel)
    · rw [hd_of e] at h2
      exact h2
  by_cases hq : cutS t none (some 1) = "-"
  · have ht : t ≠ "" := fun z => by
      rw [z] at hq
      exact absurd hq (by decide +kernel)
    obtain ⟨c, r, ec⟩ := codes_cons ht
    have c45 : c = 45 := by
      have z := congrArg codes hq
      rw [cut1_of ec] at z
      exact (List.cons.inj (show [c] = [45] from z)).1
    subst c45
    have cd : codes (cutS t (some 1) none) = r := by rw [cutT_codes, ec]; rfl
    have de : digs t = cutS t (some 1) none := by unfold digs; rw [decide_eq_true hq, if_pos rfl]
    have we : isWr t = (isCnt (cutS t (some 1) none) && !decide (t = "-0")) := by unfold isWr; rw [decide_eq_true hq, if_pos rfl]
    have t0 : ¬ t = "0" := fun z => by
      rw [z] at ec
      have : (48 : Nat) = 45 := (List.cons.inj (show [48] = 45 :: r from ec)).1
      omega
    have dz : (t = "-0") ↔ (cutS t (some 1) none = "0") := by
      constructor
      · intro z
        refine str_ext ?_
        rw [cd]
        rw [z] at ec
        exact (List.cons.inj (show [45, 48] = 45 :: r from ec)).2.symm
      · intro z
        have z2 := congrArg codes z
        rw [cd] at z2
        exact str_ext (by rw [ec, z2]; rfl)
    have tl : t.length = r.length + 1 := by rw [len_codes, ec]; rfl
    have dl : (cutS t (some 1) none).length = r.length := by rw [len_codes, cd]
    rw [we]
    unfold isNum
    rw [de]
    have lst := lstrip_len t
    rw [ec] at lst
    generalize cutS t (some 1) none = d at cd dz dl ⊢
    cases hc : isCnt d with
    | false =>
      rw [Bool.false_and, Bool.false_and]
      unfold isCnt at hc
      cases h0 : decide (d = "") with
      | true => rfl
      | false =>
        cases h1 : decide (d.length > 400) with
        | true => rfl
        | false =>
          cases h2 : allIn d sDIG with
          | false => rfl
          | true =>
            rw [h0, h2] at hc
            have hc2 : (decide (d = "0") || !decide (hd d = 48)) = false := hc
            rw [Bool.or_eq_false_iff] at hc2
            have h48 : decide (hd d = 48) = true := by simpa using hc2.2
            rw [h48, decide_eq_false t0]
            rfl
    | true =>
      obtain ⟨c, r2, e2, c45, al, ne, or⟩ := cnt hc
      rw [cd] at e2
      subst e2
      have ll : (Txt.lstripChars t "-").length = d.length := by
        rw [lst, tl, dl]
        simp [c45]
      rw [ll, decide_eq_false ne, al, hd_of cd, Bool.true_and]
      by_cases h1 : d.length > 400
      · rw [decide_eq_true h1, decide_eq_false (show ¬ ((d.length : Nat) : Int) ≤ 400 by omega), Bool.and_false]
        rfl
      · rw [decide_eq_false h1, decide_eq_true (show ((d.length : Nat) : Int) ≤ 400 by omega), Bool.and_true]
        by_cases h3 : c = 48
        · rcases or with h | h
          · rw [decide_eq_true h3, decide_eq_true (dz.mpr h), decide_eq_false t0]
            rfl
          · exact absurd h3 h
        · have n0 : ¬ t = "-0" := fun z => h3 (by
            have := congrArg codes (dz.mp z)
            rw [cd] at this
            exact (List.cons.inj (show c :: r2 = [48] from this)).1)
          rw [decide_eq_false h3, decide_eq_false n0]
          rfl
  · have de : digs t = t := by unfold digs; rw [decide_eq_false hq, if_neg Bool.false_ne_true]
    have we : isWr t = isCnt t := by unfold isWr; rw [decide_eq_false hq, if_neg Bool.false_ne_true]
    rw [we]
    unfold isNum
    rw [de]
    have lst := lstrip_len t
    cases hc : isCnt t with
    | false =>
      rw [Bool.false_and]
      unfold isCnt at hc
      cases h0 : decide (t = "") with
      | true => rfl
      | false =>
        cases h1 : decide (t.length > 400) with
        | true => rfl
        | false =>
          cases h2 : allIn t sDIG with
          | false => rfl
          | true =>
            rw [h0, h2] at hc
            have hc2 : (decide (t = "0") || !decide (hd t = 48)) = false := hc
            rw [Bool.or_eq_false_iff] at hc2
            have h48 : decide (hd t = 48) = true := by simpa using hc2.2
            rw [h48, hc2.1]
            rfl
    | true =>
      obtain ⟨c, r2, e2, c45, al, ne, or⟩ := cnt hc
      have ll : (Txt.lstripChars t "-").length = t.length := by
        rw [lst, e2]
        simp [c45]
      rw [ll, decide_eq_false ne, al, hd_of e2, Bool.true_and]
      by_cases h1 : t.length > 400
      · rw [decide_eq_true h1, decide_eq_false (show ¬ ((t.length : Nat) : Int) ≤ 400 by omega)]
        rfl
      · rw [decide_eq_false h1, decide_eq_true (show ((t.length : Nat) : Int) ≤ 400 by omega)]
        by_cases h3 : c = 48
        · rcases or with h | h
          · rw [decide_eq_true h3, decide_eq_true h]
            rfl
          · exact absurd h3 h
        · rw [decide_eq_false h3]
          rfl
abbrev sisnatural : Stmt := top 12
abbrev Nisnatural : List Str := ["word"]
abbrev Pisnatural : List Str := ["word"]
theorem scisnatural : FnScope Nisnatural Pisnatural (defScope sisnatural) := ⟨rfl, rfl, rfl, by decide +kernel, rfl, by decide +kernel, by decide +kernel⟩

theorem ok_nat {f : Addr} {fd : FuncData} (F : Fun K "is_natural" "is_natural" sisnatural f fd) : FnOk P w K mg base CX0 1 f fd Pisnatural (spW isCnt) := by
  refine F.ok scisnatural (fun vs H Q E h => ?_) (fun cdv A outer s H vs Q E hr h => ?_)
  · obtain ⟨t, rfl, _⟩ := h
    rfl
  · obtain ⟨t, rfl, hl, k⟩ := h
    refine ⟨_, (pss_one (ps_ret (pe_and (pe_m0 PySem.F.slot_str_isascii PySem.F.type_str_isascii mt_isascii (pv 0)) (pe_and (pe_m0 PySem.F.slot_str_isdigit PySem.F.type_str_isdigit mt_isdigit (pv 0)) (pe_one (pe_or (pe_cmpR op_ne (pe_ix ix_str (pv 0) pe_int (fun _ _ => rfl)) pe_str (nomark _)) (pe_one (pe_cmpR op_eq (pv 0) pe_str (nomark _))))))))), ?_⟩
    have ad := ascii_dig t
    refine ⟨.str t, (by kernel_rfl), ⟨_, rfl⟩, t, rfl, rfl, trivial, ?_⟩
    cases ha : Txt.isascii t with
    | false =>
      rw [ha, Bool.false_and] at ad
      have e : isCnt t = false := by
        unfold isCnt
        rw [← Bool.and_assoc, ← ad, Bool.false_and]
      rw [e] at k
      exact ⟨_, rfl, ite_no rfl k⟩
    | true =>
      rw [ha, Bool.true_and] at ad
      refine ⟨_, rfl, ite_yes rfl ?_⟩
      refine ⟨.str t, (by kernel_rfl), ⟨_, rfl⟩, t, rfl, rfl, trivial, ?_⟩
      have e : isCnt t = (Txt.isdigit t && (decide (t = "0") || !decide (hd t = 48))) := by
        unfold isCnt
        rw [← Bool.and_assoc, ← ad]
      rw [e] at k
      cases hd2 : Txt.isdigit t with
      | false =>
        rw [hd2, Bool.false_and] at k
        exact ⟨_, rfl, ite_no rfl k⟩
      | true =>
        rw [hd2, Bool.true_and] at k
        rw [hd2] at ad
        have h0 : t ≠ "" := fun z => by
          rw [decide_eq_true z] at ad
          cases ad
        obtain ⟨c, r, ec⟩ := codes_cons h0
        rw [hd_of ec] at k
        refine ⟨_, rfl, ite_yes rfl ?_⟩
        refine ⟨.str t, (by kernel_rfl), t, 0, c, rfl, rfl, sz_of (by omega), atI0 ec, rfl, ?_⟩
        rw [sign_is1 c 48 (by decide +kernel)]
        by_cases h1 : c = 48
        · refine ⟨_, rfl, ite_no (by rw [decide_eq_true h1]; rfl) ?_⟩
          refine ⟨.str t, (by kernel_rfl), rfl, ?_⟩
          rw [dec_str]
          rw [decide_eq_true h1, Bool.not_true, Bool.or_false] at k
          exact k
        · refine ⟨_, rfl, ite_yes (by rw [decide_eq_false h1]; rfl) ?_⟩
          rw [decide_eq_false h1, Bool.not_false, Bool.or_true] at k
          exact k

abbrev siswritten : Stmt := top 13
abbrev Niswritten : List Str := ["word"]
abbrev Piswritten : List Str := ["word"]
theorem sciswritten : FnScope Niswritten Piswritten (defScope siswritten) := ⟨rfl, rfl, rfl, by decide +kernel, rfl, by decide +kernel, by decide +kernel⟩

theorem ok_wri {f fN : Addr} {fd fdN : FuncData} (F : Fun K "is_written" "is_written" siswritten f fd) (F_is_natural : Fun K "is_natural" "is_natural" sisnatural fN fdN) (b_is_natural : Binds K fdN Pisnatural []) (g_is_natural : mg "is_natural" = some (.ref fN)) : FnOk P w K mg base CX0 2 f fd Piswritten (spW isWr) := by
  have G_is_natural : FnOk P w K mg base CX0 1 fN fdN Pisnatural (spW isCnt) := ok_nat F_is_natural
  refine F.ok sciswritten (fun vs H Q E h => ?_) (fun cdv A outer s H vs Q E hr h => ?_)
  · obtain ⟨t, rfl, _⟩ := h
    rfl
  · obtain ⟨t, rfl, hl, k⟩ := h
    have hr1 := hr
    refine ⟨_, (pss_cons (ps_if (pt_cmpR op_eq (pe_slice sl_str (pv 0) po_none (po_some pe_int)) pe_str (nomark _))
      (pss_one (ps_ret (pe_and (pe_call G_is_natural hr1 rfl g_is_natural F_is_natural.kp b_is_natural .nil pass0 (pa_cons (pe_slice sl_str (pv 0) (po_some pe_int) po_none) pa_nil)) (pe_one (pe_cmpR op_ne (pv 0) pe_str (nomark _))))))
      pss_nil)
      (pss_one (ps_ret (pe_call G_is_natural hr1 rfl g_is_natural F_is_natural.kp b_is_natural .nil pass0 (pa_cons (pv 0) pa_nil))))), ?_⟩
    refine ⟨.str t, (by kernel_rfl), 1, rfl, t, rfl, sz_of (by omega), ?_⟩
    refine ⟨rfl, _, rfl, ?_⟩
    rw [dec_str]
    have dl : (cutS t (some 1) none).length ≤ t.length := by
      rw [len_codes, cutT_codes, List.length_drop, len_codes]
      omega
    replace dl := Nat.le_trans dl hl
    unfold isWr at k
    by_cases hq : cutS t none (some 1) = "-"
    · refine ite_yes (decide_eq_true hq) ?_
      rw [decide_eq_true hq, if_pos rfl] at k
      refine ⟨.str t, (by kernel_rfl), 1, rfl, t, rfl, sz_of (by omega), ?_⟩
      refine ⟨_, rfl, dl, ?_⟩
      cases hc : isCnt (cutS t (some 1) none) with
      | false =>
        rw [hc, Bool.false_and] at k
        exact ⟨_, rfl, ite_no rfl k⟩
      | true =>
        rw [hc, Bool.true_and] at k
        refine ⟨_, rfl, ite_yes rfl ?_⟩
        refine ⟨.str t, (by kernel_rfl), rfl, ?_⟩
        rw [dec_str]
        exact k
    · refine ite_no (decide_eq_false hq) ?_
      rw [decide_eq_false hq, if_neg Bool.false_ne_true] at k
      exact ⟨.str t, (by kernel_rfl), t, rfl, hl, k⟩

abbrev sisnumber : Stmt := top 14
abbrev Nisnumber : List Str := ["word"]
abbrev Pisnumber : List Str := ["word"]
theorem scisnumber : FnScope Nisnumber Pisnumber (defScope sisnumber) := ⟨rfl, rfl, rfl, by decide +kernel, rfl, by decide +kernel, by decide +kernel⟩

theorem ok_number0 {f fW fN : Addr} {fd fdW fdN : FuncData} (F : Fun K "is_number" "is_number" sisnumber f fd) (T : WTxt mg) (F_is_written : Fun K "is_written" "is_written" siswritten fW fdW) (b_is_written : Binds K fdW Piswritten []) (g_is_written : mg "is_written" = some (.ref fW)) (F_is_natural : Fun K "is_natural" "is_natural" sisnatural fN fdN) (b_is_natural : Binds K fdN Pisnatural []) (g_is_natural : mg "is_natural" = some (.ref fN)) : FnOk P w K mg base CX0 3 f fd Pisnumber (spW isNum) := by
  have G_is_written : FnOk P w K mg base CX0 2 fW fdW Piswritten (spW isWr) := ok_wri F_is_written F_is_natural b_is_natural g_is_natural
  refine F.ok scisnumber (fun vs H Q E h => ?_) (fun cdv A outer s H vs Q E hr h => ?_)
  · obtain ⟨t, rfl, _⟩ := h
    rfl
  · obtain ⟨t, rfl, hl, k⟩ := h
    have hr1 := hr
    refine ⟨_, (pss_one (ps_ret (pe_and (pe_call G_is_written hr1 rfl g_is_written F_is_written.kp b_is_written .nil pass0 (pa_cons (pv 0) pa_nil)) (pe_one (pe_cmpR op_le (pe_callB call_len_str (by rfl) T.len PySem.boot_len (pa_cons (pe_m1 PySem.F.slot_str_lstrip PySem.F.type_str_lstrip mt_lstripChars (pv 0) pe_str) pa_nil)) (pe_gint (by rfl) T.MOST_DIGITS) (nomark _)))))), ?_⟩
    have e := num_eq t
    refine ⟨.str t, (by kernel_rfl), t, rfl, hl, ?_⟩
    cases hw : isWr t with
    | false =>
      rw [hw, Bool.false_and] at e
      rw [e] at k
      exact ⟨_, rfl, ite_no rfl k⟩
    | true =>
      rw [hw, Bool.true_and] at e
      rw [e] at k
      refine ⟨_, rfl, ite_yes rfl ?_⟩
      have ll := lstrip_len t
      refine ⟨.str t, (by kernel_rfl), ⟨_, rfl⟩, t, "-", rfl, rfl, sz_of (by omega), ?_⟩
      refine ⟨_, rfl, sz_of (by omega), ?_⟩
      exact ⟨_, _, rfl, rfl, k⟩
structure NumFun (K : PySem.W.Frag) (mg : Str → Option Value) (f : Addr) (fd : FuncData) : Prop extends Fun K "is_number" "is_number" sisnumber f fd where
  rest : ∃ (fW fO : Addr) (fdW fdO : FuncData), Fun K "is_written" "is_written" siswritten fW fdW ∧ Binds K fdW Piswritten [] ∧ mg "is_written" = some (.ref fW) ∧ Fun K "is_natural" "is_natural" sisnatural fO fdO ∧ Binds K fdO Pisnatural [] ∧ mg "is_natural" = some (.ref fO)
theorem ok_number {f fA : Addr} {fd fdA : FuncData} (F : NumFun K mg f fd) (T : WTxt mg) (_ : Fun K "all_among" "all_among" sallamong fA fdA) (_ : Binds K fdA Pallamong []) (_ : mg "all_among" = some (.ref fA)) : FnOk P w K mg base CX0 3 f fd Pisnumber (spW isNum) := by
  obtain ⟨_, _, _, _, h1, h2, h3, h4, h5, h6⟩ := F.rest
  exact ok_number0 F.toFun T h1 h2 h3 h4 h5 h6

end
end Nm
namespace Nm
open PySem PySem.Spec PyProof.Rows L2
/-! ### the words of a line -/
def WL (H : Hp) : List (List Nat × Nat) → List V → Prop := Paired fun (p : List Nat × Nat) (v : V) => ∃ T : Addr, v = .ref T ∧ H T = some (.tup [.str ⟨p.1.toArray⟩, .int (p.2 : Int)])
theorem Paired.mono' {α β : Type} {F G : α → β → Prop} : ∀ {xs : List α} {ys : List β}, Paired F xs ys → (∀ a b, F a b → G a b) → Paired G xs ys
  | _, _, .nil, _ => .nil
  | _, _, .cons r t, h => .cons (h _ _ r) (Paired.mono' t h)
theorem Paired.snoc {α β : Type} {F : α → β → Prop} {a : α} {b : β} (h : F a b) : ∀ {xs : List α} {ys : List β}, Paired F xs ys → Paired F (xs ++ [a]) (ys ++ [b])
  | _, _, .nil => .cons h .nil
  | _, _, .cons r t => .cons r (Paired.snoc h t)
theorem WL.mono {H H' : Hp} {ws : List (List Nat × Nat)} {xs : List V} (h : WL H ws xs) (k : ∀ T ys, H T = some (.tup ys) → H' T = some (.tup ys)) : WL H' ws xs := Paired.mono' h fun _ _ ⟨T, e, q⟩ => ⟨T, e, k _ _ q⟩
theorem WL.same {H H' : Hp} {ws : List (List Nat × Nat)} {xs : List V} (h : WL H ws xs) (s : Same H H') : WL H' ws xs := h.mono fun T ys q => s _ _ q
theorem WL.len {H : Hp} {ws : List (List Nat × Nat)} {xs : List V} (h : WL H ws xs) : ws.length = xs.length := Paired.length h
/-- l stands, and what stood before it was made -/
structure LB (H0 H : Hp) (l : Addr) (ws : List (List Nat × Nat)) (xs : List V) : Prop where
  s : Same H0 H
  n : H0 l = none
  l : H l = some (.lst xs)
  w : WL H ws xs
/-- a tuple is made and appended -/
theorem LB.app {H0 H : Hp} {l t : Addr} {ws : List (List Nat × Nat)} {xs : List V} (L : LB H0 H l ws xs) (nt : H t = none) (w : List Nat) (k : Nat) :
    LB H0 (upd (upd H t (.tup [.str ⟨w.toArray⟩, .int (k : Int)])) l (.lst (xs ++ [.ref t]))) l (ws ++ [(w, k)]) (xs ++ [.ref t]) := by
  have tl : t ≠ l := (ne_of_none L.l nt).symm
  refine ⟨fun b o e => ?_, L.n, upd_same, Paired.snoc ⟨t, rfl, by rw [upd_ne tl, upd_same]⟩ (L.w.mono fun T ys q => ?_)⟩
  · rw [upd_ne (ne_of_none e L.n), upd_ne (ne_of_none (L.s b o e) nt)]
    exact L.s b o e
  · rw [upd_ne (ne_of q L.l (by intro z; cases z)), upd_ne (ne_of_none q nt)]
    exact q
theorem LB.put {H0 H H' : Hp} {l : Addr} {ws : List (List Nat × Nat)} {xs : List V} (L : LB H0 H l ws xs) (s : Same H H') : LB H0 H' l ws xs := ⟨L.s.trans s, L.n, s _ _ L.l, L.w.same s⟩
theorem part_told (z : Str) : codes (Txt.partition z ";").1 = told (codes z) := by
  have ey : codes (";" : Str) = 59 :: [] := by decide +kernel
  have nt : 59 ∉ told (codes z) := fun h => by
    have q := List.all_takeWhile (p := (· != 59)) (l := codes z)
    have := List.all_eq_true.mp q 59 h
    simp at this
  have e := List.takeWhile_append_dropWhile (p := (· != 59)) (l := codes z)
  cases d : (codes z).dropWhile (· != 59) with
  | nil =>
    rw [d, List.append_nil] at e
    have e2 : told (codes z) = codes z := e
    rw [e2]
    rw [e2] at nt
    rw [TL.partition_none ey nt]
  | cons c r =>
    have hc : c = 59 := by
      have h1 := List.head?_dropWhile_not (p := (· != 59)) (l := codes z)
      rw [d] at h1
      simpa using h1
    rw [hc] at d
    rw [d] at e
    have ez : z = (⟨(told (codes z)).toArray⟩ : Str) ++ ";" ++ ⟨r.toArray⟩ := by
      refine str_ext ?_
      show codes z = (((told (codes z)).toArray ++ (";" : Str).cps) ++ r.toArray).toList
      rw [Array.toList_append, Array.toList_append, show (";" : Str).cps.toList = [59] from ey]
      conv => lhs; rw [← e]
      show told (codes z) ++ 59 :: r = _
      simp
    have p := TL.partition_app (a := ⟨(told (codes z)).toArray⟩) (b := ⟨r.toArray⟩) ey (by simpa using nt)
    rw [← ez] at p
    rw [p]
theorem cutS_nat (z : Str) (a b : Nat) (ha : a ≤ b) (hb : b ≤ z.length) : cutS z (some (a : Int)) (some (b : Int)) = ⟨(((codes z).drop a).take (b - a)).toArray⟩ := by
  unfold cutS
  rw [HT.sIx_nat, HT.sIx_nat, Nat.min_eq_left hb, Nat.min_eq_left (Nat.le_trans ha hb)]
def sepL : List Nat := [32, 40, 41]
theorem sep_codes : codes (" ()" : Str) = sepL := by decide +kernel
theorem sign_eq (c : Nat) (k : Nat) (s : Str) (h : codes s = [k]) : decide (V.str ⟨#[c]⟩ = V.str s) = decide (c = k) := by
  rw [dec_str]
  by_cases e : c = k
  · rw [e, decide_eq_true rfl]
    exact decide_eq_true (str_ext (by rw [h]))
  · rw [decide_eq_false e]
    exact decide_eq_false fun z => e (by
      have y := congrArg codes z
      rw [h] at y
      exact (List.cons.inj y).1)
/-- one turn of the scan -/
theorem scan_sep {c : Nat} (r : List Nat) (k : Nat) (w : List Nat) (h : c ∈ sepL) : scan (c :: r) k w = flush k w ++ ((if c = 32 then [] else [([c], k + 1)]) ++ scan r (k + 1) []) := by
  unfold sepL at h
  simp only [List.mem_cons, List.not_mem_nil, or_false] at h
  show (if c = 59 then flush k w else if c = 32 then flush k w ++ scan r (k + 1) [] else if c = 40 ∨ c = 41 then flush k w ++ ([c], k + 1) :: scan r (k + 1) [] else scan r (k + 1) (w ++ [c])) = _
  rcases h with rfl | rfl | rfl <;> simp
theorem scan_sign {c : Nat} (r : List Nat) (k : Nat) (w : List Nat) (h : c ∉ sepL) (h59 : c ≠ 59) : scan (c :: r) k w = scan r (k + 1) (w ++ [c]) := by
  unfold sepL at h
  simp only [List.mem_cons, List.not_mem_nil, or_false, not_or] at h
  show (if c = 59 then flush k w else if c = 32 then flush k w ++ scan r (k + 1) [] else if c = 40 ∨ c = 41 then flush k w ++ ([c], k + 1) :: scan r (k + 1) [] else scan r (k + 1) (w ++ [c])) = _
  rw [if_neg h59, if_neg h.1, if_neg (by omega)]
def spWords : Sp := fun vs H Q _ => ∃ z : Str, vs = [.str z] ∧ z.length ≤ 900000 ∧ ∀ (p : Addr) (H' : Hp) (xs : List V), Same H H' → H' p = some (.tup xs) → WL H' (scan (codes z) 0 []) xs → Q (.ref p) H'
section
variable {P : Program} {w : World} {K : PySem.W.Frag} {mg : Str → Option Value} {base : Heap}

abbrev swordsof : Stmt := top 15
abbrev Nwordsof : List Str := ["line", "words", "start", "told", "at", "sign"]
abbrev Pwordsof : List Str := ["line"]
theorem scwordsof : FnScope Nwordsof Pwordsof (defScope swordsof) := ⟨rfl, rfl, rfl, by decide +kernel, rfl, by decide +kernel, by decide +kernel⟩

theorem small_big {n : Nat} (h : n ≤ 2000000) : n < sizeLine := Nat.lt_of_le_of_lt h (by decide)
theorem ok_words_of {f : Addr} {fd : FuncData} (F : Fun K "words_of" "words_of" swordsof f fd) (T : WTxt mg) : FnOk P w K mg base CX0 1 f fd Pwordsof spWords := by
  refine F.ok scwordsof (fun vs H Q E h => ?_) (fun cdv A outer s H vs Q E hr h => ?_)
  · obtain ⟨t, rfl, _⟩ := h
    rfl
  · obtain ⟨z, rfl, hl, k⟩ := h
    refine ⟨_, (pss_cons (ps_set (i := 1) scwordsof.nd rfl (Or.inl rfl) (pe_lst pa_nil))
      (pss_cons (ps_set (i := 2) scwordsof.nd rfl (Or.inl rfl) pe_int)
      (pss_cons (ps_set (i := 3) scwordsof.nd rfl (Or.inl rfl) (pe_ix ix_tup (pe_partition (pv 0) pe_str) pe_int (fun _ _ => rfl)))
      (pss_cons (ps_for PassesOwn.never rfl (pi_enumS (by rfl) T.enumerate (pa_cons (pe_op op_add_str (pv 3) pe_str) pa_nil)) (pg_tup (by rfl) (pgs_cons (pg_name (i := 4) scwordsof.nd rfl (Or.inl rfl)) (pgs_cons (pg_name (i := 5) scwordsof.nd rfl (Or.inl rfl)) pgs_nil)))
      (pss_one (ps_if (pt_cmpR op_in_sign (pv 5) pe_str (by rfl))
      (pss_cons (ps_if (pt_cmpR op_lt (pv 2) (pv 4) (nomark _))
      (pss_one (ps_expr (pe_bm PySem.F.plainAttrs_list PySem.F.slot_list_append PySem.F.type_list_append mt_append (pv 1) (pa_cons (pe_tup (pa_cons (pe_slice sl_str (pv 3) (po_some (pv 2)) (po_some (pv 4))) (pa_cons (pe_op op_add (pv 2) pe_int) pa_nil))) pa_nil))))
      pss_nil)
      (pss_cons (ps_if (pt_cmpR op_ne (pv 5) pe_str (nomark _))
      (pss_one (ps_expr (pe_bm PySem.F.plainAttrs_list PySem.F.slot_list_append PySem.F.type_list_append mt_append (pv 1) (pa_cons (pe_tup (pa_cons (pv 5) (pa_cons (pe_op op_add (pv 4) pe_int) pa_nil))) pa_nil))))
      pss_nil)
      (pss_one (ps_set (i := 2) scwordsof.nd rfl (Or.inl rfl) (pe_op op_add (pv 4) pe_int)))))
      pss_nil)))
      (pss_one (ps_ret (pe_callTy call_tuple_of (by rfl) T.tuple (by decide +kernel) (pa_cons (pv 1) pa_nil)))))))), ?_⟩
    refine ⟨Nat.zero_le _, fun l nl => ?_⟩
    have L0 : LB H (upd H l (.lst [])) l [] [] := ⟨same_new nl, nl, upd_same, .nil⟩
    generalize upd H l (.lst []) = H1 at L0 ⊢
    refine ⟨.str z, (by kernel_rfl), ⟨_, rfl⟩, z, ";", rfl, rfl, rfl, sz_of (by omega), fun pp np => ?_⟩
    have hpp := upd_same (H := H1) (a := pp) (o := .tup [.str (Txt.partition z ";").1, .str (Txt.partition z ";").2.1, .str (Txt.partition z ";").2.2])
    have L1 := L0.put (same_new (o := .tup [.str (Txt.partition z ";").1, .str (Txt.partition z ";").2.1, .str (Txt.partition z ";").2.2]) np)
    generalize upd H1 pp (.tup [.str (Txt.partition z ";").1, .str (Txt.partition z ";").2.1, .str (Txt.partition z ";").2.2]) = H2 at hpp L1 ⊢
    refine ⟨pp, _, 0, .str (Txt.partition z ";").1, rfl, rfl, SqT.of hpp, rfl, ?_⟩
    have eT := part_told z
    generalize (Txt.partition z ";").1 = to at eT ⊢
    have lT : to.length ≤ 900000 := by
      rw [len_codes, eT]
      rw [len_codes] at hl
      exact Nat.le_trans (List.takeWhile_sublist _).length_le hl
    have n59 : 59 ∉ codes to := by
      rw [eT]
      intro h
      have q := List.all_takeWhile (p := (· != 59)) (l := codes z)
      have := List.all_eq_true.mp q 59 h
      simp at this
    have eA : codes (to ++ " ") = codes to ++ [32] := by
      show (to.cps ++ (" " : Str).cps).toList = _
      rw [Array.toList_append]
      rfl
    have lA : (to ++ " ").cps.size = (codes to).length + 1 := by
      have : (to ++ " ").cps.size = (codes (to ++ " ")).length := by simp
      rw [this, eA]
      simp
    have lc : to.length = (codes to).length := len_codes to
    refine ⟨.str to, (by kernel_rfl), _, _, rfl, rfl, sz_of (by show to.length + 1 ≤ 2000000; omega), _, rfl, ?_⟩
    refine for_it (walk_enumS (z := to ++ " ")) (fun i σ H' => ∃ (st : Nat) (ws : List (List Nat × Nat)) (xs : List V) (v4 v5 : Option V), σ = [some (.str z), some (.ref l), some (.int (st : Int)), some (.str to), v4, v5] ∧ st ≤ i ∧ LB H H' l ws xs ∧ xs.length ≤ 2 * i ∧
        ws ++ scan ((codes to ++ [32]).drop i) i (((codes to ++ [32]).drop st).take (i - st)) = scan (codes to ++ [32]) 0 [] ∧ (i = (codes to).length + 1 → st = i))
      ⟨0, [], [], none, none, (by kernel_rfl), Nat.le_refl _, L1, Nat.le_refl _, rfl, fun q => by omega⟩ (fun _ _ _ _ _ => True.intro) ?_ ?_
    · rintro i x σ H3 H4 hi ⟨st, ws, xs, v4, v5, rfl, hst, L3, hx, hsc, _⟩ ⟨Tn, c, rfl, nT, rfl, hc⟩
      rw [lA] at hi
      have hc' : (codes to ++ [32])[i]? = some c := by
        rw [← eA]
        simpa using hc
      have hdrop : (codes to ++ [32]).drop i = c :: (codes to ++ [32]).drop (i + 1) := by
        obtain ⟨h1, h2⟩ := List.getElem?_eq_some_iff.mp hc'
        rw [List.drop_eq_getElem_cons h1, h2]
      have c59 : c ≠ 59 := fun q => by
        have m := List.mem_of_getElem? hc'
        rw [q] at m
        rcases List.mem_append.mp m with h | h
        · exact n59 h
        · simp at h
      rw [hdrop] at hsc
      have hT := upd_same (H := H3) (a := Tn) (o := .tup [.int (i : Nat), .str ⟨#[c]⟩])
      have L4 := L3.put (same_new (o := .tup [.int (i : Nat), .str ⟨#[c]⟩]) nT)
      generalize upd H3 Tn (.tup [.int (i : Nat), .str ⟨#[c]⟩]) = H4 at hT L4 ⊢
      refine ⟨Tn, _, rfl, SqT.of hT, rfl, _, _, rfl, _, _, rfl, rfl, ?_⟩
      refine ⟨.str ⟨#[c]⟩, (by kernel_rfl), c, " ()", rfl, rfl, _, rfl, ?_⟩
      rw [show (Str.ofString " ()").cps.toList = sepL from sep_codes]
      by_cases hs : c ∈ sepL
      · refine ite_yes (decide_eq_true hs) ?_
        rw [scan_sep _ _ _ hs] at hsc
        have last : i = (codes to).length → c = 32 := fun q => by
          rw [q, List.getElem?_append_right (Nat.le_refl _)] at hc'
          simpa using hc'.symm
        refine ⟨.int (st : Int), (by kernel_rfl), .int (i : Int), (by kernel_rfl), _, _, rfl, rfl, _, rfl, ?_⟩
        by_cases hlt : st < i
        · refine ite_yes (decide_eq_true (by omega)) ?_
          refine ⟨.ref l, (by kernel_rfl), .inl ⟨rfl, _, SqL.of L4.l⟩, .str to, (by kernel_rfl), .int (st : Int), (by kernel_rfl), (st : Int), rfl, .int (i : Int), (by kernel_rfl), (i : Int), rfl, to, rfl, sz_of (by omega), ?_⟩
          refine ⟨.int (st : Int), (by kernel_rfl), _, _, rfl, rfl, by show 2 ≤ sizeLine; decide, fun t1 n1 => ?_⟩
          rw [cutS_nat to st i hst (by omega)]
          have ew : ((codes to).drop st).take (i - st) = ((codes to ++ [32]).drop st).take (i - st) := by
            rw [List.drop_append_of_le_length (by omega), List.take_append_of_le_length (by rw [List.length_drop]; omega)]
          rw [ew]
          have L5 := L4.app n1 (((codes to ++ [32]).drop st).take (i - st)) (st + 1)
          refine ⟨l, _, _, rfl, rfl, (same_new n1) _ _ L4.l, small_big (by omega), ?_⟩
          have wl : (((codes to ++ [32]).drop st).take (i - st)).length = i - st := by
            rw [List.length_take, List.length_drop, List.length_append]
            show min (i - st) ((codes to).length + 1 - st) = i - st
            omega
          have ef : flush i (((codes to ++ [32]).drop st).take (i - st)) = [(((codes to ++ [32]).drop st).take (i - st), st + 1)] := by
            unfold flush
            rw [if_neg (by intro q; rw [q] at wl; simp at wl; omega), wl, show i + 1 - (i - st) = st + 1 by omega]
          rw [ef] at hsc
          have L5' : LB H _ l (ws ++ [(((codes to ++ [32]).drop st).take (i - st), st + 1)]) (xs ++ [.ref t1]) := L5
          have hx5 : (xs ++ [V.ref t1]).length ≤ 2 * i + 1 := by rw [List.length_append]; simp; omega
          refine ⟨.str ⟨#[c]⟩, (by kernel_rfl), rfl, _, rfl, ?_⟩
          by_cases h32 : c = 32
          · refine ite_no (by rw [sign_eq c 32 " " (by decide +kernel), decide_eq_true h32]; rfl) ?_
            refine ⟨.int (i : Int), (by kernel_rfl), _, _, rfl, rfl, ?_⟩
            refine ⟨i + 1, _, _, some (.int (i : Int)), some (.str ⟨#[c]⟩), (by kernel_rfl), Nat.le_refl _, L5', by omega, ?_, fun _ => rfl⟩
            rw [if_pos h32, List.nil_append] at hsc
            rw [Nat.sub_self, List.take_zero, ← hsc]
            try simp only [List.append_assoc]
          · refine ite_yes (by rw [sign_eq c 32 " " (by decide +kernel), decide_eq_false h32]; rfl) ?_
            refine ⟨.ref l, (by kernel_rfl), .inl ⟨rfl, _, SqL.of L5'.l⟩, .str ⟨#[c]⟩, (by kernel_rfl), .int (i : Int), (by kernel_rfl), _, _, rfl, rfl, by show 2 ≤ sizeLine; decide, fun t2 n2 => ?_⟩
            have L6 := L5'.app n2 [c] (i + 1)
            refine ⟨l, _, _, rfl, rfl, (same_new n2) _ _ L5'.l, small_big (by omega), ?_⟩
            refine ⟨.int (i : Int), (by kernel_rfl), _, _, rfl, rfl, ?_⟩
            refine ⟨i + 1, _, _, some (.int (i : Int)), some (.str ⟨#[c]⟩), (by kernel_rfl), Nat.le_refl _, L6, by rw [List.length_append]; simp only [List.length_singleton]; omega, ?_, fun _ => rfl⟩
            rw [if_neg h32] at hsc
            rw [Nat.sub_self, List.take_zero, ← hsc]
            try simp only [List.append_assoc]
        · refine ite_no (decide_eq_false (by omega)) ?_
          have e0 : i - st = 0 := by omega
          rw [e0, List.take_zero] at hsc
          have ef : flush i [] = [] := rfl
          rw [ef, List.nil_append] at hsc
          have L5' : LB H _ l ws xs := L4
          have hx5 : xs.length ≤ 2 * i + 1 := by omega
          refine ⟨.str ⟨#[c]⟩, (by kernel_rfl), rfl, _, rfl, ?_⟩
          by_cases h32 : c = 32
          · refine ite_no (by rw [sign_eq c 32 " " (by decide +kernel), decide_eq_true h32]; rfl) ?_
            refine ⟨.int (i : Int), (by kernel_rfl), _, _, rfl, rfl, ?_⟩
            refine ⟨i + 1, _, _, some (.int (i : Int)), some (.str ⟨#[c]⟩), (by kernel_rfl), Nat.le_refl _, L5', by omega, ?_, fun _ => rfl⟩
            rw [if_pos h32, List.nil_append] at hsc
            rw [Nat.sub_self, List.take_zero, ← hsc]
            try simp only [List.append_assoc]
          · refine ite_yes (by rw [sign_eq c 32 " " (by decide +kernel), decide_eq_false h32]; rfl) ?_
            refine ⟨.ref l, (by kernel_rfl), .inl ⟨rfl, _, SqL.of L5'.l⟩, .str ⟨#[c]⟩, (by kernel_rfl), .int (i : Int), (by kernel_rfl), _, _, rfl, rfl, by show 2 ≤ sizeLine; decide, fun t2 n2 => ?_⟩
            have L6 := L5'.app n2 [c] (i + 1)
            refine ⟨l, _, _, rfl, rfl, (same_new n2) _ _ L5'.l, small_big (by omega), ?_⟩
            refine ⟨.int (i : Int), (by kernel_rfl), _, _, rfl, rfl, ?_⟩
            refine ⟨i + 1, _, _, some (.int (i : Int)), some (.str ⟨#[c]⟩), (by kernel_rfl), Nat.le_refl _, L6, by rw [List.length_append]; simp only [List.length_singleton]; omega, ?_, fun _ => rfl⟩
            rw [if_neg h32] at hsc
            rw [Nat.sub_self, List.take_zero, ← hsc]
            try simp only [List.append_assoc]
      · refine ite_no (decide_eq_false hs) ?_
        rw [scan_sign _ _ _ hs c59] at hsc
        have ni : i ≠ (codes to).length := fun q => by
          rw [q, List.getElem?_append_right (Nat.le_refl _)] at hc'
          have : c = 32 := by simpa using hc'.symm
          exact hs (by rw [this]; decide)
        have et : ((codes to ++ [32]).drop st).take (i + 1 - st) = ((codes to ++ [32]).drop st).take (i - st) ++ [c] := by
          rw [show i + 1 - st = (i - st) + 1 by omega, List.take_add_one, List.getElem?_drop, show st + (i - st) = i by omega, hc']
          rfl
        refine ⟨st, ws, xs, some (.int (i : Int)), some (.str ⟨#[c]⟩), (by kernel_rfl), by omega, L4, by omega, ?_, fun q => by omega⟩
        rw [et]
        exact hsc
    · rintro σ H3 ⟨st, ws, xs, v4, v5, rfl, hst, L3, hx, hsc, hend⟩
      have est := hend lA
      rw [lA] at hsc est
      rw [est, Nat.sub_self, List.take_zero, List.drop_of_length_le (by simp)] at hsc
      have e1 : scan [] ((codes to).length + 1) [] = [] := rfl
      rw [e1, List.append_nil, scan_blank, eT, scan_told] at hsc
      refine ⟨.ref l, (by kernel_rfl), l, xs, rfl, .inl ⟨SqL.of L3.l, fun q nq => ?_⟩⟩
      refine k q _ xs (L3.s.trans (same_new nq)) upd_same ?_
      rw [← hsc]
      exact L3.w.same (same_new nq)
end
end Nm
namespace Nm
open PySem PySem.Spec PyProof.Rows L2
open TL (joinL tl_join join_eq tl)
/-! ### written_value -/
theorem joinL_nil : ∀ ps : List (List Nat), joinL [] ps = ps.flatten
  | [] => rfl
  | [p] => by simp [joinL]
  | p :: q :: r => by
    show p ++ ([] ++ joinL [] (q :: r)) = _
    rw [joinL_nil (q :: r)]
    simp
def flat (ps : List Str) : List Nat := (ps.map codes).flatten
theorem flat_snoc (ps : List Str) (s : Str) : flat (ps ++ [s]) = flat ps ++ codes s := by simp [flat]
theorem flat_len (ps : List Str) : (ps.map (·.length)).sum = (flat ps).length := by
  unfold flat
  rw [List.length_flatten, List.map_map]
  congr 1
theorem codes_join (ps : List Str) : codes (Txt.join "" ps) = flat ps := by
  rw [join_eq]
  show tl (Str.join "" ps) = _
  rw [tl_join, show tl ("" : Str) = [] from rfl, joinL_nil]
  rfl
def itemC : Itm → List Nat
  | .inl s => codes s
  | .inr t => wC t
def rend (ws : List Itm) : List Nat := ws.foldl (fun acc i => itemC i ++ acc) []
theorem rend_snoc (ws : List Itm) (i : Itm) : rend (ws ++ [i]) = itemC i ++ rend ws := by
  unfold rend
  rw [List.foldl_append]
  rfl
def wt : Itm → Nat
  | .inl _ => 1
  | .inr t => 5 * t.sz - 2
def wtL : List Itm → Nat
  | [] => 0
  | i :: r => wt i + wtL r
theorem wtL_app (a b : List Itm) : wtL (a ++ b) = wtL a + wtL b := by
  induction a with
  | nil => simp [wtL]
  | cons i r ih => simp only [List.cons_append, wtL, ih]; omega
theorem wt_pos (i : Itm) : 1 ≤ wt i := by
  cases i with
  | inl s => exact Nat.le_refl _
  | inr t => have := t.sz_pos; simp only [wt]; omega
theorem wtL_len (a : List Itm) : a.length ≤ wtL a := by
  induction a with
  | nil => exact Nat.le_refl _
  | cons i r ih => have := wt_pos i; simp only [List.length_cons, wtL]; omega
def gI (ws : List Itm) : Prop := ∀ t, Sum.inr t ∈ ws → Tr.good t
inductive SAt (C : Addr) (H : Hp) : List V → List Itm → Prop
  | nil : SAt C H [] []
  | str {s : Str} {xs : List V} {ws : List Itm} (r : SAt C H xs ws) : SAt C H (.str s :: xs) (.inl s :: ws)
  | val {x : V} {t : Tr} {xs : List V} {ws : List Itm} (h : VAt C H x t) (r : SAt C H xs ws) : SAt C H (x :: xs) (.inr t :: ws)
theorem SAt.mono {C : Addr} {H H' : Hp} (k1 : ∀ a dx fs, H a = some (.ins C dx fs) → H' a = some (.ins C dx fs)) (k2 : ∀ a xs, H a = some (.tup xs) → H' a = some (.tup xs)) : ∀ {ws : List Itm} {xs : List V}, SAt C H xs ws → SAt C H' xs ws
  | _, _, .nil => .nil
  | _, _, .str r => .str (r.mono k1 k2)
  | _, _, .val h r => .val (h.mono k1 k2) (r.mono k1 k2)
theorem SAt.same {C : Addr} {H H' : Hp} {xs : List V} {ws : List Itm} (h : SAt C H xs ws) (s : Same H H') : SAt C H' xs ws := h.mono (fun a dx fs e => s _ _ e) fun a xs e => s _ _ e
theorem SAt.put {C : Addr} {H : Hp} {xs : List V} {ws : List Itm} (h : SAt C H xs ws) {p : Addr} {o o' : HO} (e : H p = some o) (n1 : ∀ dx fs, o ≠ .ins C dx fs) (n2 : ∀ xs, o ≠ .tup xs) : SAt C (upd H p o') xs ws :=
  h.mono (fun a dx fs q => by rw [upd_ne (ne_of q e (fun z => n1 _ _ z.symm))]; exact q) fun a xs q => by rw [upd_ne (ne_of q e (fun z => n2 _ z.symm))]; exact q
theorem SAt.len {C : Addr} {H : Hp} : ∀ {xs : List V} {ws : List Itm}, SAt C H xs ws → xs.length = ws.length
  | _, _, .nil => rfl
  | _, _, .str r => by simp [SAt.len r]
  | _, _, .val _ r => by simp [SAt.len r]
theorem SAt.app {C : Addr} {H : Hp} : ∀ {xs ys : List V} {ws vs : List Itm}, SAt C H xs ws → SAt C H ys vs → SAt C H (xs ++ ys) (ws ++ vs)
  | _, _, _, _, .nil, k => k
  | _, _, _, _, .str r, k => .str (SAt.app r k)
  | _, _, _, _, .val h r, k => .val h (SAt.app r k)
theorem SAt.snoc {C : Addr} {H : Hp} : ∀ {ws : List Itm} {xs : List V}, SAt C H xs ws → xs = [] ∨ ∃ xs' x ws' w, xs = xs' ++ [x] ∧ ws = ws' ++ [w] ∧ SAt C H xs' ws' ∧ SAt C H [x] [w]
  | _, _, .nil => .inl rfl
  | _, _, .str (s := s) r => by
    rcases r.snoc with q | ⟨xs', x, ws', w, e1, e2, k⟩
    · subst q
      cases r
      exact .inr ⟨[], _, [], _, rfl, rfl, .nil, .str .nil⟩
    · subst e1 e2
      exact .inr ⟨_ :: xs', x, _ :: ws', w, rfl, rfl, .str k.1, k.2⟩
  | _, _, .val h r => by
    rcases r.snoc with q | ⟨xs', x, ws', w, e1, e2, k⟩
    · subst q
      cases r
      exact .inr ⟨[], _, [], _, rfl, rfl, .nil, .val h .nil⟩
    · subst e1 e2
      exact .inr ⟨_ :: xs', x, _ :: ws', w, rfl, rfl, .val h k.1, k.2⟩
theorem szL_drop {ts : List Tr} {j : Nat} {u : Tr} (e : ts[j]? = some u) : Tr.szL (ts.drop j) = u.sz + Tr.szL (ts.drop (j + 1)) := by
  obtain ⟨h1, h2⟩ := List.getElem?_eq_some_iff.mp e
  rw [List.drop_eq_getElem_cons h1, h2]
  rfl
def spWritten (C : Addr) : Sp := fun vs H Q _ => ∃ (v : V) (t : Tr), vs = [v] ∧ VAt C H v t ∧ t.good ∧ t.sz ≤ 2100 ∧ ∀ (H' : Hp) (s : Str), Same H H' → codes s = wC t → Q (.str s) H'
section
variable {P : Program} {w : World} {K : PySem.W.Frag} {mg : Str → Option Value} {base : Heap} {C fE : Addr}

abbrev swrittenvalue : Stmt := top 20
abbrev Nwrittenvalue : List Str := ["value", "pieces", "waiting", "one", "part"]
abbrev Pwrittenvalue : List Str := ["value"]
theorem scwrittenvalue : FnScope Nwrittenvalue Pwrittenvalue (defScope swrittenvalue) := ⟨rfl, rfl, rfl, by decide +kernel, rfl, by decide +kernel, by decide +kernel⟩

theorem ok_written {f fP : Addr} {fd fdP : FuncData} (F : Fun K "written_value" "written_value" swrittenvalue f fd) (T : VTxt mg) (MT : MadeTxt K mg C fE) (kS : PySem.W.kitOne K (.ref C) (.type "str") = some false) (F_parts_of : Fun K "parts_of" "parts_of" spartsof fP fdP) (b_parts_of : Binds K fdP ["value"] []) (g_parts_of : mg "parts_of" = some (.ref fP)) : FnOk P w K mg base CX0 2 f fd Pwrittenvalue (spWritten C) := by
  have G_parts_of : FnOk P w K mg base CX0 1 fP fdP Ppartsof (spParts C) := ok_parts F_parts_of T MT
  refine F.ok scwrittenvalue (fun vs H Q E h => ?_) (fun cdv A outer s H vs Q E hr h => ?_)
  · obtain ⟨v, t, rfl, _⟩ := h
    rfl
  · obtain ⟨v, t, rfl, hv, tg, zt, k⟩ := h
    have hr1 := hr
    refine ⟨_, (pss_cons (ps_set (i := 1) scwrittenvalue.nd rfl (Or.inl rfl) (pe_lst pa_nil))
      (pss_cons (ps_set (i := 2) scwrittenvalue.nd rfl (Or.inl rfl) (pe_lst (pa_cons (pv 0) pa_nil)))
      (pss_cons (ps_while PassesOwn.never (pt_truth (pv 2) (by intro _; rfl))
      (pss_cons (ps_set (i := 3) scwrittenvalue.nd rfl (Or.inl rfl) (pe_bm0 PySem.F.plainAttrs_list PySem.F.slot_list_pop PySem.F.type_list_pop mt_pop (pv 2)))
      (pss_one (ps_if (pt_val (pe_callB call_isi (by rfl) T.isinstance (by decide +kernel) (pa_cons (pv 3) (pa_cons (pe_bltn (v := .ty "str") (by rfl) T.str (by decide +kernel) rfl) pa_nil))))
      (pss_one (ps_expr (pe_bm PySem.F.plainAttrs_list PySem.F.slot_list_append PySem.F.type_list_append mt_append (pv 1) (pa_cons (pv 3) pa_nil))))
      (pss_one (ps_if (pt_val (pe_callB call_isi (by rfl) T.isinstance (by decide +kernel) (pa_cons (pv 3) (pa_cons (pe_gref (by rfl) MT.gM) pa_nil))))
      (pss_cons (ps_expr (pe_bm PySem.F.plainAttrs_list PySem.F.slot_list_append PySem.F.type_list_append mt_append (pv 1) (pa_cons (pe_fld (pv 3) rfl) pa_nil)))
      (pss_one (ps_for PassesOwn.never rfl (RT.pi_revA (by rfl) T.reversed (pe_fld (pv 3) rfl)) (pg_name (i := 4) scwrittenvalue.nd rfl (Or.inl rfl))
      (pss_one (ps_if (pt_truth (pe_call G_parts_of hr1 rfl g_parts_of F_parts_of.kp b_parts_of .nil pass0 (pa_cons (pv 4) pa_nil)) (by intro _; rfl))
      (pss_one (ps_expr (pe_bm PySem.F.plainAttrs_list PySem.F.slot_list_extend PySem.F.type_list_extend mt_extend (pv 2) (pa_cons (pe_lst (pa_cons pe_str (pa_cons (pv 4) (pa_cons pe_str pa_nil)))) pa_nil))))
      (pss_one (ps_expr (pe_bm PySem.F.plainAttrs_list PySem.F.slot_list_extend PySem.F.type_list_extend mt_extend (pv 2) (pa_cons (pe_lst (pa_cons (pv 4) (pa_cons pe_str pa_nil))) pa_nil)))))))))
      (pss_one (ps_expr (pe_bm PySem.F.plainAttrs_list PySem.F.slot_list_append PySem.F.type_list_append mt_append (pv 1) (pa_cons (pe_callTy call_str_int (by rfl) T.str (by decide +kernel) (pa_cons (pv 3) pa_nil)) pa_nil))))))))))
      (pss_one (ps_ret (pe_join pe_str (pv 1))))))), ?_⟩
    refine ⟨by show 0 ≤ sizeLine; decide, fun lp nlp => ?_⟩
    have S0 := same_new (o := .lst []) nlp
    have e0 := upd_same (H := H) (a := lp) (o := .lst [])
    generalize upd H lp (.lst []) = H0 at S0 e0 ⊢
    refine ⟨v, (by kernel_rfl), by show 1 ≤ sizeLine; decide, fun lw nlw => ?_⟩
    have nwH : H lw = none := by
      cases e : H lw with
      | none => rfl
      | some o => rw [S0 _ _ e] at nlw; cases nlw
    have pw : lp ≠ lw := fun z => by rw [z, nlw] at e0; cases e0
    have S1 := S0.trans (same_new (o := .lst [v]) nlw)
    have lenT := len_wC t tg
    refine ⟨fun m σ H' => ∃ (ps : List Str) (ws : List Itm) (xs : List V) (v3 v4 : Option V), σ = [some v, some (.ref lp), some (.ref lw), v3, v4] ∧ H' lp = some (.lst (ps.map V.str)) ∧ H' lw = some (.lst xs) ∧ SAt C H' xs ws ∧ Same H H' ∧ gI ws ∧ flat ps ++ rend ws = wC t ∧ ps.length + wtL ws ≤ 5 * t.sz ∧ m = wtL ws,
      ⟨_, [], [.inr t], [v], none, none, rfl, by rw [upd_ne pw]; exact e0, upd_same, .val (hv.same S1) .nil, S1, fun u m => by simp at m; rw [m]; exact tg, by simp [flat, rend, itemC], by show 0 + (5 * t.sz - 2 + 0) ≤ _; omega, rfl⟩, ?_⟩
    rintro m σ H1 ⟨ps, ws, xs, v3, v4, rfl, hp, hl, hx, S, hg, hfl, hwt, rfl⟩
    refine ⟨.ref lw, (by kernel_rfl), !xs.isEmpty, .inl ⟨xs, SqL.of hl, rfl⟩, ?_⟩
    rcases hx.snoc with e | ⟨xs', x, ws', u, rfl, rfl, hx', hxu⟩
    · subst e
      cases hx
      refine ite_no rfl ?_
      have efl : flat ps = wC t := by simpa [rend] using hfl
      refine ⟨⟨_, rfl⟩, .ref lp, (by kernel_rfl), "", lp, ps, rfl, rfl, .inl (SqL.of hp), ?_, ?_⟩
      · rw [flat_len, efl, show ("" : Str).length = 0 from rfl]
        omega
      · exact k H1 _ S (by rw [codes_join, efl])
    · refine ite_yes (by cases xs' <;> rfl) ?_
      refine ⟨_, fun σ' H' h => h, ?_⟩
      refine ⟨.ref lw, (by kernel_rfl), .inl ⟨rfl, _, SqL.of hl⟩, lw, _, x, rfl, rfl, hl, (by simp), ?_⟩
      rw [show (xs' ++ [x]).dropLast = xs' from List.dropLast_concat]
      have S2 : Same H (upd H1 lw (.lst xs')) := same_put S nwH
      have hp2 : upd H1 lw (.lst xs') lp = some (.lst (ps.map V.str)) := by rw [upd_ne pw]; exact hp
      have hx2 := hx'.put (o' := .lst xs') hl (by intro _ _ z; cases z) (by intro _ z; cases z)
      have hu2 := hxu.put (o' := .lst xs') hl (by intro _ _ z; cases z) (by intro _ z; cases z)
      have hl2 := upd_same (H := H1) (a := lw) (o := .lst xs')
      clear hx' hxu hx hl hp
      generalize upd H1 lw (.lst xs') = H2 at S2 hp2 hx2 hu2 hl2 ⊢
      rw [rend_snoc] at hfl
      rw [wtL_app] at hwt
      have hw0 : wtL [u] = wt u := by simp [wtL]
      rw [hw0] at hwt
      have lps : ps.length < sizeLine := Nat.lt_of_le_of_lt (show ps.length ≤ 100000 by omega) (by decide)
      have lx2 := hx2.len
      have lw2 := wtL_len ws'
      have hg' : gI ws' := fun t m => hg t (List.mem_append_left _ m)
      have fin : ∀ (piece : Str) (v3' v4' : Option V), codes piece = itemC u → (∀ m', m' < wtL (ws' ++ [u]) → True) → ∃ m', m' < wtL (ws' ++ [u]) ∧ ∃ (ps_1 : List Str) (ws_1 : List Itm) (xs_1 : List V) (v3_1 v4_1 : Option V), [some v, some (.ref lp), some (.ref lw), v3', v4'] = [some v, some (.ref lp), some (.ref lw), v3_1, v4_1] ∧ (upd H2 lp (.lst (ps.map V.str ++ [.str piece]))) lp = some (.lst (ps_1.map V.str)) ∧ (upd H2 lp (.lst (ps.map V.str ++ [.str piece]))) lw = some (.lst xs_1) ∧ SAt C (upd H2 lp (.lst (ps.map V.str ++ [.str piece]))) xs_1 ws_1 ∧ Same H (upd H2 lp (.lst (ps.map V.str ++ [.str piece]))) ∧ gI ws_1 ∧ flat ps_1 ++ rend ws_1 = wC t ∧ ps_1.length + wtL ws_1 ≤ 5 * t.sz ∧ m' = wtL ws_1 := fun piece v3' v4' hc _ => by
        have wp := wt_pos u
        refine ⟨wtL ws', by rw [wtL_app, hw0]; omega, ps ++ [piece], ws', xs', v3', v4', rfl, by rw [upd_same]; simp, by rw [upd_ne (Ne.symm pw)]; exact hl2, hx2.put hp2 (by intro _ _ z; cases z) (by intro _ z; cases z), same_put S2 nlp, hg', ?_, ?_, rfl⟩
        · rw [flat_snoc, hc, ← hfl, List.append_assoc]
        · rw [List.length_append]; show ps.length + 1 + wtL ws' ≤ _; omega
      refine ⟨x, (by kernel_rfl), ?_⟩
      cases hu2 with
      | @str sx _ _ _ =>
        refine ⟨_, _, _, _, true, rfl, .ty "str", .base (.str sx), kit_ty (by decide +kernel), _, rfl, ?_⟩
        refine ite_yes rfl ?_
        refine ⟨.ref lp, (by kernel_rfl), .inl ⟨rfl, _, SqL.of hp2⟩, .str sx, (by kernel_rfl), lp, _, _, rfl, rfl, hp2, by rw [List.length_map]; exact lps, ?_⟩
        exact fin sx _ _ rfl fun _ _ => True.intro
      | @val _ tu _ _ hvu _ =>
        have gu : tu.good := hg tu (List.mem_append_right _ (by simp))
        cases hvu with
        | num i =>
          refine ⟨_, _, _, _, false, rfl, .ty "str", .base (.int i), kit_ty (by decide +kernel), _, rfl, ?_⟩
          refine ite_no rfl ?_
          refine ⟨.int i, (by kernel_rfl), _, _, _, _, false, rfl, .own C, .base (.int i), MT.kitI, _, rfl, ?_⟩
          refine ite_no rfl ?_
          unfold Tr.good at gu
          refine ⟨.ref lp, (by kernel_rfl), .inl ⟨rfl, _, SqL.of hp2⟩, .int i, (by kernel_rfl), i, rfl, num_log gu, lp, _, _, rfl, rfl, hp2, by rw [List.length_map]; exact lps, ?_⟩
          exact fin (Str.ofString (toString i)) _ _ (by unfold itemC wC; rfl) fun _ _ => True.intro
        | @mk a dx p mm ys ts ea ep hy =>
          refine ⟨_, _, _, _, false, rfl, .ty "str", MT.ins ea, kS, _, rfl, ?_⟩
          refine ite_no rfl ?_
          refine ⟨.ref a, (by kernel_rfl), _, _, _, _, true, rfl, .own C, MT.ins ea, MT.kitC, _, rfl, ?_⟩
          refine ite_yes rfl ?_
          refine ⟨.ref lp, (by kernel_rfl), .inl ⟨rfl, _, SqL.of hp2⟩, .ref a, (by kernel_rfl), a, C, dx, _, _, rfl, ea, MT.cl, MT.nM, mkF_maker mm p, lp, _, _, rfl, rfl, hp2, by rw [List.length_map]; exact lps, ?_⟩
          have lpa : lp ≠ a := ne_of hp2 ea (by intro z; cases z)
          have lpp : lp ≠ p := ne_of hp2 ep (by intro z; cases z)
          have S3 : Same H (upd H2 lp (.lst (ps.map V.str ++ [.str mm]))) := same_put S2 nlp
          have hp3 : upd H2 lp (.lst (ps.map V.str ++ [.str mm])) lp = some (.lst ((ps ++ [mm]).map V.str)) := by rw [upd_same]; simp
          have hl3 : upd H2 lp (.lst (ps.map V.str ++ [.str mm])) lw = some (.lst xs') := by rw [upd_ne (Ne.symm pw)]; exact hl2
          have hx3 := hx2.put (o' := .lst (ps.map V.str ++ [.str mm])) hp2 (by intro _ _ z; cases z) (by intro _ z; cases z)
          have hy3 := hy.put (o' := .lst (ps.map V.str ++ [.str mm])) hp2 (by intro _ _ z; cases z) (by intro _ z; cases z)
          have ea3 : upd H2 lp (.lst (ps.map V.str ++ [.str mm])) a = some (.ins C dx (mkF mm p)) := by rw [upd_ne (Ne.symm lpa)]; exact ea
          have ep3 : upd H2 lp (.lst (ps.map V.str ++ [.str mm])) p = some (.tup ys) := by rw [upd_ne (Ne.symm lpp)]; exact ep
          clear fin hp2 hl2 hx2 hy ea ep
          generalize upd H2 lp (.lst (ps.map V.str ++ [.str mm])) = H3 at S3 hp3 hl3 hx3 hy3 ea3 ep3 ⊢
          have ly := hy3.len
          have wtu : wt (.inr (Tr.mk mm ts)) = 3 + 5 * Tr.szL ts := by simp only [wt, Tr.sz]; omega
          have lts := szL_len ts
          have gu2 : Tr.goodL ts := by unfold Tr.good at gu; exact gu.2
          refine ⟨.ref a, (by kernel_rfl), a, C, dx, _, _, rfl, ea3, MT.cl, MT.nP, mkF_parts mm p, p, ys, rfl, .inr ⟨SqT.of ep3, ?_⟩⟩
          refine RT.for_ItvT (K := K) (a := p) (xs := ys) (fun i σ H' => ∃ (us : List Itm) (zs : List V) (v4' : Option V), σ = [some v, some (.ref lp), some (.ref lw), some (.ref a), v4'] ∧ H' lp = some (.lst ((ps ++ [mm]).map V.str)) ∧ H' lw = some (.lst zs) ∧ SAt C H' zs us ∧ Same H H' ∧ H' p = some (.tup ys) ∧ VAts C H' ys ts ∧ gI us ∧ i ≤ ys.length ∧ rend us = wCL (ts.drop (ts.length - i)) ++ rend ws' ∧ wtL us ≤ wtL ws' + 5 * Tr.szL (ts.drop (ts.length - i)))
            ⟨ws', xs', v4, rfl, hp3, hl3, hx3, S3, ep3, hy3, hg', Nat.zero_le _, by rw [Nat.sub_zero, List.drop_length]; simp [wCL], by rw [Nat.sub_zero, List.drop_length]; simp [Tr.szL]⟩ (fun i σ H' ⟨_, _, _, _, _, _, _, _, q, _⟩ => SqT.of q) ?_ ?_
          · rintro i y σ H4 hi hyi ⟨us, zs, v4', rfl, hp4, hl4, hz4, S4, ep4, hy4, hg4, _, hr4, hw4⟩
            obtain ⟨tp, htp, hvp⟩ := hy4.at hyi
            have gp : tp.good := goodL_mem gu2 (List.mem_of_getElem? htp)
            have ej : ts.length - i = (ts.length - (i + 1)) + 1 := by omega
            have htp' : ts[ts.length - (i + 1)]? = some tp := by rw [← htp]; congr 1; omega
            have dz := szL_drop htp'
            have dc : ts.drop (ts.length - (i + 1)) = tp :: ts.drop (ts.length - i) := by
              obtain ⟨h1, h2⟩ := List.getElem?_eq_some_iff.mp htp'
              rw [ej, List.drop_eq_getElem_cons h1, h2]
            rw [← ej] at dz
            have bz : Tr.szL (ts.drop (ts.length - (i + 1))) ≤ Tr.szL ts := by
              have q := szL_app (ts.take (ts.length - (i + 1))) (ts.drop (ts.length - (i + 1)))
              rw [List.take_append_drop] at q
              omega
            have lz := hz4.len
            have lu := wtL_len us
            refine ⟨y, (by kernel_rfl), y, tp, rfl, hvp, fun p2 y2 H5 S5 hp5 hys5 => ?_⟩
            refine ⟨!y2.isEmpty, .inr (.inl ⟨y2, SqT.of hp5, rfl⟩), ?_⟩
            have ll5 := hys5.len
            have ee : y2.isEmpty = tp.parts.isEmpty := by
              cases y2 <;> cases hq : tp.parts <;> rw [hq] at ll5 <;> simp at ll5 ⊢
            have hp5' := S5 _ _ hp4
            have hl5' := S5 _ _ hl4
            have hz5 := hz4.same S5
            have hy5 := hy4.same S5
            have hv5 := hvp.same S5
            have ep5 := S5 _ _ ep4
            have T5 := S4.trans S5
            have tps := tp.sz_pos
            by_cases em : tp.parts.isEmpty = true
            · refine ite_no (by rw [ee, em]; rfl) ?_
              refine ⟨.ref lw, (by kernel_rfl), .inl ⟨rfl, _, SqL.of hl5'⟩, y, (by kernel_rfl), by show 2 ≤ sizeLine; decide, fun q nq => ?_⟩
              have s6 := same_new (o := .lst [y, .str " "]) nq
              have e6 := upd_same (H := H5) (a := q) (o := .lst [y, .str " "])
              refine ⟨lw, q, zs, [y, .str " "], rfl, rfl, s6 _ _ hl5', e6, sz_of (by show zs.length + 2 ≤ _; omega), ?_⟩
              have T6 := T5.trans s6
              refine ⟨us ++ [.inr tp, .inl " "], zs ++ [y, .str " "], _, rfl, by rw [upd_ne pw]; exact s6 _ _ hp5', upd_same, ((hz5.same s6).app (.val (hv5.same s6) (.str .nil))).put (s6 _ _ hl5') (by intro _ _ z; cases z) (by intro _ z; cases z), same_put T6 nwH, by rw [upd_ne (ne_of (s6 _ _ ep5) (s6 _ _ hl5') (by intro z; cases z))]; exact s6 _ _ ep5, (hy5.same s6).put (s6 _ _ hl5') (by intro _ _ z; cases z) (by intro _ z; cases z), ?_, by omega, ?_, ?_⟩
              · intro t' m'
                rcases List.mem_append.mp m' with m' | m'
                · exact hg4 t' m'
                · simp at m'
                  rw [m']
                  exact gp
              · rw [show us ++ [(Sum.inr tp : Itm), Sum.inl (" " : Str)] = (us ++ [Sum.inr tp]) ++ [Sum.inl (" " : Str)] by simp, rend_snoc, rend_snoc, hr4, dc, wCL_cons]
                unfold pC
                rw [if_pos em]
                show [32] ++ (wC tp ++ _) = _
                simp
              · rw [wtL_app, dz]
                show wtL us + (5 * tp.sz - 2 + (1 + 0)) ≤ _
                omega
            · refine ite_yes (by rw [ee]; cases h : tp.parts.isEmpty <;> simp_all) ?_
              refine ⟨.ref lw, (by kernel_rfl), .inl ⟨rfl, _, SqL.of hl5'⟩, y, (by kernel_rfl), by show 3 ≤ sizeLine; decide, fun q nq => ?_⟩
              have s6 := same_new (o := .lst [.str ")", y, .str " ("]) nq
              have e6 := upd_same (H := H5) (a := q) (o := .lst [.str ")", y, .str " ("])
              refine ⟨lw, q, zs, [.str ")", y, .str " ("], rfl, rfl, s6 _ _ hl5', e6, sz_of (by show zs.length + 3 ≤ _; omega), ?_⟩
              have T6 := T5.trans s6
              refine ⟨us ++ [.inl ")", .inr tp, .inl " ("], zs ++ [.str ")", y, .str " ("], _, rfl, by rw [upd_ne pw]; exact s6 _ _ hp5', upd_same, ((hz5.same s6).app (.str (.val (hv5.same s6) (.str .nil)))).put (s6 _ _ hl5') (by intro _ _ z; cases z) (by intro _ z; cases z), same_put T6 nwH, by rw [upd_ne (ne_of (s6 _ _ ep5) (s6 _ _ hl5') (by intro z; cases z))]; exact s6 _ _ ep5, (hy5.same s6).put (s6 _ _ hl5') (by intro _ _ z; cases z) (by intro _ z; cases z), ?_, by omega, ?_, ?_⟩
              · intro t' m'
                rcases List.mem_append.mp m' with m' | m'
                · exact hg4 t' m'
                · simp at m'
                  rw [m']
                  exact gp
              · rw [show us ++ [(Sum.inl (")" : Str) : Itm), Sum.inr tp, Sum.inl (" (" : Str)] = ((us ++ [Sum.inl (")" : Str)]) ++ [Sum.inr tp]) ++ [Sum.inl (" (" : Str)] by simp, rend_snoc, rend_snoc, rend_snoc, hr4, dc, wCL_cons]
                unfold pC
                rw [if_neg em]
                show [32, 40] ++ (wC tp ++ ([41] ++ _)) = _
                simp
              · rw [wtL_app, dz]
                show wtL us + (1 + (5 * tp.sz - 2 + (1 + 0))) ≤ _
                omega
          · rintro σ H4 ⟨us, zs, v4', rfl, hp4, hl4, hz4, S4, ep4, hy4, hg4, _, hr4, hw4⟩
            rw [ly, Nat.sub_self, List.drop_zero] at hr4 hw4
            refine ⟨wtL us, by rw [wtL_app, hw0, wtu]; omega, ps ++ [mm], us, zs, _, _, rfl, hp4, hl4, hz4, S4, hg4, ?_, ?_, rfl⟩
            · rw [flat_snoc, hr4, ← hfl]
              show (flat ps ++ codes mm) ++ (wCL ts ++ rend ws') = flat ps ++ (wC (Tr.mk mm ts) ++ rend ws')
              unfold wC
              simp
            · rw [List.length_append]
              show ps.length + 1 + wtL us ≤ _
              omega
end
end Nm
namespace Nm
open PySem PySem.Spec PyProof.Rows L2
/-! ### words are taken -/
def wfT (told : List Itm) : Prop := ∀ i ∈ told.tail, ∃ t, i = Sum.inr t
theorem SAt.vals {C : Addr} {H : Hp} : ∀ {told : List Itm} {xs : List V}, SAt C H xs told → (∀ i ∈ told, ∃ t, i = Sum.inr t) → VAts C H xs (valsI told)
  | _, _, .nil, _ => .nil
  | _, _, .str (s := s) r, h => by
    obtain ⟨t, e⟩ := h (.inl s) (List.mem_cons_self ..)
    cases e
  | _, _, .val hv r, h => .cons hv (SAt.vals r fun i m => h i (List.mem_cons_of_mem _ m))
/-- the lists that are open, the last one first -/
inductive TAt (C : Addr) (H : Hp) : List Addr → List (List Itm) → Prop
  | nil : TAt C H [] []
  | cons {r : Addr} {rs : List Addr} {xs : List V} {told : List Itm} {S : List (List Itm)} (e : H r = some (.lst xs)) (h : SAt C H xs told) (t : TAt C H rs S) : TAt C H (r :: rs) (told :: S)
theorem TAt.len {C : Addr} {H : Hp} : ∀ {rs : List Addr} {S : List (List Itm)}, TAt C H rs S → rs.length = S.length
  | _, _, .nil => rfl
  | _, _, .cons _ _ t => by simp [TAt.len t]
theorem TAt.mono {C : Addr} {H H' : Hp} (k1 : ∀ a dx fs, H a = some (.ins C dx fs) → H' a = some (.ins C dx fs)) (k2 : ∀ a xs, H a = some (.tup xs) → H' a = some (.tup xs)) : ∀ {rs : List Addr} {S : List (List Itm)}, (∀ r ∈ rs, ∀ xs, H r = some (.lst xs) → H' r = some (.lst xs)) → TAt C H rs S → TAt C H' rs S
  | _, _, _, .nil => .nil
  | _, _, k3, .cons e h t => .cons (k3 _ (List.mem_cons_self ..) _ e) (h.mono k1 k2) (TAt.mono k1 k2 (fun r m => k3 r (List.mem_cons_of_mem _ m)) t)
theorem TAt.same {C : Addr} {H H' : Hp} {rs : List Addr} {S : List (List Itm)} (t : TAt C H rs S) (s : Same H H') : TAt C H' rs S := t.mono (fun _ _ _ e => s _ _ e) (fun _ _ e => s _ _ e) fun _ _ _ e => s _ _ e
/-- another list is written -/
theorem TAt.put {C : Addr} {H : Hp} {rs : List Addr} {S : List (List Itm)} (t : TAt C H rs S) {p : Addr} {ys : List V} {o' : HO} (e : H p = some (.lst ys)) (n : p ∉ rs) : TAt C (upd H p o') rs S :=
  t.mono (fun a dx fs q => by rw [upd_ne (ne_of q e (by intro z; cases z))]; exact q) (fun a xs q => by rw [upd_ne (ne_of q e (by intro z; cases z))]; exact q) fun r m xs q => by rw [upd_ne (fun (z : r = p) => n (z ▸ m))]; exact q
/-- what is open: seen from H0, all of it new -/
structure OpAt (C : Addr) (H0 H : Hp) (l : Addr) (rs : List Addr) (S : List (List Itm)) (n : Nat) : Prop where
  at_ : H l = some (.lst (rs.reverse.map V.ref))
  t : TAt C H rs S
  nd : (l :: rs).Nodup
  fr : ∀ r ∈ l :: rs, H0 r = none
  s : Same H0 H
  wf : ∀ told ∈ S, wfT told
  ln : S.length ≤ n
  tn : ∀ told ∈ S, told.length ≤ n
theorem OpAt.same {C : Addr} {H0 H H' : Hp} {l : Addr} {rs : List Addr} {S : List (List Itm)} {n : Nat} (O : OpAt C H0 H l rs S n) (s : Same H H') : OpAt C H0 H' l rs S n := ⟨s _ _ O.at_, O.t.same s, O.nd, O.fr, O.s.trans s, O.wf, O.ln, O.tn⟩
theorem OpAt.le {C : Addr} {H0 H : Hp} {l : Addr} {rs : List Addr} {S : List (List Itm)} {n m : Nat} (O : OpAt C H0 H l rs S n) (h : n ≤ m) : OpAt C H0 H l rs S m := ⟨O.at_, O.t, O.nd, O.fr, O.s, O.wf, Nat.le_trans O.ln h, fun t k => Nat.le_trans (O.tn t k) h⟩
/-- an item is told to the last list -/
theorem OpAt.item {C : Addr} {H0 H : Hp} {l r : Addr} {rs : List Addr} {xs : List V} {told : List Itm} {S : List (List Itm)} {n : Nat} (O : OpAt C H0 H l (r :: rs) (told :: S) n) (e : H r = some (.lst xs)) (hx : SAt C H xs told) {y : V} {i : Itm} (hy : SAt C H [y] [i]) (w : told = [] ∨ ∃ t, i = Sum.inr t) :
    OpAt C H0 (upd H r (.lst (xs ++ [y]))) l (r :: rs) ((told ++ [i]) :: S) (n + 1) := by
  have lr : l ≠ r := fun z => by have := (List.nodup_cons.mp O.nd).1; exact this (by simp [z])
  have nr : r ∉ rs := (List.nodup_cons.mp (List.nodup_cons.mp O.nd).2).1
  have tr : TAt C H rs S := by cases O.t with | cons _ _ t => exact t
  refine ⟨by rw [upd_ne lr]; exact O.at_, .cons upd_same ((hx.app hy).put e (by intro _ _ z; cases z) (by intro _ z; cases z)) (tr.put e nr), O.nd, O.fr, same_put O.s (O.fr r (by simp)), fun t m => ?_, Nat.le_succ_of_le O.ln, fun t m => ?_⟩
  · rcases List.mem_cons.mp m with rfl | m
    · have w0 := O.wf told (List.mem_cons_self ..)
      rcases w with rfl | ⟨u, rfl⟩
      · intro j hj
        exact nomatch hj
      · intro j hj
        cases told with
        | nil => exact nomatch hj
        | cons a b =>
          rcases List.mem_append.mp (show j ∈ b ++ [Sum.inr u] from hj) with h | h
          · exact w0 j h
          · exact ⟨u, by simpa using h⟩
    · exact O.wf t (List.mem_cons_of_mem _ m)
  · rcases List.mem_cons.mp m with rfl | m
    · have := O.tn told (List.mem_cons_self ..)
      rw [List.length_append]
      exact Nat.add_le_add_right this 1
    · exact Nat.le_succ_of_le (O.tn t (List.mem_cons_of_mem _ m))
theorem cutV_tail (x : V) (r : List V) : cutV (x :: r) (some 1) none = r := by
  show (((x :: r).drop (HT.sIx (x :: r).length 0 (some 1))).take (HT.sIx (x :: r).length (x :: r).length none - HT.sIx (x :: r).length 0 (some 1))) = r
  rw [show HT.sIx (x :: r).length (x :: r).length none = (x :: r).length from rfl, show (some (1 : Int)) = some ((1 : Nat) : Int) from rfl, HT.sIx_nat]
  simp
theorem OpAt.open_ {C : Addr} {H0 H : Hp} {l q : Addr} {rs : List Addr} {S : List (List Itm)} {n : Nat} (O : OpAt C H0 H l rs S n) (nq : H q = none) : OpAt C H0 (upd (upd H q (.lst [])) l (.lst (rs.reverse.map V.ref ++ [.ref q]))) l (q :: rs) ([] :: S) (n + 1) := by
  have ql : q ≠ l := fun z => by rw [z, O.at_] at nq; cases nq
  have alive : ∀ {rs : List Addr} {S : List (List Itm)}, TAt C H rs S → q ∉ rs := fun {rs S} t => by
    induction t with
    | nil => exact fun m => nomatch m
    | cons e h t ih =>
      intro m
      rcases List.mem_cons.mp m with z | m
      · rw [← z, nq] at e; cases e
      · exact ih m
  have qrs := alive O.t
  have l1 : upd H q (.lst []) l = some (.lst (rs.reverse.map V.ref)) := by rw [upd_ne (Ne.symm ql)]; exact O.at_
  have lrs := (List.nodup_cons.mp O.nd).1
  have T1 : TAt C (upd H q (.lst [])) (q :: rs) ([] :: S) := .cons upd_same .nil (O.t.same (same_new nq))
  have h0q : H0 q = none := by
    cases e : H0 q with
    | none => rfl
    | some o => rw [O.s _ _ e] at nq; cases nq
  refine ⟨by rw [upd_same]; simp, T1.put l1 (fun m => ?_), ?_, fun r m => ?_, same_put (O.s.trans (same_new nq)) (O.fr l (by simp)), fun t m => ?_, ?_, fun t m => ?_⟩
  · rcases List.mem_cons.mp m with z | m
    · exact ql z.symm
    · exact lrs m
  · refine List.nodup_cons.mpr ⟨fun m => ?_, List.nodup_cons.mpr ⟨qrs, (List.nodup_cons.mp O.nd).2⟩⟩
    rcases List.mem_cons.mp m with z | m
    · exact ql z.symm
    · exact lrs m
  · rcases List.mem_cons.mp m with rfl | m
    · exact O.fr r (by simp)
    · rcases List.mem_cons.mp m with rfl | m
      · exact h0q
      · exact O.fr r (List.mem_cons_of_mem _ m)
  · rcases List.mem_cons.mp m with rfl | m
    · exact fun i hi => nomatch hi
    · exact O.wf t m
  · exact Nat.succ_le_succ O.ln
  · rcases List.mem_cons.mp m with rfl | m
    · exact Nat.zero_le _
    · exact Nat.le_succ_of_le (O.tn t m)
theorem OpAt.close {C : Addr} {H0 H : Hp} {l r : Addr} {rs : List Addr} {told : List Itm} {S : List (List Itm)} {n : Nat} (O : OpAt C H0 H l (r :: rs) (told :: S) n) : OpAt C H0 (upd H l (.lst (rs.reverse.map V.ref))) l rs S n := by
  have tr : TAt C H rs S := by cases O.t with | cons _ _ t => exact t
  have nd := List.nodup_cons.mp O.nd
  have lrs : l ∉ rs := fun m => nd.1 (List.mem_cons_of_mem _ m)
  refine ⟨upd_same, tr.put O.at_ lrs, List.nodup_cons.mpr ⟨lrs, (List.nodup_cons.mp nd.2).2⟩, fun a m => ?_, same_put O.s (O.fr l (by simp)), fun t m => O.wf t (List.mem_cons_of_mem _ m), Nat.le_trans (Nat.le_succ _) O.ln, fun t m => O.tn t (List.mem_cons_of_mem _ m)⟩
  rcases List.mem_cons.mp m with rfl | m
  · exact O.fr a (by simp)
  · exact O.fr a (List.mem_cons_of_mem _ (List.mem_cons_of_mem _ m))
def spInitL (C : Addr) : Sp := fun vs H Q _ => ∃ (x dx p : Addr) (m : Str) (xs : List V), vs = [.ref x, .str m, .ref p] ∧ H x = some (.ins C dx []) ∧ H p = some (.lst xs) ∧
  ∀ (q : Addr) (H' : Hp), q ≠ x → H q = none → H' q = some (.tup xs) → H' x = some (.ins C dx (mkF m q)) → (∀ b, b ≠ x → b ≠ q → H' b = H b) → Q .non H'
def spMay (C : Addr) : Sp := fun vs H Q _ => ∃ (r : Addr) (xs : List V) (told : List Itm), vs = [.ref r] ∧ H r = some (.lst xs) ∧ SAt C H xs told ∧ Q (.bl (mayP told)) H
def spRead (C : Addr) : Sp := fun vs H Q _ => ∃ (r : Addr) (xs : List V) (told : List Itm), vs = [.ref r] ∧ H r = some (.lst xs) ∧ SAt C H xs told ∧ told ≠ [] ∧ wfT told ∧ told.length ≤ 2000000 ∧ ∀ (y : V) (H' : Hp), Same H H' → VAt C H' y (readV told) → Q y H'
def spTake (C : Addr) : Sp := fun vs H Q _ => ∃ (l : Addr) (w : Str) (H0 : Hp) (rs : List Addr) (S : List (List Itm)) (n : Nat), vs = [.ref l, .str w] ∧ OpAt C H0 H l rs S n ∧ n < 2000000 ∧ w.length ≤ 900000 ∧ S ≠ [] ∧
  (takeW S w = none → ∀ H', Same H0 H' → Q (.bl false) H') ∧ ∀ (S' : List (List Itm)) (rs' : List Addr) (H' : Hp), takeW S w = some S' → OpAt C H0 H' l rs' S' (n + 1) → Q (.bl true) H'
theorem takeW_ne {S S' : List (List Itm)} {w : Str} (h : takeW S w = some S') : S' ≠ [] := by
  intro e
  subst e
  unfold takeW at h
  split at h
  · cases h
  · unfold takeW1 at h
    split at h
    · split at h <;> cases h
    · split at h
      · split at h
        · cases h
        · split at h <;> cases h
      · split at h
        · cases h
        · split at h
          · cases h
          · split at h <;> cases h
section
variable {P : Program} {w : World} {K : PySem.W.Frag} {mg : Str → Option Value} {base : Heap} {C fE : Addr}

theorem ok_initL {f : Addr} {fd : FuncData} (F : Fun K "__init__" "Made.__init__" sMadeinit f fd) (T : VTxt mg) (MT : MadeTxt K mg C fE) : FnOk P w K mg base CX0 1 f fd PMadeinit (spInitL C) := by
  refine F.ok scMadeinit (fun vs H Q E h => ?_) (fun cdv A outer s H vs Q E hr h => ?_)
  · obtain ⟨x, dx, p, m, xs, rfl, _⟩ := h
    rfl
  · obtain ⟨x, dx, p, m, xs, rfl, hx, hp, k⟩ := h
    have px : p ≠ x := ne_of hp hx (by intro z; cases z)
    refine ⟨_, (pss_cons (ps_fld (pv 0) (pv 1) rfl)
      (pss_one (ps_fld (pv 0) (pe_ifExp (pt_val (pe_callB call_isi (by rfl) T.isinstance (by decide +kernel) (pa_cons (pv 2) (pa_cons (pe_bltn (v := .ty "list") (by rfl) T.list (by decide +kernel) rfl) pa_nil)))) (pe_callTy call_tuple_of (by rfl) T.tuple (by decide +kernel) (pa_cons (pv 2) pa_nil)) (pv 2)) rfl))), ?_⟩
    refine ⟨.str m, (by kernel_rfl), .ref x, (by kernel_rfl), x, C, dx, [], rfl, hx, MT.cl, MT.nM, (by show 0 < 1000; decide), ?_⟩
    have hp1 : upd H x (.ins C dx (putF "maker" (.str m) [])) p = some (.lst xs) := Eq.trans (upd_ne px) hp
    refine ⟨.ref p, (by kernel_rfl), _, _, _, _, true, rfl, .ty "list", .base (.lst hp1), kit_ty (by decide +kernel), _, rfl, ?_⟩
    refine ite_yes rfl ?_
    refine ⟨.ref p, (by kernel_rfl), p, xs, rfl, .inl ⟨SqL.of hp1, fun q nq => ?_⟩⟩
    have qx : q ≠ x := fun z => by rw [z, upd_same] at nq; cases nq
    refine ⟨.ref x, (by kernel_rfl), x, C, dx, _, rfl, by rw [upd_ne (Ne.symm qx), upd_same], MT.cl, MT.nP, (by show 1 < 1000; decide), ?_⟩
    refine k q _ qx (by rw [upd_ne qx] at nq; exact nq) (by rw [upd_ne qx, upd_same]) upd_same fun b b1 b2 => ?_
    rw [upd_ne b1, upd_ne b2, upd_ne b1]

abbrev smayhaveparts : Stmt := top 21
abbrev Nmayhaveparts : List Str := ["told"]
abbrev Pmayhaveparts : List Str := ["told"]
theorem scmayhaveparts : FnScope Nmayhaveparts Pmayhaveparts (defScope smayhaveparts) := ⟨rfl, rfl, rfl, by decide +kernel, rfl, by decide +kernel, by decide +kernel⟩

theorem ok_may {f : Addr} {fd : FuncData} (F : Fun K "may_have_parts" "may_have_parts" smayhaveparts f fd) (T : VTxt mg) (MT : MadeTxt K mg C fE) (kS : PySem.W.kitOne K (.ref C) (.type "str") = some false) : FnOk P w K mg base CX0 1 f fd Pmayhaveparts (spMay C) := by
  refine F.ok scmayhaveparts (fun vs H Q E h => ?_) (fun cdv A outer s H vs Q E hr h => ?_)
  · obtain ⟨r, xs, told, rfl, _⟩ := h
    rfl
  · obtain ⟨r, xs, told, rfl, hr0, hx, k⟩ := h
    refine ⟨_, (pss_one (ps_ret (pe_and (pe_cmpR op_gt (pe_callB call_len_seq (by rfl) T.len PySem.boot_len (pa_cons (pv 0) pa_nil)) pe_int (nomark _)) (pe_one (pe_callB call_isi (by rfl) T.isinstance (by decide +kernel) (pa_cons (pe_ix ix_list (pv 0) pe_int (fun _ _ => rfl)) (pa_cons (pe_bltn (v := .ty "str") (by rfl) T.str (by decide +kernel) rfl) pa_nil))))))), ?_⟩
    have lx := hx.len
    refine ⟨.ref r, (by kernel_rfl), r, _, rfl, .inl (SqL.of hr0), _, _, rfl, rfl, _, rfl, ?_⟩
    cases hx with
    | nil =>
      refine ite_no rfl ?_
      exact k
    | @str s xs' told' hx' =>
      refine ite_yes (decide_eq_true (by simp only [List.length_cons]; omega)) ?_
      refine ⟨.ref r, (by kernel_rfl), r, _, 0, .str s, rfl, rfl, SqL.of hr0, atI0 rfl, _, _, _, _, true, rfl, .ty "str", .base (.str s), kit_ty (by decide +kernel), ?_⟩
      exact k
    | @val y t xs' told' hv hx' =>
      refine ite_yes (decide_eq_true (by simp only [List.length_cons]; omega)) ?_
      cases hv with
      | num i =>
        refine ⟨.ref r, (by kernel_rfl), r, _, 0, .int i, rfl, rfl, SqL.of hr0, atI0 rfl, _, _, _, _, false, rfl, .ty "str", .base (.int i), kit_ty (by decide +kernel), ?_⟩
        exact k
      | @mk a dx p mm ys ts ea ep hy =>
        refine ⟨.ref r, (by kernel_rfl), r, _, 0, .ref a, rfl, rfl, SqL.of hr0, atI0 rfl, _, _, _, _, false, rfl, .ty "str", MT.ins ea, kS, ?_⟩
        exact k

abbrev sreadvalue : Stmt := top 22
abbrev Nreadvalue : List Str := ["told"]
abbrev Preadvalue : List Str := ["told"]
theorem screadvalue : FnScope Nreadvalue Preadvalue (defScope sreadvalue) := ⟨rfl, rfl, rfl, by decide +kernel, rfl, by decide +kernel, by decide +kernel⟩

theorem ok_read {f f0 fM : Addr} {fd fd0 fdM : FuncData} (F : Fun K "read_value" "read_value" sreadvalue f fd) (T : VTxt mg) (MT : MadeTxt K mg C fE) (kS : PySem.W.kitOne K (.ref C) (.type "str") = some false) (Mk : Mk K C f0) (F_init : Fun K "__init__" "Made.__init__" sMadeinit f0 fd0) (B_init : Binds K fd0 ["self", "maker", "parts"] [])
    (F_may_have_parts : Fun K "may_have_parts" "may_have_parts" smayhaveparts fM fdM) (b_may_have_parts : Binds K fdM ["told"] []) (g_may_have_parts : mg "may_have_parts" = some (.ref fM)) : FnOk P w K mg base CX0 3 f fd Preadvalue (spRead C) := by
  have G_may_have_parts : FnOk P w K mg base CX0 2 fM fdM Pmayhaveparts (spMay C) := (ok_may F_may_have_parts T MT kS).mono (by decide)
  have G_init : FnOk P w K mg base CX0 1 f0 fd0 PMadeinit (spInitL C) := ok_initL F_init T MT
  refine F.ok screadvalue (fun vs H Q E h => ?_) (fun cdv A outer s H vs Q E hr h => ?_)
  · obtain ⟨r, xs, told, rfl, _⟩ := h
    rfl
  · obtain ⟨r, xs, told, rfl, hr0, hx, hne, hwf, hln, k⟩ := h
    have hr1 := hr
    refine ⟨_, (pss_cons (ps_if (pt_val (pe_call G_may_have_parts hr1 rfl g_may_have_parts F_may_have_parts.kp b_may_have_parts .nil pass0 (pa_cons (pv 0) pa_nil)))
      (pss_one (ps_ret (pe_make Mk G_init hr1 rfl MT.gM B_init .nil pass0 (pa_cons (pe_ix ix_list (pv 0) pe_int (fun _ _ => rfl)) (pa_cons (pe_slice sl_list (pv 0) (po_some pe_int) po_none) pa_nil)))))
      pss_nil)
      (pss_one (ps_ret (pe_ix ix_list (pv 0) pe_int (fun _ _ => rfl))))), ?_⟩
    have lx := hx.len
    refine ⟨.ref r, (by kernel_rfl), r, xs, told, rfl, hr0, hx, _, rfl, ?_⟩
    cases hx with
    | nil => exact (hne rfl).elim
    | @str s xs' told' hx' =>
      refine ite_yes rfl ?_
      have hv : VAts C H xs' (valsI told') := hx'.vals hwf
      refine ⟨.ref r, (by kernel_rfl), r, _, 0, .str s, rfl, rfl, SqL.of hr0, atI0 rfl, ?_⟩
      refine ⟨.ref r, (by kernel_rfl), 1, rfl, r, _, rfl, SqL.of hr0, ?_⟩
      refine fun p np => ?_
      rw [cutV_tail]
      intro nx dn n1 n2 n3
      have s1 := same_new (o := .lst xs') np
      have m1 : Same (upd H p (.lst xs')) (upd (upd H p (.lst xs')) dn (.own nx)) := same_new n2
      have m2 : ∀ o, Same (upd H p (.lst xs')) (upd (upd (upd H p (.lst xs')) dn (.own nx)) nx o) := fun o => same_put m1 n1
      have hp1 := upd_same (H := H) (a := p) (o := .lst xs')
      refine ⟨nx, dn, p, s, xs', rfl, upd_same, m2 _ _ _ hp1, fun q H' q1 q2 q3 q4 q5 => ⟨rfl, ?_⟩⟩
      have sm : Same H H' := fun b o e => by
        have b1 : b ≠ nx := fun z => by rw [z] at e; rw [upd_ne (fun z => by rw [← z, e] at np; cases np), e] at n1; cases n1
        have e2 := m2 (.ins C dn []) _ _ (s1 _ _ e)
        have b2 : b ≠ q := fun z => by rw [z] at e2; rw [e2] at q2; cases q2
        rw [q5 b b1 b2]
        exact e2
      exact k (.ref nx) H' sm (.mk q4 q3 (hv.same sm))
    | @val y t xs' told' hv hx' =>
      refine ite_no rfl ?_
      exact ⟨.ref r, (by kernel_rfl), r, _, 0, y, rfl, rfl, SqL.of hr0, atI0 rfl, k y H (fun _ _ e => e) hv⟩

abbrev stakeword : Stmt := top 23
abbrev Ntakeword : List Str := ["opened", "word", "told"]
abbrev Ptakeword : List Str := ["opened", "word"]
theorem sctakeword : FnScope Ntakeword Ptakeword (defScope stakeword) := ⟨rfl, rfl, rfl, by decide +kernel, rfl, by decide +kernel, by decide +kernel⟩

theorem ok_take {f f0 fM fR fN fB fA fI : Addr} {fd fd0 fdM fdR fdN fdB fdA fdI : FuncData} (F : Fun K "take_word" "take_word" stakeword f fd) (T : VTxt mg) (WT : WTxt mg) (MT : MadeTxt K mg C fE) (kS : PySem.W.kitOne K (.ref C) (.type "str") = some false) (Mk : Mk K C f0) (F_init : Fun K "__init__" "Made.__init__" sMadeinit f0 fd0) (B_init : Binds K fd0 ["self", "maker", "parts"] [])
    (F_may_have_parts : Fun K "may_have_parts" "may_have_parts" smayhaveparts fM fdM) (b_may_have_parts : Binds K fdM ["told"] []) (g_may_have_parts : mg "may_have_parts" = some (.ref fM))
    (F_read_value : Fun K "read_value" "read_value" sreadvalue fR fdR) (b_read_value : Binds K fdR ["told"] []) (g_read_value : mg "read_value" = some (.ref fR))
    (F_is_number : NumFun K mg fN fdN) (b_is_number : Binds K fdN Pisnumber []) (g_is_number : mg "is_number" = some (.ref fN))
    (F_is_big : Fun K "is_big" "is_big" sisbig fB fdB) (b_is_big : Binds K fdB Pisbig []) (g_is_big : mg "is_big" = some (.ref fB))
    (F_is_name : Fun K "is_name" "is_name" sisname fI fdI) (b_is_name : Binds K fdI Pisname []) (g_is_name : mg "is_name" = some (.ref fI))
    (F_all_among : Fun K "all_among" "all_among" sallamong fA fdA) (b_all_among : Binds K fdA Pallamong []) (g_all_among : mg "all_among" = some (.ref fA)) : FnOk P w K mg base CX0 4 f fd Ptakeword (spTake C) := by
  have G_may_have_parts : FnOk P w K mg base CX0 3 fM fdM Pmayhaveparts (spMay C) := (ok_may F_may_have_parts T MT kS).mono (by decide)
  have G_read_value : FnOk P w K mg base CX0 3 fR fdR Preadvalue (spRead C) := ok_read F_read_value T MT kS Mk F_init B_init F_may_have_parts b_may_have_parts g_may_have_parts
  have G_is_number : FnOk P w K mg base CX0 3 fN fdN Pisnumber (spW isNum) := (ok_number F_is_number WT F_all_among b_all_among g_all_among).mono (by decide)
  have G_is_big : FnOk P w K mg base CX0 3 fB fdB Pisbig (spW isBig) := ok_big F_is_big WT F_is_name b_is_name g_is_name F_all_among b_all_among g_all_among
  have G_init : FnOk P w K mg base CX0 2 f0 fd0 PMadeinit (spInit C) := (ok_init F_init T MT).mono (by decide)
  refine F.ok sctakeword (fun vs H Q E h => ?_) (fun cdv A outer s H vs Q E hr h => ?_)
  · obtain ⟨l, w, H0, rs, S, n, rfl, _⟩ := h
    rfl
  · obtain ⟨l, w, H0, rs, S, n, rfl, O, hn, hw, hne, kn, ks⟩ := h
    have hr1 := hr
    refine ⟨_, (pss_cons (ps_set (i := 2) sctakeword.nd rfl (Or.inl rfl) (pe_ix ix_list (pv 0) (pe_un un_neg pe_int) (fun _ _ => rfl)))
      (pss_cons (ps_if (pt_cmpR op_eq (pv 1) pe_str (nomark _))
      (pss_cons (ps_if (PW.pt (pw_and (pt_not (pt_val (pe_call G_may_have_parts hr1 rfl g_may_have_parts F_may_have_parts.kp b_may_have_parts .nil pass0 (pa_cons (pv 2) pa_nil)))) (pw_and1 (PW.pt (pw_or (pt_cmpR op_gt (pe_callB call_len_seq (by rfl) T.len PySem.boot_len (pa_cons (pv 0) pa_nil)) pe_int (nomark _)) (pw_or1 (pt_cmpR op_gt (pe_callB call_len_seq (by rfl) T.len PySem.boot_len (pa_cons (pv 2) pa_nil)) pe_int (nomark _))))))))
      (pss_one (ps_ret pe_bl))
      pss_nil)
      (pss_one (ps_expr (pe_bm PySem.F.plainAttrs_list PySem.F.slot_list_append PySem.F.type_list_append mt_append (pv 0) (pa_cons (pe_lst pa_nil) pa_nil)))))
      (pss_one (ps_if (pt_cmpR op_eq (pv 1) pe_str (nomark _))
      (pss_cons (ps_if (PW.pt (pw_or (pt_cmpR op_eq (pe_callB call_len_seq (by rfl) T.len PySem.boot_len (pa_cons (pv 0) pa_nil)) pe_int (nomark _)) (pw_or1 (pt_cmpR op_eq (pe_callB call_len_seq (by rfl) T.len PySem.boot_len (pa_cons (pv 2) pa_nil)) pe_int (nomark _)))))
      (pss_one (ps_ret pe_bl))
      pss_nil)
      (pss_cons (ps_expr (pe_bm0 PySem.F.plainAttrs_list PySem.F.slot_list_pop PySem.F.type_list_pop mt_pop (pv 0)))
      (pss_one (ps_expr (pe_bm PySem.F.plainAttrs_list PySem.F.slot_list_append PySem.F.type_list_append mt_append (pe_ix ix_list (pv 0) (pe_un un_neg pe_int) (fun _ _ => rfl)) (pa_cons (pe_call G_read_value hr1 rfl g_read_value F_read_value.kp b_read_value .nil pass0 (pa_cons (pv 2) pa_nil)) pa_nil))))))
      (pss_one (ps_if (PW.pt (pw_and (pt_cmpR op_gt (pe_callB call_len_seq (by rfl) T.len PySem.boot_len (pa_cons (pv 2) pa_nil)) pe_int (nomark _)) (pw_and1 (pt_not (pt_val (pe_call G_may_have_parts hr1 rfl g_may_have_parts F_may_have_parts.kp b_may_have_parts .nil pass0 (pa_cons (pv 2) pa_nil)))))))
      (pss_one (ps_ret pe_bl))
      (pss_one (ps_if (pt_val (pe_call G_is_number hr1 rfl g_is_number F_is_number.kp b_is_number .nil pass0 (pa_cons (pv 1) pa_nil)))
      (pss_one (ps_expr (pe_bm PySem.F.plainAttrs_list PySem.F.slot_list_append PySem.F.type_list_append mt_append (pv 2) (pa_cons (pe_callTy call_int_str (by rfl) T.int (by decide +kernel) (pa_cons (pv 1) pa_nil)) pa_nil))))
      (pss_one (ps_if (pt_val (pe_call G_is_big hr1 rfl g_is_big F_is_big.kp b_is_big .nil pass0 (pa_cons (pv 1) pa_nil)))
      (pss_one (ps_expr (pe_bm PySem.F.plainAttrs_list PySem.F.slot_list_append PySem.F.type_list_append mt_append (pv 2) (pa_cons (pe_ifExp (pt_truth (pv 2) (by intro _; rfl)) (pe_make Mk G_init hr1 rfl MT.gM B_init .nil pass0 (pa_cons (pv 1) (pa_cons (pe_tup pa_nil) pa_nil))) (pv 1)) pa_nil))))
      (pss_one (ps_ret pe_bl)))))))))))
      (pss_one (ps_ret pe_bl)))), ?_⟩
    cases S with
    | nil => exact (hne rfl).elim
    | cons told rest =>
    obtain ⟨r, rs', xs, rfl, er, hx, tr⟩ : ∃ r rs' xs, rs = r :: rs' ∧ H r = some (.lst xs) ∧ SAt C H xs told ∧ TAt C H rs' rest := by
      cases O.t with
      | cons e h t => exact ⟨_, _, _, rfl, e, h, t⟩
    have hl := O.at_
    rw [List.reverse_cons, List.map_append] at hl
    have hl' : H l = some (.lst (rs'.reverse.map V.ref ++ [.ref r])) := hl
    clear hl
    have lx := hx.len
    have ltd := O.tn told (by simp)
    have lrs := tr.len
    have lrest : rest.length + 1 ≤ n := O.ln
    have lop : (rs'.reverse.map V.ref ++ [V.ref r]).length = rest.length + 1 := by simp [lrs]
    refine ⟨.ref l, (by kernel_rfl), _, rfl, l, _, _, .ref r, rfl, rfl, SqL.of hl', atI_last _ _, ?_⟩
    refine ⟨.str w, (by kernel_rfl), rfl, _, rfl, ?_⟩
    rw [dec_str]
    by_cases h1 : w = "("
    · refine ite_yes (decide_eq_true h1) ?_
      refine ⟨.ref r, (by kernel_rfl), r, xs, told, rfl, er, hx, _, rfl, ?_⟩
      have yes : (!mayP told && (!rest.isEmpty || !told.isEmpty)) = false → takeW (told :: rest) w = some ([] :: told :: rest) := fun q => by
        show takeW1 _ _ _ = _
        unfold takeW1
        rw [if_pos h1, if_neg (by rw [q]; exact Bool.false_ne_true)]
      have no : (!mayP told && (!rest.isEmpty || !told.isEmpty)) = true → takeW (told :: rest) w = none := fun q => by
        show takeW1 _ _ _ = _
        unfold takeW1
        rw [if_pos h1, if_pos q]
      cases hm : mayP told
      · refine ite_yes rfl ?_
        refine ⟨.ref l, (by kernel_rfl), l, _, rfl, .inl (SqL.of hl'), _, _, rfl, rfl, _, rfl, ?_⟩
        cases rest with
        | nil =>
          refine ite_no (decide_eq_false (by rw [lop]; simp)) ?_
          refine ⟨.ref r, (by kernel_rfl), r, _, rfl, .inl (SqL.of er), _, _, rfl, rfl, _, rfl, ?_⟩
          cases told with
          | nil =>
            refine ite_no (decide_eq_false (by rw [lx]; simp)) ?_
            refine ⟨.ref l, (by kernel_rfl), .inl ⟨rfl, _, SqL.of hl'⟩, by show 0 ≤ sizeLine; decide, fun q nq => ?_⟩
            refine ⟨l, _, _, rfl, rfl, (same_new nq) _ _ hl', Nat.lt_of_le_of_lt (show (rs'.reverse.map V.ref ++ [V.ref r]).length ≤ 2000000 by omega) (by decide), ?_⟩
            have O2 := O.open_ nq
            rw [show ((r :: rs').reverse.map V.ref) = rs'.reverse.map V.ref ++ [V.ref r] by simp] at O2
            exact ks _ _ _ (yes (by rfl)) O2
          | cons a b =>
            refine ite_yes (decide_eq_true (by rw [lx]; simp only [List.length_cons]; omega)) ?_
            exact kn (no (by rw [hm]; rfl)) _ O.s
        | cons a b =>
          refine ite_yes (decide_eq_true (by rw [lop]; simp only [List.length_cons]; omega)) ?_
          refine ite_yes rfl ?_
          exact kn (no (by rw [hm]; rfl)) _ O.s
      · refine ite_no rfl ?_
        refine ite_no rfl ?_
        refine ⟨.ref l, (by kernel_rfl), .inl ⟨rfl, _, SqL.of hl'⟩, by show 0 ≤ sizeLine; decide, fun q nq => ?_⟩
        refine ⟨l, _, _, rfl, rfl, (same_new nq) _ _ hl', Nat.lt_of_le_of_lt (show (rs'.reverse.map V.ref ++ [V.ref r]).length ≤ 2000000 by omega) (by decide), ?_⟩
        have O2 := O.open_ nq
        rw [show ((r :: rs').reverse.map V.ref) = rs'.reverse.map V.ref ++ [V.ref r] by simp] at O2
        exact ks _ _ _ (yes (by rw [hm]; rfl)) O2
    · refine ite_no (decide_eq_false h1) ?_
      refine ⟨.str w, (by kernel_rfl), rfl, _, rfl, ?_⟩
      rw [dec_str]
      by_cases h2 : w = ")"
      · refine ite_yes (decide_eq_true h2) ?_
        refine ⟨.ref l, (by kernel_rfl), l, _, rfl, .inl (SqL.of hl'), rfl, _, rfl, ?_⟩
        cases rest with
        | nil =>
          refine ite_yes (decide_eq_true (by rw [lop]; rfl)) ?_
          refine ite_yes rfl ?_
          refine kn ?_ _ O.s
          show takeW1 _ _ _ = _
          unfold takeW1
          rw [if_neg h1, if_pos h2]
        | cons t2 r2 =>
          refine ite_no (decide_eq_false (fun z => by have q := V.int.inj z; rw [lop] at q; simp only [List.length_cons] at q; omega)) ?_
          refine ⟨.ref r, (by kernel_rfl), r, _, rfl, .inl (SqL.of er), rfl, _, rfl, ?_⟩
          by_cases ht : told = []
          · refine ite_yes (decide_eq_true (by rw [lx, ht]; rfl)) ?_
            refine kn ?_ _ O.s
            show takeW1 _ _ _ = _
            unfold takeW1
            rw [if_neg h1, if_pos h2]
            show (if told.isEmpty = true then none else _) = _
            rw [ht]
            rfl
          · have hlt : 0 < told.length := List.length_pos_iff.mpr ht
            refine ite_no (decide_eq_false (fun z => by have q := V.int.inj z; omega)) ?_
            refine ⟨.ref l, (by kernel_rfl), .inl ⟨rfl, _, SqL.of hl'⟩, l, _, .ref r, rfl, rfl, hl', (by simp), ?_⟩
            rw [show (rs'.reverse.map V.ref ++ [V.ref r]).dropLast = rs'.reverse.map V.ref from List.dropLast_concat]
            have O1 := O.close
            have er1 : upd H l (.lst (rs'.reverse.map V.ref)) r = some (.lst xs) := by rw [upd_ne (fun z => (List.nodup_cons.mp O.nd).1 (by simp [z]))]; exact er
            have hx1 := hx.put (o' := .lst (rs'.reverse.map V.ref)) hl' (by intro _ _ z; cases z) (by intro _ z; cases z)
            generalize upd H l (.lst (rs'.reverse.map V.ref)) = H1 at O1 er1 hx1 ⊢
            obtain ⟨ra, rs2, xs2, rfl, er2, hx2, tr2⟩ : ∃ ra rs2 xs2, rs' = ra :: rs2 ∧ H1 ra = some (.lst xs2) ∧ SAt C H1 xs2 t2 ∧ TAt C H1 rs2 r2 := by
              cases O1.t with
              | cons e h t => exact ⟨_, _, _, rfl, e, h, t⟩
            have hl1 : H1 l = some (.lst (rs2.reverse.map V.ref ++ [.ref ra])) := by
              have q := O1.at_
              rw [List.reverse_cons, List.map_append] at q
              exact q
            have lt2 := O1.tn t2 (by simp)
            have lx2 := hx2.len
            refine ⟨.ref l, (by kernel_rfl), _, rfl, l, _, _, .ref ra, rfl, rfl, SqL.of hl1, atI_last _ _, .inl ⟨rfl, _, SqL.of er2⟩, ?_⟩
            refine ⟨.ref r, (by kernel_rfl), r, xs, told, rfl, er1, hx1, ht, O.wf told (by simp), (by omega), fun y H2 S2 hy => ?_⟩
            have O2 := O1.same S2
            refine ⟨ra, _, _, rfl, rfl, S2 _ _ er2, Nat.lt_of_le_of_lt (show xs2.length ≤ 2000000 by omega) (by decide), ?_⟩
            have O3 := O2.item (S2 _ _ er2) (hx2.same S2) (y := y) (i := .inr (readV told)) (.val hy .nil) (.inr ⟨_, rfl⟩)
            refine ks _ _ _ ?_ O3
            show takeW1 _ _ _ = _
            unfold takeW1
            rw [if_neg h1, if_pos h2]
            show (if told.isEmpty = true then none else _) = _
            rw [if_neg (by simp [ht])]
      · refine ite_no (decide_eq_false h2) ?_
        refine ⟨.ref r, (by kernel_rfl), r, _, rfl, .inl (SqL.of er), _, _, rfl, rfl, _, rfl, ?_⟩
        have rest_ : (!told.isEmpty && !mayP told) = false → takeW (told :: rest) w = if isNum w = true then some ((told ++ [.inr (.num (intOf w))]) :: rest) else if isBig w = true then some ((told ++ [if told.isEmpty = true then .inl w else .inr (.mk w [])]) :: rest) else none := fun q => by
          show takeW1 _ _ _ = _
          unfold takeW1
          rw [if_neg h1, if_neg h2, if_neg (by rw [q]; exact Bool.false_ne_true)]
        have kn' : (!told.isEmpty && !mayP told) = true → takeW (told :: rest) w = none := fun q => by
          show takeW1 _ _ _ = _
          unfold takeW1
          rw [if_neg h1, if_neg h2, if_pos q]
        cases told with
        | nil =>
          refine ite_no (decide_eq_false (by rw [lx]; simp)) ?_
          have eq := rest_ rfl
          refine ⟨.str w, (by kernel_rfl), w, rfl, hw, _, rfl, ?_⟩
          cases hnum : isNum w
          · refine ite_no rfl ?_
            refine ⟨.str w, (by kernel_rfl), w, rfl, hw, _, rfl, ?_⟩
            cases hbig : isBig w
            · refine ite_no rfl ?_
              exact kn (by rw [eq, hnum, hbig]; rfl) _ O.s
            · refine ite_yes rfl ?_
              refine ⟨.ref r, (by kernel_rfl), .inl ⟨rfl, _, SqL.of er⟩, .ref r, (by kernel_rfl), !xs.isEmpty, .inl ⟨xs, SqL.of er, rfl⟩, ?_⟩
              refine ite_no (by cases xs with | nil => rfl | cons a b => simp at lx) ?_
              refine ⟨.str w, (by kernel_rfl), r, _, _, rfl, rfl, er, Nat.lt_of_le_of_lt (show xs.length ≤ 2000000 by omega) (by decide), ?_⟩
              have O3 := O.item er hx (y := .str w) (i := .inl w) (.str .nil) (.inl rfl)
              exact ks _ _ _ (by rw [eq, hnum, hbig]; rfl) O3
          · refine ite_yes rfl ?_
            obtain ⟨i1, i2⟩ := int_ok hnum
            refine ⟨.ref r, (by kernel_rfl), .inl ⟨rfl, _, SqL.of er⟩, .str w, (by kernel_rfl), w, intOf w, rfl, i1, by omega, r, _, _, rfl, rfl, er, Nat.lt_of_le_of_lt (show xs.length ≤ 2000000 by omega) (by decide), ?_⟩
            have O3 := O.item er hx (y := .int (intOf w)) (i := .inr (.num (intOf w))) (.val (.num _) .nil) (.inr ⟨_, rfl⟩)
            exact ks _ _ _ (by rw [eq, hnum]; rfl) O3
        | cons ta tb =>
          refine ite_yes (decide_eq_true (by rw [lx]; simp only [List.length_cons]; omega)) ?_
          refine ⟨.ref r, (by kernel_rfl), r, xs, ta :: tb, rfl, er, hx, _, rfl, ?_⟩
          cases hm : mayP (ta :: tb)
          · refine ite_yes rfl ?_
            exact kn (kn' (by rw [hm]; rfl)) _ O.s
          · refine ite_no rfl ?_
            have eq := rest_ (by rw [hm]; rfl)
            refine ⟨.str w, (by kernel_rfl), w, rfl, hw, _, rfl, ?_⟩
            cases hnum : isNum w
            · refine ite_no rfl ?_
              refine ⟨.str w, (by kernel_rfl), w, rfl, hw, _, rfl, ?_⟩
              cases hbig : isBig w
              · refine ite_no rfl ?_
                exact kn (by rw [eq, hnum, hbig]; rfl) _ O.s
              · refine ite_yes rfl ?_
                refine ⟨.ref r, (by kernel_rfl), .inl ⟨rfl, _, SqL.of er⟩, .ref r, (by kernel_rfl), !xs.isEmpty, .inl ⟨xs, SqL.of er, rfl⟩, ?_⟩
                refine ite_yes (by cases xs with | nil => simp at lx | cons a b => rfl) ?_
                refine ⟨.str w, (by kernel_rfl), by show 0 ≤ sizeLine; decide, fun p np => ?_⟩
                have s1 := same_new (o := .tup []) np
                have hp1 := upd_same (H := H) (a := p) (o := .tup [])
                generalize upd H p (.tup []) = H1 at s1 hp1 ⊢
                intro nx dn n1 n2 n3
                have m1 : Same H1 (upd H1 dn (.own nx)) := same_new n2
                have m2 : ∀ o, Same H1 (upd (upd H1 dn (.own nx)) nx o) := fun o => same_put m1 n1
                refine ⟨nx, dn, p, w, [], rfl, upd_same, m2 _ _ _ hp1, rfl, ?_⟩
                rw [upd_upd]
                have S2 := s1.trans (m2 (.ins C dn (mkF w p)))
                have hv : VAt C (upd (upd H1 dn (.own nx)) nx (.ins C dn (mkF w p))) (.ref nx) (.mk w []) := .mk upd_same (m2 _ _ _ hp1) .nil
                generalize upd (upd H1 dn (.own nx)) nx (.ins C dn (mkF w p)) = H2 at S2 hv ⊢
                have O2 := O.same S2
                refine ⟨r, _, _, rfl, rfl, S2 _ _ er, Nat.lt_of_le_of_lt (show xs.length ≤ 2000000 by omega) (by decide), ?_⟩
                have O3 := O2.item (S2 _ _ er) (hx.same S2) (y := .ref nx) (i := .inr (.mk w [])) (.val hv .nil) (.inr ⟨_, rfl⟩)
                exact ks _ _ _ (by rw [eq, hnum, hbig]; rfl) O3
            · refine ite_yes rfl ?_
              obtain ⟨i1, i2⟩ := int_ok hnum
              refine ⟨.ref r, (by kernel_rfl), .inl ⟨rfl, _, SqL.of er⟩, .str w, (by kernel_rfl), w, intOf w, rfl, i1, by omega, r, _, _, rfl, rfl, er, Nat.lt_of_le_of_lt (show xs.length ≤ 2000000 by omega) (by decide), ?_⟩
              have O3 := O.item er hx (y := .int (intOf w)) (i := .inr (.num (intOf w))) (.val (.num _) .nil) (.inr ⟨_, rfl⟩)
              exact ks _ _ _ (by rw [eq, hnum]; rfl) O3
end
end Nm
namespace Nm
open PySem PySem.Spec PyProof.Rows L2
/-! ### value_from -/
theorem flush_len (k : Nat) (w : List Nat) : (flush k w).length ≤ 1 := by
  unfold flush
  split <;> simp
theorem scan_len : ∀ (l : List Nat) (k : Nat) (w : List Nat), (scan l k w).length ≤ 2 * l.length + 1
  | [], k, w => flush_len k w
  | c :: r, k, w => by
    have f := flush_len k w
    have h1 := scan_len r (k + 1) []
    have h2 := scan_len r (k + 1) (w ++ [c])
    unfold scan
    split
    · omega
    · split
      · simp only [List.length_append, List.length_cons]; omega
      · split
        · simp only [List.length_append, List.length_cons]; omega
        · simp only [List.length_cons]; omega
theorem flush_word {k : Nat} {w : List Nat} {p : List Nat × Nat} (h : p ∈ flush k w) : p.1.length ≤ w.length := by
  unfold flush at h
  split at h
  · exact nomatch h
  · obtain rfl := List.mem_singleton.mp h
    exact Nat.le_refl _
theorem scan_word : ∀ (l : List Nat) (k : Nat) (w : List Nat) (p : List Nat × Nat), p ∈ scan l k w → p.1.length ≤ l.length + w.length
  | [], k, w, p, h => by
    have := flush_word (show p ∈ flush k w from h)
    omega
  | c :: r, k, w, p, h => by
    unfold scan at h
    simp only [List.length_cons]
    split at h
    · have := flush_word h
      omega
    · split at h
      · rcases List.mem_append.mp h with h | h
        · have := flush_word h
          omega
        · have := scan_word r _ _ p h
          simp only [List.length_nil] at this
          omega
      · split at h
        · rcases List.mem_append.mp h with h | h
          · have := flush_word h
            omega
          · rcases List.mem_cons.mp h with rfl | h
            · simp only [List.length_cons, List.length_nil]; omega
            · have := scan_word r _ _ p h
              simp only [List.length_nil] at this
              omega
        · have := scan_word r _ _ p h
          simp only [List.length_append, List.length_cons, List.length_nil] at this
          omega
theorem pair_get {α β : Type} {F : α → β → Prop} : ∀ {xs : List α} {ys : List β} {i : Nat} {y : β}, Paired F xs ys → ys[i]? = some y → ∃ x, xs[i]? = some x ∧ F x y
  | _, _, _, _, .nil, e => by simp at e
  | _, _, 0, _, .cons r t, e => by
    simp at e
    subst e
    exact ⟨_, rfl, r⟩
  | _, _, i + 1, y, .cons r t, e => by
    obtain ⟨x, h1, h2⟩ := pair_get (i := i) (y := y) t (by simpa using e)
    exact ⟨x, by simpa using h1, h2⟩
theorem OpAt.first {C : Addr} {H : Hp} {q l : Addr} (nq : H q = none) (nl : upd H q (.lst []) l = none) : OpAt C H (upd (upd H q (.lst [])) l (.lst [.ref q])) l [q] [[]] 1 := by
  have ql : q ≠ l := fun z => by rw [← z, upd_same] at nl; cases nl
  have nlH : H l = none := by rw [upd_ne (Ne.symm ql)] at nl; exact nl
  refine ⟨upd_same, .cons (by rw [upd_ne ql, upd_same]) .nil .nil, by simp [Ne.symm ql], fun r m => ?_, (same_new nq).trans (same_new nl), fun t m => ?_, by simp, fun t m => ?_⟩
  · simp at m
    rcases m with rfl | rfl
    · exact nlH
    · exact nq
  · simp at m
    subst m
    exact fun i hi => nomatch hi
  · simp at m
    subst m
    exact Nat.zero_le _
def spFrom (C : Addr) : Sp := fun vs H Q _ => ∃ (z : Str) (t : Tr), vs = [.str z] ∧ z.length ≤ 900000 ∧ Tells (codes z) t ∧ ∀ (y : V) (H' : Hp), Same H H' → VAt C H' y t → Q y H'
section
variable {P : Program} {w : World} {K : PySem.W.Frag} {mg : Str → Option Value} {base : Heap} {C fE : Addr}

abbrev svaluefrom : Stmt := top 24
abbrev Nvaluefrom : List Str := ["text", "words", "opened", "word", "column"]
abbrev Pvaluefrom : List Str := ["text"]
theorem scvaluefrom : FnScope Nvaluefrom Pvaluefrom (defScope svaluefrom) := ⟨rfl, rfl, rfl, by decide +kernel, rfl, by decide +kernel, by decide +kernel⟩

theorem ok_from {f f0 fM fR fN fB fA fI fW fT : Addr} {fd fd0 fdM fdR fdN fdB fdA fdI fdW fdT : FuncData} (F : Fun K "value_from" "value_from" svaluefrom f fd) (T : VTxt mg) (WT : WTxt mg) (MT : MadeTxt K mg C fE) (kS : PySem.W.kitOne K (.ref C) (.type "str") = some false) (Mk : Mk K C f0) (F_init : Fun K "__init__" "Made.__init__" sMadeinit f0 fd0) (B_init : Binds K fd0 ["self", "maker", "parts"] [])
    (F_may_have_parts : Fun K "may_have_parts" "may_have_parts" smayhaveparts fM fdM) (b_may_have_parts : Binds K fdM ["told"] []) (g_may_have_parts : mg "may_have_parts" = some (.ref fM))
    (F_read_value : Fun K "read_value" "read_value" sreadvalue fR fdR) (b_read_value : Binds K fdR ["told"] []) (g_read_value : mg "read_value" = some (.ref fR))
    (F_is_number : NumFun K mg fN fdN) (b_is_number : Binds K fdN Pisnumber []) (g_is_number : mg "is_number" = some (.ref fN))
    (F_is_big : Fun K "is_big" "is_big" sisbig fB fdB) (b_is_big : Binds K fdB Pisbig []) (g_is_big : mg "is_big" = some (.ref fB))
    (F_is_name : Fun K "is_name" "is_name" sisname fI fdI) (b_is_name : Binds K fdI Pisname []) (g_is_name : mg "is_name" = some (.ref fI))
    (F_all_among : Fun K "all_among" "all_among" sallamong fA fdA) (b_all_among : Binds K fdA Pallamong []) (g_all_among : mg "all_among" = some (.ref fA))
    (F_words_of : Fun K "words_of" "words_of" swordsof fW fdW) (b_words_of : Binds K fdW Pwordsof []) (g_words_of : mg "words_of" = some (.ref fW))
    (F_take_word : Fun K "take_word" "take_word" stakeword fT fdT) (b_take_word : Binds K fdT Ptakeword []) (g_take_word : mg "take_word" = some (.ref fT)) : FnOk P w K mg base CX0 5 f fd Pvaluefrom (spFrom C) := by
  have G_read_value : FnOk P w K mg base CX0 4 fR fdR Preadvalue (spRead C) := (ok_read F_read_value T MT kS Mk F_init B_init F_may_have_parts b_may_have_parts g_may_have_parts).mono (by decide)
  have G_words_of : FnOk P w K mg base CX0 4 fW fdW Pwordsof spWords := (ok_words_of F_words_of WT).mono (by decide)
  have G_take_word : FnOk P w K mg base CX0 4 fT fdT Ptakeword (spTake C) := ok_take F_take_word T WT MT kS Mk F_init B_init F_may_have_parts b_may_have_parts g_may_have_parts F_read_value b_read_value g_read_value F_is_number b_is_number g_is_number F_is_big b_is_big g_is_big F_is_name b_is_name g_is_name F_all_among b_all_among g_all_among
  refine F.ok scvaluefrom (fun vs H Q E h => ?_) (fun cdv A outer s H vs Q E hr h => ?_)
  · obtain ⟨z, t, rfl, _⟩ := h
    rfl
  · obtain ⟨z, t, rfl, hz, ⟨told, htk, htne, htr⟩, k⟩ := h
    have hr1 := hr
    refine ⟨_, (pss_cons (ps_if (pt_not (pt_val (pe_callB call_isi (by rfl) T.isinstance (by decide +kernel) (pa_cons (pv 0) (pa_cons (pe_bltn (v := .ty "str") (by rfl) T.str (by decide +kernel) rfl) pa_nil)))))
      (pss_one (ps_never))
      pss_nil)
      (pss_cons (ps_set (i := 1) scvaluefrom.nd rfl (Or.inl rfl) (pe_call G_words_of hr1 rfl g_words_of F_words_of.kp b_words_of .nil pass0 (pa_cons (pv 0) pa_nil)))
      (pss_cons (ps_set (i := 2) scvaluefrom.nd rfl (Or.inl rfl) (pe_lst (pa_cons (pe_lst pa_nil) pa_nil)))
      (pss_cons (ps_for PassesOwn.never rfl (pi_tup (pv 1)) (pg_tup (by rfl) (pgs_cons (pg_name (i := 3) scvaluefrom.nd rfl (Or.inl rfl)) (pgs_cons (pg_name (i := 4) scvaluefrom.nd rfl (Or.inl rfl)) pgs_nil)))
      (pss_one (ps_if (pt_not (pt_val (pe_call G_take_word hr1 rfl g_take_word F_take_word.kp b_take_word .nil pass0 (pa_cons (pv 2) (pa_cons (pv 3) pa_nil)))))
      (pss_one (ps_never))
      pss_nil)))
      (pss_cons (ps_if (PW.pt (pw_or (pt_cmpR op_gt (pe_callB call_len_seq (by rfl) T.len PySem.boot_len (pa_cons (pv 2) pa_nil)) pe_int (nomark _)) (pw_or1 (pt_cmpR op_eq (pe_callB call_len_seq (by rfl) T.len PySem.boot_len (pa_cons (pe_ix ix_list (pv 2) pe_int (fun _ _ => rfl)) pa_nil)) pe_int (nomark _)))))
      (pss_one (ps_never))
      pss_nil)
      (pss_one (ps_ret (pe_call G_read_value hr1 rfl g_read_value F_read_value.kp b_read_value .nil pass0 (pa_cons (pe_ix ix_list (pv 2) pe_int (fun _ _ => rfl)) pa_nil))))))))), ?_⟩
    refine ⟨.str z, (by kernel_rfl), _, _, _, _, true, rfl, .ty "str", .base (.str z), kit_ty (by decide +kernel), _, rfl, ?_⟩
    refine ite_no rfl ?_
    refine ⟨.str z, (by kernel_rfl), z, rfl, hz, fun p H1 xs S1 hp hw => ?_⟩
    rw [← scan_wd (codes z) 0 []] at htk
    have wlen := scan_len (codes z) 0 []
    have wwd := scan_word (codes z) 0 []
    have cz := len_codes z
    generalize scan (codes z) 0 [] = wl at htk wlen wwd hw
    refine ⟨by show 0 ≤ sizeLine; decide, fun q nq => ?_⟩
    refine ⟨by show 1 ≤ sizeLine; decide, fun l nl => ?_⟩
    have O0 := OpAt.first (C := C) nq nl
    generalize upd (upd H1 q (.lst [])) l (.lst [.ref q]) = H2 at O0 ⊢
    have lwx := hw.len
    have S2 := O0.s
    refine ⟨.ref p, (by kernel_rfl), p, rfl, ⟨_, SqT.of (S2 _ _ hp)⟩, ?_⟩
    refine for_tup (K := K) (a := p) (xs := xs) (fun i σ H' => ∃ (rs : List Addr) (S : List (List Itm)) (v3 v4 : Option V), σ = [some (.str z), some (.ref p), some (.ref l), v3, v4] ∧ OpAt C H1 H' l rs S (i + 1) ∧ S ≠ [] ∧ takeAll S (ws ((wl.drop i).map (·.1))) = some [told])
      ⟨[q], [[]], none, none, rfl, O0, (by simp), htk⟩ (fun i σ H' _ ⟨_, _, _, _, _, O, _⟩ => SqT.of (O.s _ _ hp)) ?_ ?_
    · rintro i x σ H3 hi ⟨rs, S, v3, v4, rfl, O, hS, htk⟩
      obtain ⟨⟨wc, col⟩, hwi, Tw, rfl, hTw⟩ := pair_get hw hi
      have mw : (wc, col) ∈ wl := List.mem_of_getElem? hwi
      have l1 := wwd _ mw
      have li := (List.getElem?_eq_some_iff.mp hi).1
      have hd : wl.drop i = (wc, col) :: wl.drop (i + 1) := by
        obtain ⟨h1, h2⟩ := List.getElem?_eq_some_iff.mp hwi
        rw [List.drop_eq_getElem_cons h1, h2]
      rw [hd] at htk
      refine ⟨Tw, _, rfl, SqT.of (O.s _ _ hTw), rfl, _, _, rfl, _, _, rfl, rfl, ?_⟩
      have htk2 : (match takeW S ⟨wc.toArray⟩ with | none => none | some S' => takeAll S' (ws ((wl.drop (i + 1)).map (·.1)))) = some [told] := htk
      refine ⟨.ref l, (by kernel_rfl), .str ⟨wc.toArray⟩, (by kernel_rfl), l, ⟨wc.toArray⟩, H1, rs, S, i + 1, rfl, O, (by omega), ?_, hS, fun hn => ?_, fun S' rs' H4 hs O' => ?_⟩
      · rw [len_codes]
        simp only [List.length_nil] at l1
        show wc.toArray.toList.length ≤ _
        rw [List.toList_toArray]
        omega
      · rw [hn] at htk2
        cases htk2
      · refine ⟨_, rfl, ?_⟩
        refine ite_no rfl ?_
        rw [hs] at htk2
        exact ⟨rs', S', _, _, rfl, O', takeW_ne hs, htk2⟩
    · rintro σ H3 ⟨rs, S, v3, v4, rfl, O, hS, htk⟩
      rw [← lwx, List.drop_length] at htk
      obtain rfl : S = [told] := Option.some.inj htk
      obtain ⟨r, ys, rfl, er, hx⟩ : ∃ r ys, rs = [r] ∧ H3 r = some (.lst ys) ∧ SAt C H3 ys told := by
        cases O.t with
        | cons e h t =>
          cases t
          exact ⟨_, _, rfl, e, h⟩
      have hl : H3 l = some (.lst [.ref r]) := O.at_
      have lx := hx.len
      have hlt : 0 < told.length := List.length_pos_iff.mpr htne
      have ltd := O.tn told (by simp)
      refine ⟨.ref l, (by kernel_rfl), l, _, rfl, .inl (SqL.of hl), _, _, rfl, rfl, _, rfl, ?_⟩
      refine ite_no rfl ?_
      refine ⟨.ref l, (by kernel_rfl), l, _, 0, .ref r, rfl, rfl, SqL.of hl, atI0 rfl, r, _, rfl, .inl (SqL.of er), rfl, _, rfl, ?_⟩
      refine ite_no (decide_eq_false (fun z => by have q := V.int.inj z; omega)) ?_
      refine ⟨.ref l, (by kernel_rfl), l, _, 0, .ref r, rfl, rfl, SqL.of hl, atI0 rfl, r, ys, told, rfl, er, hx, htne, O.wf told (by simp), (by omega), fun y H4 S4 hy => ?_⟩
      rw [htr] at hy
      exact k y H4 ((S1.trans O.s).trans S4) hy
end
end Nm
namespace Nm
open PySem PySem.Spec PyProof.Rows L2
theorem szL_mem : ∀ {ts : List Tr} {c : Tr}, c ∈ ts → c.sz ≤ Tr.szL ts
  | t :: r, c, h => by
    rcases List.mem_cons.mp h with rfl | h
    · simp only [Tr.szL]; omega
    · have := szL_mem h
      simp only [Tr.szL]; omega
/-! ### the law's own values: numbers, and pairs of a maker and a list -/
mutual
def Tr.dep : Tr → Nat
  | .num _ => 1
  | .mk _ ps => 1 + Tr.depL ps
def Tr.depL : List Tr → Nat
  | [] => 0
  | t :: r => max t.dep (Tr.depL r)
end
theorem depL_mem : ∀ {ts : List Tr} {c : Tr}, c ∈ ts → c.dep ≤ Tr.depL ts
  | t :: r, c, h => by
    rcases List.mem_cons.mp h with rfl | h
    · exact Nat.le_max_left _ _
    · exact Nat.le_trans (depL_mem h) (Nat.le_max_right _ _)
theorem Tr.dep_pos (t : Tr) : 0 < t.dep := by
  cases t with
  | num i => simp [Tr.dep]
  | mk m ps => simp [Tr.dep]; omega
mutual
inductive OAt (H : Hp) : V → Tr → Prop
  | num (i : Int) : OAt H (.int i) (.num i)
  | mk {T l : Addr} {m : Str} {xs : List V} {ts : List Tr} (eT : H T = some (.tup [.str m, .ref l])) (el : H l = some (.lst xs)) (h : OAts H xs ts) : OAt H (.ref T) (.mk m ts)
inductive OAts (H : Hp) : List V → List Tr → Prop
  | nil : OAts H [] []
  | cons {x : V} {t : Tr} {xs : List V} {ts : List Tr} (h : OAt H x t) (r : OAts H xs ts) : OAts H (x :: xs) (t :: ts)
end
mutual
theorem OAt.mono {H H' : Hp} (k1 : ∀ a xs, H a = some (.lst xs) → H' a = some (.lst xs)) (k2 : ∀ a xs, H a = some (.tup xs) → H' a = some (.tup xs)) : ∀ {t : Tr} {v : V}, OAt H v t → OAt H' v t
  | .num _, _, .num i => .num i
  | .mk _ _, _, .mk ea ep h => .mk (k2 _ _ ea) (k1 _ _ ep) (OAts.mono k1 k2 h)
theorem OAts.mono {H H' : Hp} (k1 : ∀ a xs, H a = some (.lst xs) → H' a = some (.lst xs)) (k2 : ∀ a xs, H a = some (.tup xs) → H' a = some (.tup xs)) : ∀ {ts : List Tr} {xs : List V}, OAts H xs ts → OAts H' xs ts
  | [], _, .nil => .nil
  | _ :: _, _, .cons h r => .cons (OAt.mono k1 k2 h) (OAts.mono k1 k2 r)
end
theorem OAt.same {H H' : Hp} {v : V} {t : Tr} (h : OAt H v t) (s : Same H H') : OAt H' v t := h.mono (fun a xs e => s _ _ e) fun a xs e => s _ _ e
theorem OAts.same {H H' : Hp} {xs : List V} {ts : List Tr} (h : OAts H xs ts) (s : Same H H') : OAts H' xs ts := h.mono (fun a xs e => s _ _ e) fun a xs e => s _ _ e
theorem OAts.len {H : Hp} : ∀ {xs : List V} {ts : List Tr}, OAts H xs ts → xs.length = ts.length
  | _, _, .nil => rfl
  | _, _, .cons _ r => by simp [OAts.len r]
theorem OAts.at {H : Hp} : ∀ {xs : List V} {ts : List Tr} {i : Nat} {x : V}, OAts H xs ts → xs[i]? = some x → ∃ t, ts[i]? = some t ∧ OAt H x t
  | _, _, _, _, .nil, e => by simp at e
  | _, _, 0, _, .cons h _, e => by
    simp at e
    subst e
    exact ⟨_, rfl, h⟩
  | _, _, i + 1, x, .cons _ r, e => by
    obtain ⟨t, h1, h2⟩ := OAts.at (i := i) (x := x) r (by simpa using e)
    exact ⟨t, by simpa using h1, h2⟩
theorem OAts.app {H : Hp} : ∀ {xs : List V} {ts : List Tr} {ys : List V} {us : List Tr}, OAts H xs ts → OAts H ys us → OAts H (xs ++ ys) (ts ++ us)
  | _, _, _, _, .nil, k => k
  | _, _, _, _, .cons h r, k => .cons h (OAts.app r k)
/-- G: what is new in H', seen from H -/
structure New (H G H' : Hp) : Prop where
  in_ : Same G H'
  ap : ∀ a, H a ≠ none → G a = none
theorem new_none {H H' : Hp} : New H (fun _ => Option.none) H' := ⟨(fun _ _ e => by cases e), fun _ _ => rfl⟩
def joinH (G G2 : Hp) : Hp := fun b => match G b with
  | some o => some o
  | none => G2 b
theorem join_l {G G2 : Hp} : Same G (joinH G G2) := fun b o e => by
  unfold joinH
  rw [e]
theorem join_none {G G2 : Hp} {b : Addr} (e : G b = none) : joinH G G2 b = G2 b := by
  unfold joinH
  rw [e]
theorem New.join_r {H G H1 G2 H2 : Hp} (n : New H G H1) (m : New H1 G2 H2) : Same G2 (joinH G G2) := fun b o e => by
  cases g : G b with
  | none => rw [join_none g]; exact e
  | some u =>
    have z := m.ap b (by rw [n.in_ _ _ g]; exact fun z => nomatch z)
    rw [z] at e
    cases e
theorem New.join {H G H1 G2 H2 : Hp} (n : New H G H1) (s : Same H H1) (m : New H1 G2 H2) (s2 : Same H1 H2) : New H (joinH G G2) H2 := by
  refine ⟨fun b o e => ?_, fun a ha => ?_⟩
  · cases g : G b with
    | none => rw [join_none g] at e; exact m.in_ _ _ e
    | some u =>
      rw [join_l _ _ g] at e
      rw [← Option.some.inj e]
      exact s2 _ _ (n.in_ _ _ g)
  · rw [join_none (n.ap a ha)]
    cases e : H a with
    | none => exact absurd e ha
    | some o => exact m.ap a (by rw [s _ _ e]; exact fun z => nomatch z)
/-- a list that is written, and not in it -/
theorem New.put {H G H1 : Hp} {D : Addr} {o : HO} (n : New H G H1) (d : G D = none) : New H G (upd H1 D o) := ⟨fun b u e => by rw [upd_ne (ne_of_none e d)]; exact n.in_ _ _ e, n.ap⟩
theorem New.same {H G H1 H2 : Hp} (n : New H G H1) (s : Same H1 H2) : New H G H2 := ⟨fun b u e => s _ _ (n.in_ _ _ e), n.ap⟩
/-- one more object -/
theorem New.add {H G H1 : Hp} {D : Addr} {o : HO} (n : New H G H1) (d : H D = none) (e : H1 D = some o) : New H (upd G D o) H1 := by
  refine ⟨fun b u q => ?_, fun a ha => ?_⟩
  · by_cases h : b = D
    · subst h
      rw [upd_same] at q
      rw [e, Option.some.inj q]
    · rw [upd_ne h] at q
      exact n.in_ _ _ q
  · rw [upd_ne (fun (z : a = D) => ha (z ▸ d))]
    exact n.ap a ha
def spOwn (C : Addr) (d : Nat) : Sp := fun vs H Q _ => ∃ (v : V) (t : Tr), vs = [v] ∧ VAt C H v t ∧ t.dep ≤ d ∧ t.sz ≤ 1000000 ∧ ∀ (y : V) (H' G : Hp), Same H H' → New H G H' → OAt G y t → Q y H'
def spMade (C : Addr) (d : Nat) : Sp := fun vs H Q _ => ∃ (v : V) (t : Tr), vs = [v] ∧ OAt H v t ∧ t.dep ≤ d ∧ t.sz ≤ 1000000 ∧ ∀ (y : V) (H' : Hp), Same H H' → VAt C H' y t → Q y H'
section
variable {P : Program} {w : World} {K : PySem.W.Frag} {mg : Str → Option Value} {base : Heap} {C fE : Addr}

abbrev sLown : Stmt := top 30
abbrev NLown : List Str := ["_law_value", "_law_part"]
abbrev PLown : List Str := ["_law_value"]
theorem scLown : FnScope NLown PLown (defScope sLown) := ⟨rfl, rfl, rfl, by decide +kernel, rfl, by decide +kernel, by decide +kernel⟩

theorem ok_own {f : Addr} {fd : FuncData} (F_law_own : Fun K "_law_own" "_law_own" sLown f fd) (T : VTxt mg) (MT : MadeTxt K mg C fE) (b_law_own : Binds K fd ["_law_value"] []) (g_law_own : mg "_law_own" = some (.ref f)) : ∀ d : Nat, FnOk P w K mg base CX0 (d + 1) f fd PLown (spOwn C d)
  | 0 => by
    refine F_law_own.ok scLown (fun vs H Q E h => ?_) (fun cdv A outer s H vs Q E hr h => ?_)
    · obtain ⟨v, t, rfl, _⟩ := h
      rfl
    · obtain ⟨v, t, rfl, _, hd, _⟩ := h
      exact absurd t.dep_pos (by omega)
  | d + 1 => by
    have G_law_own := ok_own F_law_own T MT b_law_own g_law_own d
    refine F_law_own.ok scLown (fun vs H Q E h => ?_) (fun cdv A outer s H vs Q E hr h => ?_)
    · obtain ⟨v, t, rfl, _⟩ := h
      rfl
    · obtain ⟨v, t, rfl, hv, hd, hz, k⟩ := h
      have hr1 := hr
      refine ⟨_, (pss_cons (ps_if (pt_val (pe_callB call_isi (by rfl) T.isinstance (by decide +kernel) (pa_cons (pv 0) (pa_cons (pe_bltn (v := .ty "int") (by rfl) T.int (by decide +kernel) rfl) pa_nil))))
      (pss_one (ps_ret (pv 0)))
      pss_nil)
      (pss_one (ps_ret (pe_tup (pa_cons (pe_fld (pv 0) rfl) (pa_cons (pe_lc (own := [("_law_part", 1)]) (g := (gName 1)) rfl scLown.nd (pi_tup (pe_fld (pv 0) rfl)) (blkOk_by (own := [("_law_part", 1)]) (N := NLown) (sc := defScope sLown) (by decide +kernel)) (fun _ _ _ _ _ => (pg_name (i := 1) scLown.nd rfl (Or.inl rfl))) (fun _ _ _ _ _ => pts_nil) (fun _ _ _ _ _ => (pe_call G_law_own hr1 rfl g_law_own F_law_own.kp b_law_own .nil pass0 (pa_cons (pv 1) pa_nil)))) pa_nil)))))), ?_⟩
      cases hv with
      | num i =>
        refine ⟨.int i, (by kernel_rfl), _, _, _, _, true, rfl, .ty "int", .base (.int i), kit_ty (by decide +kernel), _, rfl, ?_⟩
        refine ite_yes rfl ?_
        exact ⟨.int i, (by kernel_rfl), k _ H (fun _ => none) (fun _ _ e => e) new_none (.num i)⟩
      | @mk a dx p m xs ts ea ep hx =>
        refine ⟨.ref a, (by kernel_rfl), _, _, _, _, false, rfl, .ty "int", MT.ins ea, MT.kitN, _, rfl, ?_⟩
        refine ite_no rfl ?_
        refine ⟨.ref a, (by kernel_rfl), a, C, dx, _, _, rfl, ea, MT.cl, MT.nM, mkF_maker m p, ?_⟩
        refine ⟨.ref a, (by kernel_rfl), a, C, dx, _, _, rfl, ea, MT.cl, MT.nP, mkF_parts m p, p, rfl, ⟨_, SqT.of ep⟩, ?_⟩
        intro D nD
        have lx := hx.len
        have szt : (Tr.mk m ts).sz = 1 + Tr.szL ts := by simp [Tr.sz]
        have dpt : (Tr.mk m ts).dep = 1 + Tr.depL ts := by simp [Tr.dep]
        have lts := szL_len ts
        refine lc_tup (K := K) (a := p) (xs := xs) (fun i H' => ∃ (ys : List V) (G : Hp), H' D = some (.lst ys) ∧ OAts G ys (ts.take i) ∧ ys.length = i ∧ Same H H' ∧ New H G H' ∧ G D = none)
          ⟨[], fun _ => none, upd_same, .nil, rfl, same_new nD, new_none, rfl⟩ (fun i H' _ ⟨_, _, _, _, _, S, _, _⟩ => SqT.of (S _ _ ep)) ?_ ?_
        · rintro i x H1 hi ⟨ys, G, hD, hy, ly, S, N, gD⟩
          obtain ⟨u, hu, hxu⟩ := (hx.same S).at hi
          have mu : u ∈ ts := List.mem_of_getElem? hu
          have li := (List.getElem?_eq_some_iff.mp hi).1
          refine ⟨rfl, ?_⟩
          have d1 := depL_mem mu
          have z1 := szL_mem mu
          refine ⟨x, (by kernel_rfl), x, u, rfl, hxu, (by omega), (by omega), fun y H2 G2 S2 N2 hyu => ?_⟩
          have hD2 := S2 _ _ hD
          refine ⟨ys, hD2, Nat.lt_of_le_of_lt (show ys.length ≤ 1000000 by omega) (by decide), ?_⟩
          have g2D : G2 D = none := N2.ap D (by rw [hD]; exact fun z => nomatch z)
          refine ⟨ys ++ [y], joinH G G2, upd_same, ?_, by simp [ly], same_put (S.trans S2) nD, (N.join S N2 S2).put (by rw [join_none gD]; exact g2D), by rw [join_none gD]; exact g2D⟩
          have e1 : ts.take (i + 1) = ts.take i ++ [u] := by rw [List.take_add_one, hu]; rfl
          rw [e1]
          exact (hy.same join_l).app (.cons (hyu.same (N.join_r N2)) .nil)
        · rintro H1 ⟨ys, G, hD, hy, ly, S, N, gD⟩
          rw [lx, List.take_length] at hy
          refine ⟨by show 2 ≤ sizeLine; decide, fun T1 nT1 => ?_⟩
          have nT0 : H T1 = none := by
            cases e : H T1 with
            | none => rfl
            | some o => rw [S _ _ e] at nT1; cases nT1
          have s1 := same_new (o := .tup [.str m, .ref D]) nT1
          have DT : D ≠ T1 := fun z => by rw [z, nT1] at hD; cases hD
          have N1 := ((N.same s1).add nD (s1 _ _ hD)).add nT0 (upd_same (H := H1) (a := T1) (o := .tup [.str m, .ref D]))
          have gT : (upd G D (.lst ys)) T1 = none := by
            rw [upd_ne (Ne.symm DT)]
            cases e : G T1 with
            | none => rfl
            | some o => rw [N.in_ _ _ e] at nT1; cases nT1
          refine k _ _ _ (S.trans s1) N1 (.mk upd_same ?_ (hy.same fun b o e => ?_))
          · rw [upd_ne DT, upd_same]
          · rw [upd_ne (ne_of_none e (by rw [upd_ne (Ne.symm DT)] at gT; exact gT)), upd_ne (ne_of_none e gD)]
            exact e

abbrev sLmade : Stmt := top 31
abbrev NLmade : List Str := ["_law_value", "_law_part"]
abbrev PLmade : List Str := ["_law_value"]
theorem scLmade : FnScope NLmade PLmade (defScope sLmade) := ⟨rfl, rfl, rfl, by decide +kernel, rfl, by decide +kernel, by decide +kernel⟩

theorem ok_made {f f0 : Addr} {fd fd0 : FuncData} (F_law_made : Fun K "_law_made" "_law_made" sLmade f fd) (T : VTxt mg) (MT : MadeTxt K mg C fE) (Mk : Mk K C f0) (F_init : Fun K "__init__" "Made.__init__" sMadeinit f0 fd0) (B_init : Binds K fd0 ["self", "maker", "parts"] [])
    (b_law_made : Binds K fd ["_law_value"] []) (g_law_made : mg "_law_made" = some (.ref f)) : ∀ d : Nat, FnOk P w K mg base CX0 (d + 3) f fd PLmade (spMade C d)
  | 0 => by
    refine F_law_made.ok scLmade (fun vs H Q E h => ?_) (fun cdv A outer s H vs Q E hr h => ?_)
    · obtain ⟨v, t, rfl, _⟩ := h
      rfl
    · obtain ⟨v, t, rfl, _, hd, _⟩ := h
      exact absurd t.dep_pos (by omega)
  | d + 1 => by
    have G_law_made := ok_made F_law_made T MT Mk F_init B_init b_law_made g_law_made d
    have G_init : FnOk P w K mg base CX0 (d + 2) f0 fd0 PMadeinit (spInit C) := (ok_init F_init T MT).mono (by omega)
    refine F_law_made.ok scLmade (fun vs H Q E h => ?_) (fun cdv A outer s H vs Q E hr h => ?_)
    · obtain ⟨v, t, rfl, _⟩ := h
      rfl
    · obtain ⟨v, t, rfl, hv, hd, hz, k⟩ := h
      have hr1 := hr
      refine ⟨_, (pss_one (ps_ret (pe_ifExp (pt_val (pe_callB call_isi (by rfl) T.isinstance (by decide +kernel) (pa_cons (pv 0) (pa_cons (pe_bltn (v := .ty "int") (by rfl) T.int (by decide +kernel) rfl) pa_nil)))) (pv 0) (pe_make Mk G_init hr1 rfl MT.gM B_init .nil pass0 (pa_cons (pe_ix ix_tup (pv 0) pe_int (fun _ _ => rfl)) (pa_cons (pe_callTy call_tuple_of (by rfl) T.tuple (by decide +kernel) (pa_cons (pe_lc (own := [("_law_part", 1)]) (g := (gName 1)) rfl scLmade.nd (pi_list (pe_ix ix_tup (pv 0) pe_int (fun _ _ => rfl))) (blkOk_by (own := [("_law_part", 1)]) (N := NLmade) (sc := defScope sLmade) (by decide +kernel)) (fun _ _ _ _ _ => (pg_name (i := 1) scLmade.nd rfl (Or.inl rfl))) (fun _ _ _ _ _ => pts_nil) (fun _ _ _ _ _ => (pe_call G_law_made hr1 rfl g_law_made F_law_made.kp b_law_made .nil pass0 (pa_cons (pv 1) pa_nil)))) pa_nil)) pa_nil)))))), ?_⟩
      cases hv with
      | num i =>
        refine ⟨.int i, (by kernel_rfl), _, _, _, _, true, rfl, .ty "int", .base (.int i), kit_ty (by decide +kernel), _, rfl, ?_⟩
        refine ite_yes rfl ?_
        exact ⟨.int i, (by kernel_rfl), k _ H (fun _ _ e => e) (.num i)⟩
      | @mk T1 l m xs ts eT el hx =>
        refine ⟨.ref T1, (by kernel_rfl), _, _, _, _, false, rfl, .ty "int", .base (.tup eT), kit_ty (by decide +kernel), _, rfl, ?_⟩
        refine ite_no rfl ?_
        refine ⟨.ref T1, (by kernel_rfl), T1, _, 0, .str m, rfl, rfl, SqT.of eT, rfl, ?_⟩
        refine ⟨.ref T1, (by kernel_rfl), T1, _, 1, .ref l, rfl, rfl, SqT.of eT, rfl, l, rfl, ⟨_, SqL.of el⟩, ?_⟩
        intro D nD
        have lx := hx.len
        have szt : (Tr.mk m ts).sz = 1 + Tr.szL ts := by simp [Tr.sz]
        have dpt : (Tr.mk m ts).dep = 1 + Tr.depL ts := by simp [Tr.dep]
        have lts := szL_len ts
        refine lc_list (K := K) (a := l) (xs := xs) (fun i H' => ∃ ys : List V, H' D = some (.lst ys) ∧ VAts C H' ys (ts.take i) ∧ ys.length = i ∧ Same H H') ⟨[], upd_same, .nil, rfl, same_new nD⟩ (fun i H' _ ⟨_, _, _, _, S⟩ => SqL.of (S _ _ el)) ?_ ?_
        · rintro i x H1 hi ⟨ys, hD, hy, ly, S⟩
          obtain ⟨u, hu, hxu⟩ := (hx.same S).at hi
          have mu : u ∈ ts := List.mem_of_getElem? hu
          have li := (List.getElem?_eq_some_iff.mp hi).1
          refine ⟨rfl, ?_⟩
          have d1 := depL_mem mu
          have z1 := szL_mem mu
          refine ⟨x, (by kernel_rfl), x, u, rfl, hxu, (by omega), (by omega), fun y H2 S2 hyu => ?_⟩
          have hD2 := S2 _ _ hD
          refine ⟨ys, hD2, Nat.lt_of_le_of_lt (show ys.length ≤ 1000000 by omega) (by decide), ?_⟩
          have e1 : ts.take (i + 1) = ts.take i ++ [u] := by rw [List.take_add_one, hu]; rfl
          refine ⟨ys ++ [y], upd_same, ?_, by simp [ly], same_put (S.trans S2) nD⟩
          rw [e1]
          exact ((hy.same S2).app (.cons hyu .nil)).put hD2 (by intro _ _ z; cases z) (by intro _ z; cases z)
        · rintro H1 ⟨ys, hD, hy, ly, S⟩
          rw [lx, List.take_length] at hy
          refine ⟨D, ys, rfl, .inl ⟨SqL.of hD, fun p np => ?_⟩⟩
          have s1 := same_new (o := .tup ys) np
          have hp := upd_same (H := H1) (a := p) (o := .tup ys)
          have hy1 := hy.same s1
          have S1 := S.trans s1
          generalize upd H1 p (.tup ys) = H2 at s1 hp hy1 S1 ⊢
          intro nx dn n1 n2 n3
          have m1 : Same H2 (upd H2 dn (.own nx)) := same_new n2
          have m2 : ∀ o, Same H2 (upd (upd H2 dn (.own nx)) nx o) := fun o => same_put m1 n1
          refine ⟨nx, dn, p, m, ys, rfl, upd_same, m2 _ _ _ hp, rfl, ?_⟩
          rw [upd_upd]
          exact k _ _ (S1.trans (m2 _)) (.mk upd_same (m2 _ _ _ hp) (hy1.same (m2 _)))
end
end Nm
namespace Nm
open PySem PySem.Spec PyProof.Rows L2
abbrev sPen : Stmt := top 26
abbrev sDraw : Stmt := top 27
abbrev sPick : Stmt := top 28
/-! ### the pen: the script's ints, the place, the digits left, the count, the fold -/
structure Pen where
  l : Addr
  ns : List Int
  i : Int
  d : Int
  c : Int
  f : Int
def kCe : Key := .inr "cells"
def kAt : Key := .inr "at"
def kDi : Key := .inr "digits"
def kCo : Key := .inr "count"
def kFo : Key := .inr "fold"
theorem ce_at : ¬ kCe = kAt := by decide +kernel
theorem ce_di : ¬ kCe = kDi := by decide +kernel
theorem ce_co : ¬ kCe = kCo := by decide +kernel
theorem ce_fo : ¬ kCe = kFo := by decide +kernel
theorem at_di : ¬ kAt = kDi := by decide +kernel
theorem at_co : ¬ kAt = kCo := by decide +kernel
theorem at_fo : ¬ kAt = kFo := by decide +kernel
theorem di_co : ¬ kDi = kCo := by decide +kernel
theorem di_fo : ¬ kDi = kFo := by decide +kernel
theorem co_fo : ¬ kCo = kFo := by decide +kernel
def Pen.kvs (z : Pen) : List (Key × V) := [(kCe, .ref z.l), (kAt, .int z.i), (kDi, .int z.d), (kCo, .int z.c), (kFo, .int z.f)]
structure Pen.Ok (z : Pen) : Prop where
  i0 : 0 ≤ z.i
  i1 : z.i ≤ (z.ns.length : Int)
  d0 : 0 ≤ z.d
  c0 : 0 ≤ z.c
  f0 : 0 ≤ z.f
  f1 : z.f < 2147483587
theorem pen_ce (z : Pen) : valV z.kvs kCe = some (.ref z.l) := by unfold Pen.kvs; rw [valV_pos rfl]
theorem pen_at (z : Pen) : valV z.kvs kAt = some (.int z.i) := by unfold Pen.kvs; rw [valV_neg ce_at, valV_pos rfl]
theorem pen_di (z : Pen) : valV z.kvs kDi = some (.int z.d) := by unfold Pen.kvs; rw [valV_neg ce_di, valV_neg at_di, valV_pos rfl]
theorem pen_co (z : Pen) : valV z.kvs kCo = some (.int z.c) := by unfold Pen.kvs; rw [valV_neg ce_co, valV_neg at_co, valV_neg di_co, valV_pos rfl]
theorem pen_fo (z : Pen) : valV z.kvs kFo = some (.int z.f) := by unfold Pen.kvs; rw [valV_neg ce_fo, valV_neg at_fo, valV_neg di_fo, valV_neg co_fo, valV_pos rfl]
section
variable {κ : Type} [DecidableEq κ]
theorem putK_old {kvs : List (κ × V)} {k : κ} {u : V} (v : V) (h : valV kvs k = some u) : putK kvs k v = kvs.map fun kv => if kv.1 = k then (kv.1, v) else kv := by
  unfold putK
  rw [valV_any, h]
  rfl
end
theorem put_at (z : Pen) (v : Int) : putK z.kvs kAt (.int v) = ({ z with i := v } : Pen).kvs := by
  rw [putK_old _ (pen_at z)]
  unfold Pen.kvs
  simp only [List.map_cons, List.map_nil, if_neg ce_at, if_neg (Ne.symm at_di), if_neg (Ne.symm at_co), if_neg (Ne.symm at_fo), if_true]
theorem put_di (z : Pen) (v : Int) : putK z.kvs kDi (.int v) = ({ z with d := v } : Pen).kvs := by
  rw [putK_old _ (pen_di z)]
  unfold Pen.kvs
  simp only [List.map_cons, List.map_nil, if_neg ce_di, if_neg at_di, if_neg (Ne.symm di_co), if_neg (Ne.symm di_fo), if_true]
theorem put_co (z : Pen) (v : Int) : putK z.kvs kCo (.int v) = ({ z with c := v } : Pen).kvs := by
  rw [putK_old _ (pen_co z)]
  unfold Pen.kvs
  simp only [List.map_cons, List.map_nil, if_neg ce_co, if_neg at_co, if_neg di_co, if_neg (Ne.symm co_fo), if_true]
theorem put_fo (z : Pen) (v : Int) : putK z.kvs kFo (.int v) = ({ z with f := v } : Pen).kvs := by
  rw [putK_old _ (pen_fo z)]
  unfold Pen.kvs
  simp only [List.map_cons, List.map_nil, if_neg ce_fo, if_neg at_fo, if_neg di_fo, if_neg co_fo, if_true]
theorem dget {H : Hp} {a : Addr} {kvs : List (Key × V)} {k : Key} {v : V} (e : H a = some (.dK kvs)) (h : valV kvs k = some v) : DGet H a (kV k) (some v) := by
  rw [← h]
  exact DGet.k e
theorem dput {H : Hp} {a : Addr} {kvs kvs' : List (Key × V)} {k : Key} {v : V} (e : H a = some (.dK kvs)) (hl : kvs.length < sizeLine) (h : putK kvs k v = kvs') : DPut H a (kV k) v (upd H a (.dK kvs')) := by
  rw [← h]
  exact DPut.k e hl
theorem pen_len (z : Pen) : z.kvs.length < sizeLine := by
  show 5 < sizeLine
  decide
/-- a pen stands at p -/
structure PenAt (H : Hp) (p : Addr) (z : Pen) : Prop where
  at_ : H p = some (.dK z.kvs)
  cells : H z.l = some (.lst (z.ns.map V.int))
  ok : z.Ok
theorem PenAt.ne {H : Hp} {p : Addr} {z : Pen} (h : PenAt H p z) : z.l ≠ p := ne_of h.cells h.at_ (by intro q; cases q)
theorem PenAt.put {H : Hp} {p : Addr} {z z' : Pen} (h : PenAt H p z) (el : z'.l = z.l) (en : z'.ns = z.ns) (ok : z'.Ok) : PenAt (upd H p (.dK z'.kvs)) p z' :=
  ⟨upd_same, by rw [el, en, upd_ne h.ne]; exact h.cells, ok⟩
/-- a pen through a heap that keeps what was tracked -/
theorem PenAt.same {H H' : Hp} {p : Addr} {z : Pen} (h : PenAt H p z) (s : Same H H') : PenAt H' p z := ⟨s _ _ h.at_, s _ _ h.cells, h.ok⟩
/-- z' is z behind n draws -/
structure Pen.Go (n : Int) (z z' : Pen) : Prop where
  l : z'.l = z.l
  ns : z'.ns = z.ns
  c : z'.c = z.c + n
  ok : z'.Ok
theorem q_back {Q : V → Hp → Prop} {v : V} {H : Hp} {p : Addr} {zz : Pen} (e : H p = some (.dK zz.kvs)) (q : Q v (upd H p (.dK zz.kvs))) : Q v H := by
  have x : upd H p (.dK zz.kvs) = H := by
    funext b
    by_cases h : b = p
    · rw [h, upd_same, e]
    · rw [upd_ne h]
  rw [x] at q
  exact q
theorem atI_nat' {xs : List V} {i : Int} {v : V} (h0 : 0 ≤ i) (h : xs[i.toNat]? = some v) : atI xs i = some v := by
  obtain ⟨n, rfl⟩ := Int.eq_ofNat_of_zero_le h0
  exact atI_nat h

/-! ### the promises -/
def spPen (K : PySem.W.Frag) : Sp := fun vs H Q _ => ∃ (a : Addr) (ns : List Int), vs = [.ref a] ∧ SqL K H a (ns.map V.int) ∧ ns.length ≤ 63 ∧
  ∀ (p : Addr) (z : Pen) (H' : Hp), Same H H' → H p = none → z.c = 0 → PenAt H' p z → Q (.ref p) H'
def spDraw : Sp := fun vs H Q _ => ∃ (p : Addr) (z : Pen) (m : Int), vs = [.ref p, .int m] ∧ PenAt H p z ∧ 0 < m ∧ m < 1073741824 ∧ z.c < 1000000000000 ∧
  ∀ (r : Int) (z' : Pen), 0 ≤ r → r < m → Pen.Go 1 z z' → Q (.int r) (upd H p (.dK z'.kvs))
def spPick (K : PySem.W.Frag) : Sp := fun vs H Q _ => ∃ (p q : Addr) (z : Pen) (xs : List V), vs = [.ref p, .ref q] ∧ PenAt H p z ∧ H q = some (.lst xs) ∧ 0 < xs.length ∧ xs.length < 1073741824 ∧ z.c < 1000000000000 ∧
  ∀ (v : V) (z' : Pen), v ∈ xs → Pen.Go 1 z z' → Q v (upd H p (.dK z'.kvs))
structure PenTxt (mg : Str → Option Value) : Prop where
  int : mg "int" = none
  list : mg "list" = none
  len : mg "len" = none

section
variable {P : Program} {w : World} {K : PySem.W.Frag} {mg : Str → Option Value} {base : Heap}
theorem scPen : FnScope ["_law_script", "_law_fold", "_law_cell"] ["_law_script"] (defScope sPen) := ⟨rfl, rfl, rfl, by decide +kernel, rfl, by decide +kernel, by decide +kernel⟩
theorem int_of {ns : List Int} {i : Nat} {y : V} (hi : (ns.map V.int)[i]? = some y) : ∃ u, ns[i]? = some u ∧ y = V.int u := by
  rw [List.getElem?_map] at hi
  cases e : ns[i]? with
  | none =>
    rw [e] at hi
    cases hi
  | some u =>
    rw [e] at hi
    exact ⟨u, rfl, (Option.some.inj hi).symm⟩
theorem kV_ce : kV kCe = V.str "cells" := rfl
theorem ok_pen {f : Addr} {fd : FuncData} (F : Fun K "_law_pen" "_law_pen" sPen f fd) (T : PenTxt mg) : FnOk P w K mg base CX0 1 f fd ["_law_script"] (spPen K) := by
  refine F.ok scPen (fun vs H Q E h => ?_) (fun cdv A outer s H vs Q E hr h => ?_)
  · obtain ⟨a, ns, rfl, _⟩ := h
    rfl
  · obtain ⟨a, ns, rfl, hS, hlen, k⟩ := h
    have hu := hu_of hr
    refine ⟨_, pss_cons (ps_set (i := 1) scPen.nd rfl (Or.inl rfl) pe_int)
      (pss_cons (ps_for PassesOwn.never rfl (pi_list (pv 0)) (pg_name (i := 2) scPen.nd rfl (Or.inl rfl))
        (pss_one (ps_set (i := 1) scPen.nd rfl (Or.inl rfl) (pe_op op_mod (pe_callTy call_int1 (by rfl) T.int (by decide +kernel) (pa_cons (pe_op op_add (pe_op op_mul (pv 1) pe_int) (pv 2)) pa_nil)) pe_int))))
      (pss_one (ps_ret (pe_disp (pps_cons pe_str (pe_callTy call_list_of (by rfl) T.list (by decide +kernel) (pa_cons (pv 0) pa_nil)) (pps_cons pe_str pe_int (pps_cons pe_str pe_int (pps_cons pe_str pe_int (pps_cons pe_str (pv 1) pps_nil))))) (by rfl) (by rfl) (fun z => by cases z) (by decide))))), ?_⟩
    refine ⟨_, rfl, a, rfl, ⟨_, hS⟩, for_list (K := K) (a := a) (xs := ns.map V.int) (fun i σ H' => ∃ (g : Int) (v : Option V), σ = [some (.ref a), some (.int g), v] ∧ H' = H ∧ 0 ≤ g ∧ g < 1000000007)
      ⟨0, none, rfl, rfl, by decide, by decide⟩ (fun i σ H' _ ⟨_, _, _, e, _⟩ => by rw [e]; exact hS) ?_ ?_⟩
    · rintro i y σ H' hi ⟨g, v, rfl, rfl, g0, g1⟩
      obtain ⟨u, _, rfl⟩ := int_of hi
      refine ⟨_, rfl, _, _, rfl, rfl, .inl ⟨by omega, by omega⟩, _, rfl, _, _, rfl, rfl, .inl ⟨_, rfl, _, _, rfl, rfl, (by show (0 : Int) < 1000000007; decide), ?_⟩⟩
      exact ⟨_, _, rfl, rfl, Int.emod_nonneg _ (by decide), Int.emod_lt_of_pos _ (by decide)⟩
    · rintro σ H' ⟨g, v, rfl, rfl, g0, g1⟩
      intro p hp
      refine ⟨_, rfl, a, _, rfl, .inl ((Same.seq (H := H') (H' := upd H' p (.dK [])) (fun b o e => by rw [upd_ne (ne_of_none e hp)]; exact e)) hS), fun l hl => ?_⟩
      have lp : l ≠ p := fun q => by
        rw [q, upd_same] at hl
        cases hl
      have hl0 : H' l = none := by
        rw [upd_ne lp] at hl
        exact hl
      refine ⟨_, rfl, by rw [upd_ne lp.symm, upd_same], [(kCe, .ref l), (kAt, .int 0), (kDi, .int 0), (kCo, .int 0), (kFo, .int g)], rfl, (by show 5 ≤ 15; decide), ?_⟩
      let z : Pen := ⟨l, ns, 0, 0, 0, g⟩
      have em : mergeK [] [(kCe, V.ref l), (kAt, .int 0), (kDi, .int 0), (kCo, .int 0), (kFo, .int g)] = z.kvs := by
        simp [mergeK, putK, z, Pen.kvs, ce_at, ce_di, ce_co, ce_fo, at_di, at_co, at_fo, di_co, di_fo, co_fo]
      rw [em]
      refine k p z _ (fun b o e => ?_) hp rfl ⟨upd_same, ?_, ⟨Int.le_refl 0, by show (0 : Int) ≤ (ns.length : Int); omega, Int.le_refl 0, Int.le_refl 0, g0, by show g < 2147483587; omega⟩⟩
      · rw [upd_ne (ne_of_none e hp), upd_ne (ne_of_none e hl0), upd_ne (ne_of_none e hp)]
        exact e
      · show upd _ p _ l = _
        rw [upd_ne lp, upd_same]

theorem scDraw : FnScope ["_law_pen_here", "_law_many", "_law_cell", "_law_digit", "_law_mixed"] ["_law_pen_here", "_law_many"] (defScope sDraw) := ⟨rfl, rfl, rfl, by decide +kernel, rfl, by decide +kernel, by decide +kernel⟩
theorem fmod_in {x m : Int} (h : 0 < m) : 0 ≤ x.fmod m ∧ x.fmod m < m := ⟨by rw [Int.fmod_eq_emod_of_nonneg _ (Int.le_of_lt h)]; exact Int.emod_nonneg _ (Int.ne_of_gt h), Int.fmod_lt_of_pos x h⟩
theorem fdiv_nn {x m : Int} (h : 0 ≤ x) (hm : 0 < m) : 0 ≤ x.fdiv m := by
  rw [Int.fdiv_eq_ediv_of_nonneg _ (Int.le_of_lt hm)]
  exact Int.ediv_nonneg h (Int.le_of_lt hm)
theorem ok_draw {f : Addr} {fd : FuncData} (F : Fun K "_law_draw" "_law_draw" sDraw f fd) (T : PenTxt mg) : FnOk P w K mg base CX0 1 f fd ["_law_pen_here", "_law_many"] spDraw := by
  refine F.ok scDraw (fun vs H Q E h => ?_) (fun cdv A outer s H vs Q E hr h => ?_)
  · obtain ⟨p, z, m, rfl, _⟩ := h
    rfl
  · obtain ⟨p, z, m, rfl, Z, m0, m1, hc, k⟩ := h
    have hu := hu_of hr
    refine ⟨_, pss_cons (ps_dput hu (pv 0) pe_str (pe_op op_add (pe_dget hu (pv 0) pe_str (fun _ _ => rfl)) pe_int) rfl)
      (pss_cons (ps_if (PW.pt (pw_and (pt_cmpR op_eq (pe_dget hu (pv 0) pe_str (fun _ _ => rfl)) pe_int (nomark _)) (pw_and1 (pt_cmpR op_lt (pe_dget hu (pv 0) pe_str (fun _ _ => rfl)) (pe_callB call_len_seq (by rfl) T.len PySem.boot_len (pa_cons (pe_dget hu (pv 0) pe_str (fun _ _ => rfl)) pa_nil)) (nomark _)))))
        (pss_cons (ps_set (i := 2) scDraw.nd rfl (Or.inl rfl) (pe_ix ix_list (pe_dget hu (pv 0) pe_str (fun _ _ => rfl)) (pe_dget hu (pv 0) pe_str (fun _ _ => rfl)) (fun _ _ => rfl)))
        (pss_cons (ps_dput hu (pv 0) pe_str (pe_op op_add (pe_dget hu (pv 0) pe_str (fun _ _ => rfl)) pe_int) rfl)
        (pss_one (ps_if (pt_cmpR op_ge (pv 2) (pe_op op_pow pe_int pe_int) (nomark _))
          (pss_one (ps_dput hu (pv 0) pe_str (pe_op op_sub (pv 2) (pe_op op_pow pe_int pe_int)) rfl))
          (pss_one (ps_dput hu (pv 0) pe_str (pe_op op_mod (pe_callTy call_int1 (by rfl) T.int (by decide +kernel) (pa_cons (pe_op op_add (pe_op op_mul (pe_dget hu (pv 0) pe_str (fun _ _ => rfl)) pe_int) (pv 2)) pa_nil)) pe_int) rfl))))))
        pss_nil)
      (pss_cons (ps_if (pt_cmpR op_gt (pe_dget hu (pv 0) pe_str (fun _ _ => rfl)) pe_int (nomark _))
        (pss_cons (ps_set (i := 3) scDraw.nd rfl (Or.inl rfl) (pe_op op_modN (pe_callTy call_int1 (by rfl) T.int (by decide +kernel) (pa_cons (pe_dget hu (pv 0) pe_str (fun _ _ => rfl)) pa_nil)) (pv 1)))
        (pss_cons (ps_dput hu (pv 0) pe_str (pe_op op_fdivN (pe_dget hu (pv 0) pe_str (fun _ _ => rfl)) (pv 1)) rfl)
        (pss_one (ps_ret (pv 3)))))
        pss_nil)
      (pss_cons (ps_set (i := 4) scDraw.nd rfl (Or.inl rfl) (pe_op op_add (pe_op op_add (pe_dget hu (pv 0) pe_str (fun _ _ => rfl)) (pe_op op_mul (pe_dget hu (pv 0) pe_str (fun _ _ => rfl)) pe_int)) pe_int))
      (pss_one (ps_ret (pe_op op_modN (pe_op op_fdiv (pe_callTy call_int1 (by rfl) T.int (by decide +kernel) (pa_cons (pe_op op_mod (pe_op op_pow (pv 4) pe_int) pe_int) pa_nil)) pe_int) (pv 1))))))), ?_⟩
    -- count + 1
    refine ⟨_, rfl, p, _, rfl, dget Z.at_ (pen_co z), _, _, rfl, rfl, _, rfl, p, _, rfl, dput Z.at_ (pen_len z) (put_co z (z.c + 1)), ?_⟩
    have Z1 : PenAt (upd H p (.dK ({ z with c := z.c + 1 } : Pen).kvs)) p { z with c := z.c + 1 } := Z.put rfl rfl ⟨Z.ok.i0, Z.ok.i1, Z.ok.d0, by show (0 : Int) ≤ z.c + 1; have := Z.ok.c0; omega, Z.ok.f0, Z.ok.f1⟩
    have k1 : ∀ (r : Int) (z' : Pen), 0 ≤ r → r < m → Pen.Go 0 { z with c := z.c + 1 } z' → Q (.int r) (upd (upd H p (.dK ({ z with c := z.c + 1 } : Pen).kvs)) p (.dK z'.kvs)) := fun r z' r0 r1 g => by
      rw [upd_upd]
      exact k r z' r0 r1 ⟨g.l, g.ns, by have e : z'.c = (z.c + 1) + 0 := g.c; omega, g.ok⟩
    have hc1 : ({ z with c := z.c + 1 } : Pen).c ≤ 1000000000000 := by show z.c + 1 ≤ _; omega
    generalize ({ z with c := z.c + 1 } : Pen) = z1 at Z1 k1 hc1
    generalize upd H p (.dK z1.kvs) = H1 at Z1 k1
    have step : ∀ (Ha : Hp) (za zb : Pen), PenAt Ha p za → (∀ (r : Int) (z' : Pen), 0 ≤ r → r < m → Pen.Go 0 za z' → Q (.int r) (upd Ha p (.dK z'.kvs))) → za.c ≤ 1000000000000 →
        zb.l = za.l → zb.ns = za.ns → zb.c = za.c → zb.Ok →
        PenAt (upd Ha p (.dK zb.kvs)) p zb ∧ (∀ (r : Int) (z' : Pen), 0 ≤ r → r < m → Pen.Go 0 zb z' → Q (.int r) (upd (upd Ha p (.dK zb.kvs)) p (.dK z'.kvs))) ∧ zb.c ≤ 1000000000000 := fun Ha za zb Za ka ca el en ec ok =>
      ⟨Za.put el en ok, fun r z' r0 r1 g => by
        rw [upd_upd]
        exact ka r z' r0 r1 ⟨g.l.trans el, g.ns.trans en, by rw [g.c, ec], g.ok⟩, by rw [ec]; exact ca⟩
    -- if digits == 0 and at < len(cells)
    refine ⟨_, rfl, p, _, rfl, dget Z1.at_ (pen_di z1), rfl, _, rfl, ?_⟩
    refine ite2 (fun _ => ?_) (fun _ => ?_)
    · refine ⟨_, rfl, p, _, rfl, dget Z1.at_ (pen_at z1), _, rfl, p, _, rfl, dget Z1.at_ (pen_ce z1), z1.l, _, rfl, .inl (SqL.of Z1.cells), _, _, rfl, rfl, _, rfl, ?_⟩
      refine ite2 (fun lt => ?_) (fun _ => ?_)
      · have lt' : z1.i < (z1.ns.length : Int) := by
          have q := of_decide_eq_true lt
          rw [List.length_map] at q
          exact q
        have i0 := Z1.ok.i0
        have hn : z1.i.toNat < z1.ns.length := by omega
        refine ⟨_, rfl, p, _, rfl, dget Z1.at_ (pen_ce z1), _, rfl, p, _, rfl, dget Z1.at_ (pen_at z1), z1.l, _, _, V.int (z1.ns[z1.i.toNat]), rfl, rfl, SqL.of Z1.cells, atI_nat' i0 (by simp [hn]), ?_⟩
        generalize z1.ns[z1.i.toNat] = cell
        refine ⟨_, rfl, p, _, rfl, dget Z1.at_ (pen_at z1), _, _, rfl, rfl, _, rfl, p, _, rfl, dput Z1.at_ (pen_len z1) (put_at z1 (z1.i + 1)), ?_⟩
        obtain ⟨Z2, k2, hc2⟩ := step H1 z1 { z1 with i := z1.i + 1 } Z1 k1 hc1 rfl rfl rfl ⟨by show (0 : Int) ≤ z1.i + 1; omega, by show z1.i + 1 ≤ (z1.ns.length : Int); omega, Z1.ok.d0, Z1.ok.c0, Z1.ok.f0, Z1.ok.f1⟩
        generalize ({ z1 with i := z1.i + 1 } : Pen) = z2 at Z2 k2 hc2
        generalize upd H1 p (.dK z2.kvs) = H2 at Z2 k2
        refine ⟨_, rfl, _, _, rfl, rfl, ⟨by decide, by decide, by decide⟩, _, _, rfl, rfl, _, rfl, ?_⟩
        refine ite2 (fun ge => ?_) (fun _ => ?_)
        · have ge' := of_decide_eq_true ge
          refine ⟨_, rfl, _, _, rfl, rfl, ⟨by decide, by decide, by decide⟩, _, _, rfl, rfl, _, rfl, p, _, rfl, dput Z2.at_ (pen_len z2) (put_di z2 _), ?_⟩
          obtain ⟨Z3, k3, hc3⟩ := step H2 z2 { z2 with d := cell - 10 ^ (18 : Int).toNat } Z2 k2 hc2 rfl rfl rfl ⟨Z2.ok.i0, Z2.ok.i1, Int.sub_nonneg.mpr ge', Z2.ok.c0, Z2.ok.f0, Z2.ok.f1⟩
          generalize ({ z2 with d := cell - 10 ^ (18 : Int).toNat } : Pen) = z3 at Z3 k3 hc3
          generalize upd H2 p (.dK z3.kvs) = H3 at Z3 k3
          refine ⟨_, rfl, p, _, rfl, dget Z3.at_ (pen_di _), _, _, rfl, rfl, _, rfl, ?_⟩
          refine ite2 (fun dg => ?_) (fun _ => ?_)
          · have dg' := of_decide_eq_true dg
            refine ⟨_, rfl, p, _, rfl, dget Z3.at_ (pen_di _), .inl ⟨_, rfl, _, rfl, _, _, rfl, rfl, (by omega), ?_⟩⟩
            refine ⟨_, rfl, p, _, rfl, dget Z3.at_ (pen_di _), _, rfl, _, _, rfl, rfl, ⟨by omega, by omega⟩, _, rfl, p, _, rfl, dput Z3.at_ (pen_len _) (put_di _ _), ?_⟩
            refine ⟨_, rfl, ?_⟩
            exact k3 _ _ (fmod_in m0).1 (fmod_in m0).2 ⟨rfl, rfl, (Int.add_zero _).symm, ⟨Z3.ok.i0, Z3.ok.i1, fdiv_nn Z3.ok.d0 m0, Z3.ok.c0, Z3.ok.f0, Z3.ok.f1⟩⟩
          · have f0 := Z3.ok.f0
            have f1 := Z3.ok.f1
            have c0 := Z3.ok.c0
            refine ⟨_, rfl, p, _, rfl, dget Z3.at_ (pen_fo _), _, rfl, p, _, rfl, dget Z3.at_ (pen_co _), _, _, rfl, rfl, .inl ⟨by omega, by omega⟩, _, _, rfl, rfl, _, _, rfl, rfl, ?_⟩
            refine ⟨_, rfl, _, _, rfl, rfl, ⟨by decide, by decide, by omega⟩, _, _, rfl, rfl, (by show (0 : Int) < 2305843009213693951; decide), .inl ⟨_, rfl, _, _, rfl, rfl, ⟨by decide, by decide⟩, _, rfl, _, _, rfl, rfl, (by omega), ?_⟩⟩
            exact q_back (Q := Q) Z3.at_ (k3 _ _ (fmod_in m0).1 (fmod_in m0).2 ⟨rfl, rfl, (Int.add_zero _).symm, Z3.ok⟩)
        · have f0 := Z2.ok.f0
          have f1 := Z2.ok.f1
          refine ⟨_, rfl, p, _, rfl, dget Z2.at_ (pen_fo z2), _, _, rfl, rfl, .inl ⟨by omega, by omega⟩, _, rfl, _, _, rfl, rfl, .inl ⟨_, rfl, _, _, rfl, rfl, (by show (0 : Int) < 2147483587; decide), ?_⟩⟩
          refine ⟨_, rfl, p, _, rfl, dput Z2.at_ (pen_len z2) (put_fo z2 _), ?_⟩
          obtain ⟨Z3, k3, hc3⟩ := step H2 z2 { z2 with f := (z2.f * 69069 + cell) % 2147483587 } Z2 k2 hc2 rfl rfl rfl ⟨Z2.ok.i0, Z2.ok.i1, Z2.ok.d0, Z2.ok.c0, Int.emod_nonneg _ (by decide), Int.emod_lt_of_pos _ (by decide)⟩
          generalize ({ z2 with f := (z2.f * 69069 + cell) % 2147483587 } : Pen) = z3 at Z3 k3 hc3
          generalize upd H2 p (.dK z3.kvs) = H3 at Z3 k3
          refine ⟨_, rfl, p, _, rfl, dget Z3.at_ (pen_di _), _, _, rfl, rfl, _, rfl, ?_⟩
          refine ite2 (fun dg => ?_) (fun _ => ?_)
          · have dg' := of_decide_eq_true dg
            refine ⟨_, rfl, p, _, rfl, dget Z3.at_ (pen_di _), .inl ⟨_, rfl, _, rfl, _, _, rfl, rfl, (by omega), ?_⟩⟩
            refine ⟨_, rfl, p, _, rfl, dget Z3.at_ (pen_di _), _, rfl, _, _, rfl, rfl, ⟨by omega, by omega⟩, _, rfl, p, _, rfl, dput Z3.at_ (pen_len _) (put_di _ _), ?_⟩
            refine ⟨_, rfl, ?_⟩
            exact k3 _ _ (fmod_in m0).1 (fmod_in m0).2 ⟨rfl, rfl, (Int.add_zero _).symm, ⟨Z3.ok.i0, Z3.ok.i1, fdiv_nn Z3.ok.d0 m0, Z3.ok.c0, Z3.ok.f0, Z3.ok.f1⟩⟩
          · have f0 := Z3.ok.f0
            have f1 := Z3.ok.f1
            have c0 := Z3.ok.c0
            refine ⟨_, rfl, p, _, rfl, dget Z3.at_ (pen_fo _), _, rfl, p, _, rfl, dget Z3.at_ (pen_co _), _, _, rfl, rfl, .inl ⟨by omega, by omega⟩, _, _, rfl, rfl, _, _, rfl, rfl, ?_⟩
            refine ⟨_, rfl, _, _, rfl, rfl, ⟨by decide, by decide, by omega⟩, _, _, rfl, rfl, (by show (0 : Int) < 2305843009213693951; decide), .inl ⟨_, rfl, _, _, rfl, rfl, ⟨by decide, by decide⟩, _, rfl, _, _, rfl, rfl, (by omega), ?_⟩⟩
            exact q_back (Q := Q) Z3.at_ (k3 _ _ (fmod_in m0).1 (fmod_in m0).2 ⟨rfl, rfl, (Int.add_zero _).symm, Z3.ok⟩)
      · have Z3 := Z1
        have k3 := k1
        have hc3 := hc1
        refine ⟨_, rfl, p, _, rfl, dget Z3.at_ (pen_di _), _, _, rfl, rfl, _, rfl, ?_⟩
        refine ite2 (fun dg => ?_) (fun _ => ?_)
        · have dg' := of_decide_eq_true dg
          refine ⟨_, rfl, p, _, rfl, dget Z3.at_ (pen_di _), .inl ⟨_, rfl, _, rfl, _, _, rfl, rfl, (by omega), ?_⟩⟩
          refine ⟨_, rfl, p, _, rfl, dget Z3.at_ (pen_di _), _, rfl, _, _, rfl, rfl, ⟨by omega, by omega⟩, _, rfl, p, _, rfl, dput Z3.at_ (pen_len _) (put_di _ _), ?_⟩
          refine ⟨_, rfl, ?_⟩
          exact k3 _ _ (fmod_in m0).1 (fmod_in m0).2 ⟨rfl, rfl, (Int.add_zero _).symm, ⟨Z3.ok.i0, Z3.ok.i1, fdiv_nn Z3.ok.d0 m0, Z3.ok.c0, Z3.ok.f0, Z3.ok.f1⟩⟩
        · have f0 := Z3.ok.f0
          have f1 := Z3.ok.f1
          have c0 := Z3.ok.c0
          refine ⟨_, rfl, p, _, rfl, dget Z3.at_ (pen_fo _), _, rfl, p, _, rfl, dget Z3.at_ (pen_co _), _, _, rfl, rfl, .inl ⟨by omega, by omega⟩, _, _, rfl, rfl, _, _, rfl, rfl, ?_⟩
          refine ⟨_, rfl, _, _, rfl, rfl, ⟨by decide, by decide, by omega⟩, _, _, rfl, rfl, (by show (0 : Int) < 2305843009213693951; decide), .inl ⟨_, rfl, _, _, rfl, rfl, ⟨by decide, by decide⟩, _, rfl, _, _, rfl, rfl, (by omega), ?_⟩⟩
          exact q_back (Q := Q) Z3.at_ (k3 _ _ (fmod_in m0).1 (fmod_in m0).2 ⟨rfl, rfl, (Int.add_zero _).symm, Z3.ok⟩)
    · have Z3 := Z1
      have k3 := k1
      have hc3 := hc1
      refine ⟨_, rfl, p, _, rfl, dget Z3.at_ (pen_di _), _, _, rfl, rfl, _, rfl, ?_⟩
      refine ite2 (fun dg => ?_) (fun _ => ?_)
      · have dg' := of_decide_eq_true dg
        refine ⟨_, rfl, p, _, rfl, dget Z3.at_ (pen_di _), .inl ⟨_, rfl, _, rfl, _, _, rfl, rfl, (by omega), ?_⟩⟩
        refine ⟨_, rfl, p, _, rfl, dget Z3.at_ (pen_di _), _, rfl, _, _, rfl, rfl, ⟨by omega, by omega⟩, _, rfl, p, _, rfl, dput Z3.at_ (pen_len _) (put_di _ _), ?_⟩
        refine ⟨_, rfl, ?_⟩
        exact k3 _ _ (fmod_in m0).1 (fmod_in m0).2 ⟨rfl, rfl, (Int.add_zero _).symm, ⟨Z3.ok.i0, Z3.ok.i1, fdiv_nn Z3.ok.d0 m0, Z3.ok.c0, Z3.ok.f0, Z3.ok.f1⟩⟩
      · have f0 := Z3.ok.f0
        have f1 := Z3.ok.f1
        have c0 := Z3.ok.c0
        refine ⟨_, rfl, p, _, rfl, dget Z3.at_ (pen_fo _), _, rfl, p, _, rfl, dget Z3.at_ (pen_co _), _, _, rfl, rfl, .inl ⟨by omega, by omega⟩, _, _, rfl, rfl, _, _, rfl, rfl, ?_⟩
        refine ⟨_, rfl, _, _, rfl, rfl, ⟨by decide, by decide, by omega⟩, _, _, rfl, rfl, (by show (0 : Int) < 2305843009213693951; decide), .inl ⟨_, rfl, _, _, rfl, rfl, ⟨by decide, by decide⟩, _, rfl, _, _, rfl, rfl, (by omega), ?_⟩⟩
        exact q_back (Q := Q) Z3.at_ (k3 _ _ (fmod_in m0).1 (fmod_in m0).2 ⟨rfl, rfl, (Int.add_zero _).symm, Z3.ok⟩)

theorem scPick : FnScope ["_law_pen_here", "_law_some"] ["_law_pen_here", "_law_some"] (defScope sPick) := ⟨rfl, rfl, rfl, by decide +kernel, rfl, by decide +kernel, by decide +kernel⟩
theorem ok_pick {f fD : Addr} {fd fdD : FuncData} (F : Fun K "_law_pick" "_law_pick" sPick f fd) (T : PenTxt mg) (FD : Fun K "_law_draw" "_law_draw" sDraw fD fdD) (bD : Binds K fdD ["_law_pen_here", "_law_many"] []) (gD : mg "_law_draw" = some (.ref fD)) :
    FnOk P w K mg base CX0 2 f fd ["_law_pen_here", "_law_some"] (spPick K) := by
  have GD : FnOk P w K mg base CX0 1 fD fdD ["_law_pen_here", "_law_many"] spDraw := ok_draw FD T
  refine F.ok scPick (fun vs H Q E h => ?_) (fun cdv A outer s H vs Q E hr h => ?_)
  · obtain ⟨p, q, z, xs, rfl, _⟩ := h
    rfl
  · obtain ⟨p, q, z, xs, rfl, Z, hq, h0, h1, hc, k⟩ := h
    refine ⟨_, pss_one (ps_ret (pe_ix ix_list (pv 1) (pe_call GD hr rfl gD FD.kp bD .nil pass0 (pa_cons (pv 0) (pa_cons (pe_callB call_len_seq (by rfl) T.len PySem.boot_len (pa_cons (pv 1) pa_nil)) pa_nil))) (fun _ _ => rfl))), ?_⟩
    refine ⟨_, rfl, _, rfl, _, rfl, q, _, rfl, .inl (SqL.of hq), p, z, _, rfl, Z, by omega, by omega, hc, fun r z' r0 r1 g => ?_⟩
    have qp : q ≠ p := ne_of hq Z.at_ (by intro x; cases x)
    have hn : r.toNat < xs.length := by omega
    refine ⟨q, xs, r, xs[r.toNat], rfl, rfl, SqL.of (by rw [upd_ne qp]; exact hq), atI_nat' r0 (by simp [hn]), ?_⟩
    exact k _ z' (List.getElem_mem hn) g
end
end Nm
namespace Nm
open PySem PySem.Spec PyProof.Rows L2
/-! ### any value -/
def CPowW (i j : Int) : Prop := 0 ≤ j ∧ (Builtin.Int.intBits i : Int) * j ≤ 2 ^ 27
theorem op_powW {X : Cx} : OpR X (binaryOp .Pow) (rI CPowW fun i j => .int (i ^ j.toNat)) := opI fun _ _ _ _ _ _ _ hc q => pow_int hc.1 hc.2 q
/-- the pen's heap: all but the pen stays -/
structure PS (H0 : Hp) (p : Addr) (n : Int) (H : Hp) (z : Pen) : Prop where
  pen : PenAt H p z
  c : z.c ≤ n
  keep : ∀ b o, b ≠ p → H0 b = some o → H b = some o
  l : ∀ y, PenAt H0 p y → z.l = y.l
theorem PenAt.one {H : Hp} {p : Addr} {y z : Pen} (a : PenAt H p y) (b : PenAt H p z) : y.l = z.l := by
  have e := a.at_.symm.trans b.at_
  have e2 : y.kvs = z.kvs := by
    have q := Option.some.inj e
    exact HO.dK.inj q
  have e3 := (pen_ce y).symm.trans (e2 ▸ pen_ce z)
  exact V.ref.inj (Option.some.inj e3)
theorem PS.start {H : Hp} {p : Addr} {z : Pen} (h : PenAt H p z) : PS H p z.c H z := ⟨h, Int.le_refl _, fun _ _ _ e => e, fun _ k => h.one k⟩
theorem PS.same {H0 H H' : Hp} {p : Addr} {n : Int} {z : Pen} (h : PS H0 p n H z) (s : Same H H') : PS H0 p n H' z := ⟨h.pen.same s, h.c, fun b o nb e => s _ _ (h.keep b o nb e), h.l⟩
theorem PS.new {H0 H : Hp} {p q : Addr} {n : Int} {z : Pen} {o : HO} (h : PS H0 p n H z) (nq : H q = none) : PS H0 p n (upd H q o) z := h.same (same_new nq)
theorem PS.draw {H0 H : Hp} {p : Addr} {n : Int} {z z' : Pen} (h : PS H0 p n H z) (g : Pen.Go 1 z z') : PS H0 p (n + 1) (upd H p (.dK z'.kvs)) z' :=
  ⟨h.pen.put g.l g.ns g.ok, by have := g.c; have := h.c; omega, fun b o nb e => by rw [upd_ne nb]; exact h.keep b o nb e, fun y k => g.l.trans (h.l y k)⟩
theorem PS.le {H0 H : Hp} {p : Addr} {n m : Int} {z : Pen} (h : PS H0 p n H z) (k : n ≤ m) : PS H0 p m H z := ⟨h.pen, Int.le_trans h.c k, h.keep, h.l⟩
theorem PS.step {H0 H H' : Hp} {p : Addr} {n m : Int} {z z' : Pen} (h : PS H0 p n H z) (k : PS H p m H' z') : PS H0 p m H' z' := ⟨k.pen, k.c, fun b o nb e => k.keep b o nb (h.keep b o nb e), fun y q => (k.l z h.pen).trans (h.l y q)⟩
theorem PS.none {H0 H : Hp} {p a : Addr} {n : Int} {z : Pen} (h : PS H0 p n H z) (hp : H0 p ≠ none) (e : H a = Option.none) : H0 a = Option.none := by
  cases q : H0 a with
  | none => rfl
  | some o =>
    by_cases ap : a = p
    · rw [ap, h.pen.at_] at e
      cases e
    · rw [h.keep a o ap q] at e
      cases e
/-- what is new, through the pen's heap -/
theorem New.ps {H G H1 H2 : Hp} {p : Addr} {n : Int} {z : Pen} (m : New H G H1) (hp : H p ≠ none) (s : PS H1 p n H2 z) : New H G H2 := ⟨fun b o e => s.keep b o (fun q => by rw [q, m.ap p hp] at e; cases e) (m.in_ _ _ e), m.ap⟩
theorem New.dom {H0 H G H1 : Hp} (m : New H G H1) (d : ∀ a, H0 a ≠ none → H a ≠ none) : New H0 G H1 := ⟨m.in_, fun a ha => m.ap a (d a ha)⟩
theorem New.join2 {H G G2 H2 : Hp} (n : New H G H2) (m : New H G2 H2) : New H (joinH G G2) H2 := by
  refine ⟨fun b o e => ?_, fun a ha => by rw [join_none (n.ap a ha)]; exact m.ap a ha⟩
  cases g : G b with
  | none => rw [join_none g] at e; exact m.in_ _ _ e
  | some u =>
    rw [join_l _ _ g] at e
    rw [← Option.some.inj e]
    exact n.in_ _ _ g
mutual
def Tr.ok : Tr → Prop
  | .num _ => True
  | .mk m ps => PyData.strOk m = true ∧ Tr.okL ps
def Tr.okL : List Tr → Prop
  | [] => True
  | t :: r => t.ok ∧ Tr.okL r
end
theorem okL_app : ∀ {a b : List Tr}, Tr.okL a → Tr.okL b → Tr.okL (a ++ b)
  | [], _, _, h => h
  | _ :: _, _, h, k => ⟨h.1, okL_app h.2 k⟩
theorem depL_app : ∀ (a : List Tr) (b : List Tr) (n : Nat), Tr.depL a ≤ n → Tr.depL b ≤ n → Tr.depL (a ++ b) ≤ n
  | [], _, _, _, h => h
  | t :: r, b, n, h, k => by
    simp only [Tr.depL] at h
    have h1 : t.dep ≤ n := by omega
    have h2 : Tr.depL r ≤ n := by omega
    have ih := depL_app r b n h2 k
    show max t.dep (Tr.depL (r ++ b)) ≤ n
    omega
/-! ### the law's own values as data -/
mutual
def dOf : Tr → PyData
  | .num i => .int i
  | .mk m ts => .tuple [.str m, .list (dOfs ts)]
def dOfs : List Tr → List PyData
  | [] => []
  | t :: r => dOf t :: dOfs r
end
mutual
theorem dp_own {K : PySem.W.Frag} {H : Hp} : ∀ {t : Tr} {v : V}, OAt H v t → Dp K H v (dOf t)
  | .num _, _, .num i => .int i
  | .mk _ _, _, .mk eT el h => .tup (SqT.of eT) (.cons (.str _) (.cons (.lst (SqL.of el) (dps_own h)) .nil))
theorem dps_own {K : PySem.W.Frag} {H : Hp} : ∀ {ts : List Tr} {xs : List V}, OAts H xs ts → DpAll K H xs (dOfs ts)
  | [], _, .nil => .nil
  | _ :: _, _, .cons h r => .cons (dp_own h) (dps_own r)
end
mutual
theorem canLay_own : ∀ t : Tr, t.ok → (dOf t).canLay0 = true ∧ (dOf t).depth ≤ 2 * t.dep
  | .num _, _ => ⟨rfl, Nat.zero_le _⟩
  | .mk m ts, h => by
    obtain ⟨h1, h2⟩ := canLay_owns ts h.2
    have h0 := h.1
    refine ⟨by simp [dOf, PyData.canLay0, PyData.canLayAll0, h0, h1], ?_⟩
    simp only [dOf, PyData.depth, PyData.depthAll, Tr.dep]
    omega
theorem canLay_owns : ∀ ts : List Tr, Tr.okL ts → PyData.canLayAll0 (dOfs ts) = true ∧ PyData.depthAll (dOfs ts) ≤ 2 * Tr.depL ts
  | [], _ => ⟨rfl, Nat.zero_le _⟩
  | t :: r, h => by
    obtain ⟨h1, h2⟩ := canLay_own t h.1
    obtain ⟨h3, h4⟩ := canLay_owns r h.2
    refine ⟨by simp [dOfs, PyData.canLayAll0, h1, h3], ?_⟩
    simp only [dOfs, PyData.depthAll, Tr.depL]
    omega
end
theorem shaped_own {t : Tr} (h : t.ok) (d : t.dep ≤ 30) : SeqAt.shaped (dOf t) = true := by
  obtain ⟨h1, h2⟩ := canLay_own t h
  unfold SeqAt.shaped
  rw [h1, decide_eq_true (by omega)]
  rfl
mutual
theorem eqv_own : ∀ t u : Tr, PyData.eqv (dOf t) (dOf u) = decide (t = u)
  | .num i, .num j => by
    show (i == j) = _
    by_cases h : i = j
    · rw [h, decide_eq_true rfl]
      simp
    · rw [decide_eq_false (fun z => h (Tr.num.inj z))]
      simp [h]
  | .num _, .mk _ _ => by
    rw [decide_eq_false (by intro z; cases z)]
    simp [dOf, PyData.eqv]
  | .mk _ _, .num _ => by
    rw [decide_eq_false (by intro z; cases z)]
    simp [dOf, PyData.eqv]
  | .mk m ts, .mk m' us => by
    have ih := eqvs_own ts us
    by_cases h : m = m'
    · by_cases h2 : ts = us
      · rw [decide_eq_true (by rw [h, h2])]
        rw [decide_eq_true h2] at ih
        simp [dOf, PyData.eqv, PyData.eqvAll, h, ih]
      · rw [decide_eq_false (fun z => h2 (Tr.mk.inj z).2)]
        rw [decide_eq_false h2] at ih
        simp [dOf, PyData.eqv, PyData.eqvAll, ih]
    · rw [decide_eq_false (fun z => h (Tr.mk.inj z).1)]
      simp [dOf, PyData.eqv, PyData.eqvAll, h]
theorem eqvs_own : ∀ ts us : List Tr, PyData.eqvAll (dOfs ts) (dOfs us) = decide (ts = us)
  | [], [] => by simp [dOfs, PyData.eqvAll]
  | [], _ :: _ => by simp [dOfs, PyData.eqvAll]
  | _ :: _, [] => by simp [dOfs, PyData.eqvAll]
  | t :: r, u :: s => by
    have h1 := eqv_own t u
    have h2 := eqvs_own r s
    simp only [dOfs, PyData.eqvAll, h1, h2]
    by_cases e1 : t = u
    · by_cases e2 : r = s
      · simp [e1, e2]
      · simp [e1, e2]
    · simp [e1]
end
theorem PS.v {H0 H : Hp} {p C : Addr} {n : Int} {z y : Pen} {v : V} {t : Tr} (s : PS H0 p n H z) (hp : PenAt H0 p y) (h : VAt C H0 v t) : VAt C H v t :=
  h.mono (fun a dx fs q => s.keep _ _ (ne_of q hp.at_ (by intro z; cases z)) q) fun a xs q => s.keep _ _ (ne_of q hp.at_ (by intro z; cases z)) q
theorem PS.o {H0 H : Hp} {p : Addr} {n : Int} {z y : Pen} {v : V} {t : Tr} (s : PS H0 p n H z) (hp : PenAt H0 p y) (h : OAt H0 v t) : OAt H v t :=
  h.mono (fun a xs q => s.keep _ _ (ne_of q hp.at_ (by intro z; cases z)) q) fun a xs q => s.keep _ _ (ne_of q hp.at_ (by intro z; cases z)) q

mutual
theorem good_ok : ∀ t : Tr, t.good → t.ok
  | .num _, _ => trivial
  | .mk m ps, g => by
    unfold Tr.good at g
    refine ⟨?_, good_okL ps g.2⟩
    have h := (big_split g.1).2.2.2
    have lt : ∀ c ∈ codes sALL, c < 0x110000 := by
      have h : (codes sALL).all (fun c => decide (c < 0x110000)) = true := by decide +kernel
      intro c hc
      exact of_decide_eq_true (List.all_eq_true.mp h c hc)
    unfold PyData.strOk
    rw [← Array.all_toList, List.all_eq_true]
    intro c hc
    unfold allIn at h
    exact decide_eq_true (lt c (of_decide_eq_true (List.all_eq_true.mp h c hc)))
theorem good_okL : ∀ ps : List Tr, Tr.goodL ps → Tr.okL ps
  | [], _ => trivial
  | t :: r, g => by
    unfold Tr.goodL at g
    exact ⟨good_ok t g.1, good_okL r g.2⟩
end
end Nm
namespace Nm
open PySem PySem.Spec PyProof.Rows L2
def sgK : List (Key × V) := [(.inr "big", .str sBIG), (.inr "small", .str sSMA), (.inr "all", .str sALL)]
theorem sg_big : valV sgK (.inr "big") = some (.str sBIG) := by decide +kernel
theorem sg_small : valV sgK (.inr "small") = some (.str sSMA) := by decide +kernel
theorem sg_all : valV sgK (.inr "all") = some (.str sALL) := by decide +kernel
theorem sg_merge : mergeK [] [((.inr "big" : Key), V.str sBIG), (.inr "small", .str sSMA), (.inr "all", .str (sBIG ++ sSMA ++ "0123456789_"))] = sgK := by decide +kernel
def spSigns : Sp := fun vs H Q _ => vs = [] ∧ ∀ (d : Addr) (H' : Hp), Same H H' → H' d = some (.dK sgK) → Q (.ref d) H'
section
variable {P : Program} {w : World} {K : PySem.W.Frag} {mg : Str → Option Value} {base : Heap} {C fE : Addr}
abbrev sLsigns : Stmt := top 32
abbrev NLsigns : List Str := ["_law_big", "_law_small"]
abbrev PLsigns : List Str := []
theorem scLsigns : FnScope NLsigns PLsigns (defScope sLsigns) := ⟨rfl, rfl, rfl, by decide +kernel, rfl, by decide +kernel, by decide +kernel⟩

theorem ok_signs {f : Addr} {fd : FuncData} (F : Fun K "_law_signs" "_law_signs" sLsigns f fd) : FnOk P w K mg base CX0 1 f fd PLsigns spSigns := by
  refine F.ok scLsigns (fun vs H Q E h => ?_) (fun cdv A outer s H vs Q E hr h => ?_)
  · obtain ⟨rfl, _⟩ := h
    rfl
  · obtain ⟨rfl, k⟩ := h
    refine ⟨_, (pss_cons (ps_asg (pe_tup (pa_cons pe_str (pa_cons pe_str pa_nil))) (pg_tup (by rfl) (pgs_cons (pg_name (i := 0) scLsigns.nd rfl (Or.inl rfl)) (pgs_cons (pg_name (i := 1) scLsigns.nd rfl (Or.inl rfl)) pgs_nil))))
      (pss_one (ps_ret (pe_disp (pps_cons pe_str (pv 0) (pps_cons pe_str (pv 1) (pps_cons pe_str (pe_op op_add_str (pe_op op_add_str (pv 0) (pv 1)) pe_str) pps_nil))) (by rfl) (by rfl) (fun z => by cases z) (by decide))))), ?_⟩
    refine ⟨by show 2 ≤ sizeLine; decide, fun t0 n0 => ?_⟩
    have ht := upd_same (H := H) (a := t0) (o := .tup [.str sBIG, .str sSMA])
    have s0 := same_new (o := .tup [.str sBIG, .str sSMA]) n0
    refine ⟨t0, _, rfl, SqT.of ht, rfl, _, _, rfl, _, _, rfl, rfl, ?_⟩
    intro p hp
    refine ⟨.str sBIG, (by kernel_rfl), .str sSMA, (by kernel_rfl), .str sBIG, (by kernel_rfl), .str sSMA, (by kernel_rfl), _, _, rfl, rfl, (by decide +kernel), _, _, rfl, rfl, (by decide +kernel), upd_same, [(.inr "big", .str sBIG), (.inr "small", .str sSMA), (.inr "all", .str (sBIG ++ sSMA ++ "0123456789_"))], rfl, (by show 3 ≤ 15; decide), ?_⟩
    rw [sg_merge]
    refine k p _ (fun b o e => ?_) upd_same
    have e' := s0 b o e
    rw [upd_ne (ne_of_none e' hp), upd_ne (ne_of_none e' hp)]
    exact e'

end
end Nm
namespace Nm
open PySem PySem.Spec PyProof.Rows L2
/-! ### the law's own text of a value -/
open TL (joinL tl_join join_eq tl)
theorem joinL_wCL : ∀ (ts : List Tr) (p : List Nat), joinL [32] (p :: ts.map pC) = p ++ wCL ts
  | [], p => by
    show p = p ++ wCL []
    simp [wCL]
  | t :: r, p => by
    show p ++ ([32] ++ joinL [32] (pC t :: r.map pC)) = _
    rw [joinL_wCL r (pC t), wCL_cons]
    simp
theorem codes_joined (m : Str) (ts : List Tr) (ys : List Str) (h : ys.map codes = ts.map pC) : codes (Txt.join " " (m :: ys)) = codes m ++ wCL ts := by
  rw [join_eq]
  show tl (Str.join " " (m :: ys)) = _
  rw [tl_join, show tl (" " : Str) = [32] from by decide +kernel, List.map_cons]
  rw [show ys.map tl = ts.map pC from h]
  exact joinL_wCL ts (codes m)
theorem len_joined : ∀ (ts : List Tr) (ys : List Str), ys.map codes = ts.map pC → (ys.map (·.length)).sum + ys.length = (wCL ts).length
  | [], [], _ => by simp [wCL]
  | [], _ :: _, h => by simp at h
  | _ :: _, [], h => by simp at h
  | t :: r, y :: ys, h => by
    simp only [List.map_cons, List.cons.injEq] at h
    have ih := len_joined r ys h.2
    have e := len_codes y
    rw [h.1] at e
    rw [wCL_cons]
    simp only [List.map_cons, List.sum_cons, List.length_cons, List.length_append]
    omega
theorem eqv_nil (ts : List Tr) : PyData.eqv (.list (dOfs ts)) (.list []) = ts.isEmpty := by
  cases ts <;> simp [dOfs, PyData.eqv, PyData.eqvAll]
theorem shaped_owns {ts : List Tr} (h : Tr.okL ts) (d : Tr.depL ts ≤ 30) : SeqAt.shaped (.list (dOfs ts)) = true := by
  obtain ⟨h1, h2⟩ := canLay_owns ts h
  unfold SeqAt.shaped
  have h3 : (PyData.list (dOfs ts)).canLay0 = true := by simp [PyData.canLay0, h1]
  have h4 : (PyData.list (dOfs ts)).depth ≤ 64 := by simp only [PyData.depth]; omega
  rw [h3, decide_eq_true h4]
  rfl
theorem good_parts {m : Str} {ts : List Tr} (g : (Tr.mk m ts).good) : isBig m = true ∧ Tr.goodL ts := by
  unfold Tr.good at g
  exact g
def spLText (d : Nat) : Sp := fun vs H Q _ => ∃ (v : V) (t : Tr) (b : Bool), vs = [v, .bl b] ∧ OAt H v t ∧ t.dep ≤ d ∧ d ≤ 20 ∧ t.sz ≤ 2000 ∧ t.good ∧ ∀ (H' : Hp) (s : Str), Same H H' → codes s = (if b then wC t else pC t) → Q (.str s) H'
section
variable {P : Program} {w : World} {K : PySem.W.Frag} {mg : Str → Option Value} {base : Heap} {C fE : Addr}

abbrev sLvaluetext : Stmt := top 29
abbrev NLvaluetext : List Str := ["_law_value", "_law_is_outer", "_law_text", "_law_part"]
abbrev PLvaluetext : List Str := ["_law_value", "_law_is_outer"]
theorem scLvaluetext : FnScope NLvaluetext PLvaluetext (defScope sLvaluetext) := ⟨rfl, rfl, rfl, by decide +kernel, rfl, by decide +kernel, by decide +kernel⟩

theorem ok_ltext {f : Addr} {fd : FuncData} (F_law_value_text : Fun K "_law_value_text" "_law_value_text" sLvaluetext f fd) (T : VTxt mg) (b_law_value_text : Binds K fd ["_law_value", "_law_is_outer"] []) (g_law_value_text : mg "_law_value_text" = some (.ref f)) : ∀ d : Nat, FnOk P w K mg base CX0 (d + 1) f fd PLvaluetext (spLText d)
  | 0 => by
    refine F_law_value_text.ok scLvaluetext (fun vs H Q E h => ?_) (fun cdv A outer s H vs Q E hr h => ?_)
    · obtain ⟨v, t, b, rfl, _⟩ := h
      rfl
    · obtain ⟨v, t, b, rfl, _, hd, _⟩ := h
      exact absurd t.dep_pos (by omega)
  | d + 1 => by
    have G_law_value_text := ok_ltext F_law_value_text T b_law_value_text g_law_value_text d
    refine F_law_value_text.ok scLvaluetext (fun vs H Q E h => ?_) (fun cdv A outer s H vs Q E hr h => ?_)
    · obtain ⟨v, t, b, rfl, _⟩ := h
      rfl
    · obtain ⟨v, t, b, rfl, hv, hd, h20, hz, hg, k⟩ := h
      have hr1 := hr
      refine ⟨_, (pss_cons (ps_if (pt_val (pe_callB call_isi (by rfl) T.isinstance (by decide +kernel) (pa_cons (pv 0) (pa_cons (pe_bltn (v := .ty "int") (by rfl) T.int (by decide +kernel) rfl) pa_nil))))
      (pss_one (ps_ret (pe_callTy call_str_int (by rfl) T.str (by decide +kernel) (pa_cons (pv 0) pa_nil))))
      pss_nil)
      (pss_cons (ps_set (i := 2) scLvaluetext.nd rfl (Or.inl rfl) (pe_join pe_str (pe_op op_cat (pe_lst (pa_cons (pe_ix ix_tup (pv 0) pe_int (fun _ _ => rfl)) pa_nil)) (pe_lc (own := [("_law_part", 3)]) (g := (gName 3)) rfl scLvaluetext.nd (pi_list (pe_ix ix_tup (pv 0) pe_int (fun _ _ => rfl))) (blkOk_by (own := [("_law_part", 3)]) (N := NLvaluetext) (sc := defScope sLvaluetext) (by decide +kernel)) (fun _ _ _ _ _ => (pg_name (i := 3) scLvaluetext.nd rfl (Or.inl rfl))) (fun _ _ _ _ _ => pts_nil) (fun _ _ _ _ _ => (pe_call G_law_value_text hr1 rfl g_law_value_text F_law_value_text.kp b_law_value_text .nil pass0 (pa_cons (pv 3) (pa_cons pe_bl pa_nil))))))))
      (pss_one (ps_ret (pe_ifExp (PW.pt (pw_or (pt_val (pv 1)) (pw_or1 (pt_cmpR (op_eqD hr.units) (pe_ix ix_tup (pv 0) pe_int (fun _ _ => rfl)) (pe_lst pa_nil) (nomark _))))) (pv 2) (pe_op op_add_str (pe_op op_add_str pe_str (pv 2)) pe_str)))))), ?_⟩
      have lent := len_wC t hg
      cases hv with
      | num i =>
        refine ⟨.int i, (by kernel_rfl), _, _, _, _, true, rfl, .ty "int", .base (.int i), kit_ty (by decide +kernel), _, rfl, ?_⟩
        refine ite_yes rfl ?_
        have g1 := hg
        unfold Tr.good at g1
        refine ⟨.int i, (by kernel_rfl), i, rfl, num_log g1, k H _ (fun _ _ e => e) ?_⟩
        have e1 : wC (.num i) = numC i := by unfold wC; rfl
        have e2 : pC (.num i) = numC i := by unfold pC; rw [if_pos (by rfl), e1]
        rw [e1, e2]
        cases b <;> rfl
      | @mk Tp l m xs ts eT el hx =>
        obtain ⟨gm, gts⟩ := good_parts hg
        refine ⟨.ref Tp, (by kernel_rfl), _, _, _, _, false, rfl, .ty "int", .base (.tup eT), kit_ty (by decide +kernel), _, rfl, ?_⟩
        refine ite_no rfl ?_
        have szt : (Tr.mk m ts).sz = 1 + Tr.szL ts := by simp [Tr.sz]
        have dpt : (Tr.mk m ts).dep = 1 + Tr.depL ts := by simp [Tr.dep]
        have lts := szL_len ts
        have lx := hx.len
        have ewt : wC (Tr.mk m ts) = codes m ++ wCL ts := by rw [wC]
        refine ⟨⟨_, rfl⟩, ?_⟩
        refine ⟨.ref Tp, (by kernel_rfl), Tp, _, 0, .str m, rfl, rfl, SqT.of eT, rfl, by show 1 ≤ sizeLine; decide, fun q nq => ?_⟩
        have s1 := same_new (o := .lst [.str m]) nq
        have e1 := upd_same (H := H) (a := q) (o := .lst [.str m])
        generalize upd H q (.lst [.str m]) = H1 at s1 e1 ⊢
        refine ⟨.ref Tp, (by kernel_rfl), Tp, _, 1, .ref l, rfl, rfl, SqT.of (s1 _ _ eT), rfl, l, rfl, ⟨_, SqL.of (s1 _ _ el)⟩, ?_⟩
        intro D nD
        refine lc_list (K := K) (a := l) (xs := xs) (fun i H' => ∃ ys : List Str, H' D = some (.lst (ys.map V.str)) ∧ ys.map codes = (ts.take i).map pC ∧ ys.length = i ∧ Same H1 H') ⟨[], upd_same, rfl, rfl, same_new nD⟩ (fun i H' _ ⟨_, _, _, _, S⟩ => SqL.of (S _ _ (s1 _ _ el))) ?_ ?_
        · rintro i x H2 hi ⟨ys, hD, hy, ly, S⟩
          obtain ⟨u, hu, hxu⟩ := ((hx.same s1).same S).at hi
          have mu : u ∈ ts := List.mem_of_getElem? hu
          have li := (List.getElem?_eq_some_iff.mp hi).1
          refine ⟨rfl, ?_⟩
          have d1 := depL_mem mu
          have z1 := szL_mem mu
          refine ⟨x, (by kernel_rfl), x, u, false, rfl, hxu, (by omega), (by omega), (by omega), goodL_mem gts mu, fun H3 s S3 hs => ?_⟩
          have hD3 := S3 _ _ hD
          refine ⟨_, hD3, Nat.lt_of_le_of_lt (show (ys.map V.str).length ≤ 1000000 by rw [List.length_map]; omega) (by decide), ?_⟩
          have e1 : ts.take (i + 1) = ts.take i ++ [u] := by rw [List.take_add_one, hu]; rfl
          refine ⟨ys ++ [s], by rw [upd_same]; simp, ?_, by simp [ly], same_put (S.trans S3) nD⟩
          rw [e1, List.map_append, List.map_append, hy]
          show _ ++ [codes s] = _ ++ [pC u]
          rw [hs]
          rfl
        · rintro H2 ⟨ys, hD, hy, ly, S⟩
          rw [lx, List.take_length] at hy
          have lj := len_joined ts ys hy
          have cj := codes_joined m ts ys hy
          rw [ewt, List.length_append] at lent
          have lm := len_codes m
          refine ⟨q, D, _, _, rfl, rfl, S _ _ e1, hD, sz_of (by simp only [List.length_cons, List.length_nil, List.length_map]; omega), fun r nr => ?_⟩
          have s3 := same_new (o := .lst ([.str m] ++ ys.map V.str)) nr
          have S3 := (s1.trans S).trans s3
          refine ⟨" ", r, m :: ys, rfl, rfl, .inl (SqL.of upd_same), ?_, ?_⟩
          · simp only [List.map_cons, List.sum_cons, List.length_cons]
            rw [show (" " : Str).length = 1 from rfl]
            omega
          generalize Txt.join " " (m :: ys) = jt at cj ⊢
          generalize upd H2 r (.lst ([.str m] ++ ys.map V.str)) = H3 at s3 S3 ⊢
          have fin : ∀ H' s, Same H3 H' → codes s = (if b then wC (Tr.mk m ts) else pC (Tr.mk m ts)) → Q (.str s) H' := fun H' s S' hs => k H' s (S3.trans S') hs
          have ljt : jt.length ≤ 1000000 := by rw [len_codes, cj, List.length_append]; omega
          have l1 : (("(" : Str) ++ jt).length = 1 + jt.length := by
            show (("(" : Str).cps ++ jt.cps).size = _
            rw [Array.size_append]
            rfl
          have paren : ts.isEmpty = false → codes ((("(" : Str) ++ jt) ++ ")") = pC (Tr.mk m ts) := fun he => by
            show ((("(" : Str).cps ++ jt.cps) ++ (")" : Str).cps).toList = pC (Tr.mk m ts)
            rw [Array.toList_append, Array.toList_append, show jt.cps.toList = codes jt from rfl, cj]
            unfold pC
            rw [if_neg (by show ¬ ts.isEmpty = true; rw [he]; exact Bool.false_ne_true), ewt]
            rfl
          refine ⟨.bl b, (by kernel_rfl), _, rfl, ?_⟩
          cases b with
          | true =>
            refine ite_yes rfl ?_
            exact ⟨.str jt, (by kernel_rfl), fin _ _ (fun _ _ e => e) (by rw [cj]; exact ewt.symm)⟩
          | false =>
            refine ite_no rfl ?_
            have q3 := S3 _ _ eT
            refine ⟨.ref Tp, (by kernel_rfl), Tp, _, 1, .ref l, rfl, rfl, SqT.of q3, rfl, by show 0 ≤ sizeLine; decide, fun e ne => ?_⟩
            have s4 := same_new (o := .lst []) ne
            have S4 := S3.trans s4
            refine ⟨.list (dOfs ts), .list [], .lst (SqL.of (S4 _ _ el)) (dps_own (hx.same S4)), .lst (SqL.of upd_same) .nil, shaped_owns (good_okL ts gts) (by omega), by decide +kernel, _, rfl, ?_⟩
            rw [eqv_nil]
            cases he : ts.isEmpty with
            | true =>
              refine ite_yes rfl ?_
              refine ⟨.str jt, (by kernel_rfl), fin _ _ s4 ?_⟩
              rw [cj, ← ewt]
              show _ = pC (Tr.mk m ts)
              unfold pC
              rw [if_pos (show (Tr.mk m ts).parts.isEmpty = true from he)]
            | false =>
              refine ite_no rfl ?_
              refine ⟨.str jt, (by kernel_rfl), _, _, rfl, rfl, sz_of (by rw [show (Str.ofString "(").length = 1 from rfl]; omega), _, _, rfl, rfl, sz_of (by rw [l1, show (Str.ofString ")").length = 1 from rfl]; omega), ?_⟩
              exact fin _ _ s4 (paren he)
end
end Nm
namespace Nm
open PySem PySem.Spec PyProof.Rows L2
/-! ### fresh names -/
open TL (numL_lt)
theorem codes_app (a b : Str) : codes (a ++ b) = codes a ++ codes b := by
  show (a.cps ++ b.cps).toList = _
  rw [Array.toList_append]
theorem len_app (a b : Str) : (a ++ b).length = a.length + b.length := by
  show (a.cps ++ b.cps).size = _
  rw [Array.size_append]
  rfl
theorem allIn_app (a b s : Str) : allIn (a ++ b) s = (allIn a s && allIn b s) := by
  unfold allIn
  rw [codes_app, List.all_append]
/-- a big name under way -/
structure Nmw (s : Str) (n : Nat) : Prop where
  hd : ∃ c r, codes s = c :: r ∧ c ∈ codes sBIG
  al : allIn s sALL = true
  ln : s.length ≤ n
theorem Nmw.big {s : Str} {n : Nat} (h : Nmw s n) (k : n ≤ 24) : isBig s = true := by
  obtain ⟨c, r, e, m⟩ := h.hd
  refine big_of (fun z => ?_) (Nat.le_trans h.ln k) (by rw [hd_of e]; exact m) h.al
  rw [z] at e
  cases e
theorem Nmw.app {s t : Str} {n m : Nat} (h : Nmw s n) (a : allIn t sALL = true) (l : t.length ≤ m) : Nmw (s ++ t) (n + m) := by
  obtain ⟨c, r, e, k⟩ := h.hd
  refine ⟨⟨c, r ++ codes t, by rw [codes_app, e]; rfl, k⟩, by rw [allIn_app, h.al, a]; rfl, ?_⟩
  rw [len_app]
  have := h.ln
  omega
theorem cut_codes (s : Str) (n : Nat) : codes (cutS s none (some (n : Int))) = (codes s).take n := by
  show ((s.cps.toList.drop (HT.sIx s.length 0 none)).take (HT.sIx s.length s.length (some (n : Int)) - HT.sIx s.length 0 none)).toArray.toList = _
  rw [show HT.sIx s.length 0 none = 0 from rfl, HT.sIx_nat]
  have e := len_codes s
  simp only [List.drop_zero, Nat.sub_zero]
  rw [e]
  show (codes s).take (min n (codes s).length) = _
  rw [List.take_eq_take_iff]
  omega
theorem Nmw.cut {s : Str} {n : Nat} (h : Nmw s n) (k : Nat) (k0 : 0 < k) : Nmw (cutS s none (some (k : Int))) k := by
  obtain ⟨c, r, e, m⟩ := h.hd
  have hc := cut_codes s k
  refine ⟨⟨c, r.take (k - 1), ?_, m⟩, ?_, ?_⟩
  · rw [hc, e]
    obtain ⟨j, rfl⟩ : ∃ j, k = j + 1 := ⟨k - 1, by omega⟩
    rfl
  · have a := h.al
    unfold allIn at a ⊢
    rw [hc]
    rw [List.all_eq_true] at a ⊢
    exact fun x hx => a x (List.mem_of_mem_take hx)
  · rw [len_codes, hc, List.length_take]
    omega
theorem big_sign {c : Nat} (h : c ∈ codes sBIG) : Nmw (⟨#[c]⟩ : Str) 1 := by
  refine ⟨⟨c, [], rfl, h⟩, ?_, Nat.le_refl _⟩
  have sub : ∀ c ∈ codes sBIG, c ∈ codes sALL := by
    have h : (codes sBIG).all (fun c => decide (c ∈ codes sALL)) = true := by decide +kernel
    intro c hc
    exact of_decide_eq_true (List.all_eq_true.mp h c hc)
  unfold allIn
  show ([c].all _) = true
  rw [List.all_cons, decide_eq_true (sub c h)]
  rfl
theorem all_sign {c : Nat} (h : c ∈ codes sALL) : allIn (⟨#[c]⟩ : Str) sALL = true := by
  unfold allIn
  show ([c].all _) = true
  rw [List.all_cons, decide_eq_true h]
  rfl
theorem num_small : ∀ k : Nat, k < 5 → allIn (Str.ofString (toString ((k : Nat) : Int))) sALL = true ∧ (Str.ofString (toString ((k : Nat) : Int))).length ≤ 1
  | 0, _ => by decide +kernel
  | 1, _ => by decide +kernel
  | 2, _ => by decide +kernel
  | 3, _ => by decide +kernel
  | 4, _ => by decide +kernel
  | k + 5, h => absurd h (by omega)
theorem sign_of_list {z : Str} {v : V} (hv : v ∈ z.cps.toList.map fun c => V.str ⟨#[c]⟩) : ∃ c, c ∈ codes z ∧ v = .str ⟨#[c]⟩ := by
  obtain ⟨c, h, e⟩ := List.mem_map.mp hv
  exact ⟨c, h, e.symm⟩
def spFresh : Sp := fun vs H Q _ => ∃ (p q : Addr) (z y : Pen) (H0 : Hp) (n : Int), vs = [.ref p, .str "big", .ref q] ∧ PS H0 p n H z ∧ PenAt H0 p y ∧ H q = some (.lst []) ∧ H0 q = none ∧ n + 30 ≤ 1000000 ∧ ∀ (s : Str) (H' : Hp) (z' : Pen), isBig s = true → PS H0 p (n + 25) H' z' → Q (.str s) H'
theorem PS.ll {H0 H : Hp} {p q : Addr} {n : Int} {z : Pen} {o : HO} (h : PS H0 p n H z) (hp : H0 p ≠ Option.none) (e : H0 q = Option.none) (el : z.l ≠ q) : PS H0 p n (upd H q o) z := by
  have qp : q ≠ p := fun x => hp (x ▸ e)
  refine ⟨⟨by rw [upd_ne (Ne.symm qp)]; exact h.pen.at_, by rw [upd_ne el]; exact h.pen.cells, h.pen.ok⟩, h.c, fun b o nb k => ?_, h.l⟩
  rw [upd_ne (ne_of_none k e)]
  exact h.keep b o nb k
section
variable {P : Program} {w : World} {K : PySem.W.Frag} {mg : Str → Option Value} {base : Heap} {C fE : Addr}

abbrev sLfreshname : Stmt := top 33
abbrev NLfreshname : List Str := ["_law_pen_here", "_law_first", "_law_used", "_law_signs_here", "_law_name", "_law_lap", "_law_k", "_law_fresh"]
abbrev PLfreshname : List Str := ["_law_pen_here", "_law_first", "_law_used"]
theorem scLfreshname : FnScope NLfreshname PLfreshname (defScope sLfreshname) := ⟨rfl, rfl, rfl, by decide +kernel, rfl, by decide +kernel, by decide +kernel⟩

theorem ok_fresh {f fS fD fQ : Addr} {fd fdS fdD fdQ : FuncData} (F : Fun K "_law_fresh_name" "_law_fresh_name" sLfreshname f fd) (T : VTxt mg) (PT : PenTxt mg) (F_law_signs : Fun K "_law_signs" "_law_signs" sLsigns fS fdS) (b_law_signs : Binds K fdS [] []) (g_law_signs : mg "_law_signs" = some (.ref fS))
    (F_law_draw : Fun K "_law_draw" "_law_draw" sDraw fD fdD) (b_law_draw : Binds K fdD ["_law_pen_here", "_law_many"] []) (g_law_draw : mg "_law_draw" = some (.ref fD))
    (F_law_pick : Fun K "_law_pick" "_law_pick" sPick fQ fdQ) (b_law_pick : Binds K fdQ ["_law_pen_here", "_law_some"] []) (g_law_pick : mg "_law_pick" = some (.ref fQ)) : FnOk P w K mg base CX0 3 f fd PLfreshname spFresh := by
  have G_law_signs : FnOk P w K mg base CX0 2 fS fdS PLsigns spSigns := (ok_signs F_law_signs).mono (by decide)
  have G_law_pick : FnOk P w K mg base CX0 2 fQ fdQ ["_law_pen_here", "_law_some"] (spPick K) := ok_pick F_law_pick PT F_law_draw b_law_draw g_law_draw
  refine F.ok scLfreshname (fun vs H Q E h => ?_) (fun cdv A outer s H vs Q E hr h => ?_)
  · obtain ⟨p, q, z, y, H0, n, rfl, _⟩ := h
    rfl
  · obtain ⟨p, q, z, y, H0, n, rfl, S, Y, hq, q0, hn, k⟩ := h
    have hp : H0 p ≠ Option.none := by rw [Y.at_]; exact fun z => nomatch z
    have hr1 := hr
    have hu := hu_of hr
    refine ⟨_, (pss_cons (ps_set (i := 3) scLfreshname.nd rfl (Or.inl rfl) (pe_call0 G_law_signs hr1 rfl g_law_signs F_law_signs.kp b_law_signs .nil pass0))
      (pss_cons (ps_set (i := 4) scLfreshname.nd rfl (Or.inl rfl) (pe_call G_law_pick hr1 rfl g_law_pick F_law_pick.kp b_law_pick .nil pass0 (pa_cons (pv 0) (pa_cons (pe_callTy (call_list_txt rfl) (by rfl) T.list (by decide +kernel) (pa_cons (pe_dget hu (pv 3) (pv 1) (fun _ _ => rfl)) pa_nil)) pa_nil))))
      (pss_cons (ps_for PassesOwn.never rfl (pi_range1 rfl T.range (pa_cons (pe_call G_law_pick hr1 rfl g_law_pick F_law_pick.kp b_law_pick .nil pass0 (pa_cons (pv 0) (pa_cons (pe_lst (pa_cons pe_int (pa_cons pe_int (pa_cons pe_int (pa_cons pe_int (pa_cons pe_int (pa_cons pe_int pa_nil))))))) pa_nil))) pa_nil)) (pg_name (i := 5) scLfreshname.nd rfl (Or.inl rfl))
      (pss_one (ps_set (i := 4) scLfreshname.nd rfl (Or.inl rfl) (pe_op op_add_str (pv 4) (pe_call G_law_pick hr1 rfl g_law_pick F_law_pick.kp b_law_pick .nil pass0 (pa_cons (pv 0) (pa_cons (pe_callTy (call_list_txt rfl) (by rfl) T.list (by decide +kernel) (pa_cons (pe_dget hu (pv 3) pe_str (fun _ _ => rfl)) pa_nil)) pa_nil)))))))
      (pss_cons (ps_for PassesOwn.never rfl (pi_range1 rfl T.range (pa_cons (pe_op op_add (pe_callB call_len_seq (by rfl) T.len PySem.boot_len (pa_cons (pv 2) pa_nil)) pe_int) pa_nil)) (pg_name (i := 6) scLfreshname.nd rfl (Or.inl rfl))
      (pss_cons (ps_set (i := 7) scLfreshname.nd rfl (Or.inl rfl) (pe_ifExp (pt_cmpR op_eq (pv 6) pe_int (nomark _)) (pv 4) (pe_op op_add_str (pe_op op_add_str (pe_slice sl_str (pv 4) po_none (po_some pe_int)) pe_str) (pe_callTy call_str_int (by rfl) T.str (by decide +kernel) (pa_cons (pv 6) pa_nil)))))
      (pss_one (ps_if (PW.pt (pw_and (pt_cmpR op_notIn_seq (pv 7) (pv 2) (by rfl)) (pw_and1 (pt_cmpR op_notIn_seq (pv 7) (pe_lst (pa_cons pe_str (pa_cons pe_str (pa_cons pe_str (pa_cons pe_str (pa_cons pe_str (pa_cons pe_str (pa_cons pe_str (pa_cons pe_str pa_nil))))))))) (by rfl)))))
      (pss_cons (ps_expr (pe_bm PySem.F.plainAttrs_list PySem.F.slot_list_append PySem.F.type_list_append mt_append (pv 2) (pa_cons (pv 7) pa_nil)))
      (pss_one (ps_ret (pv 7))))
      pss_nil))))
      (pss_one (ps_ret (pv 4))))))), ?_⟩
    refine ⟨rfl, fun d H1 s1 hd1 => ?_⟩
    have S1 := S.same s1
    have hq1 := s1 _ _ hq
    have hdq : d ≠ q := ne_of hd1 hq1 (by intro z; cases z)
    have c1 := S1.c
    clear S s1 hq
    refine ⟨.ref p, (by kernel_rfl), .ref d, (by kernel_rfl), .str "big", (by kernel_rfl), d, .str sBIG, rfl, dget hd1 sg_big, sBIG, rfl, by decide +kernel, fun a na => ?_⟩
    refine ⟨p, a, z, _, rfl, (S1.new na).pen, upd_same, by decide +kernel, by decide +kernel, by omega, fun v z2 hv g2 => ?_⟩
    have S2 := (S1.new (o := .lst (sBIG.cps.toList.map fun c => V.str ⟨#[c]⟩)) na).draw g2
    have qp : q ≠ p := fun x => hp (x ▸ q0)
    have hd2 : upd (upd H1 a (.lst (sBIG.cps.toList.map fun c => V.str ⟨#[c]⟩))) p (.dK z2.kvs) d = some (.dK sgK) := by
      rw [upd_ne (ne_of hd1 S1.pen.at_ (fun x => ?_)), upd_ne (fun (x : d = a) => by rw [← x, hd1] at na; cases na)]
      · exact hd1
      · have e := congrArg (fun o => match o with | HO.dK l => l.length | _ => 0) x
        exact absurd e (by show ¬ (3 = 5); decide)
    have hq2 : upd (upd H1 a (.lst (sBIG.cps.toList.map fun c => V.str ⟨#[c]⟩))) p (.dK z2.kvs) q = some (.lst []) := by
      rw [upd_ne qp, upd_ne (fun (x : q = a) => by rw [← x, hq1] at na; cases na)]
      exact hq1
    clear na
    generalize upd (upd H1 a (.lst (sBIG.cps.toList.map fun c => V.str ⟨#[c]⟩))) p (.dK z2.kvs) = H2 at S2 hd2 hq2 ⊢
    obtain ⟨c, hc, rfl⟩ := sign_of_list hv
    have N2 := big_sign hc
    clear hv g2 hd1 hq1 S1
    have c2 := S2.c
    -- how many more
    refine ⟨.ref p, (by kernel_rfl), by show 6 ≤ sizeLine; decide, fun a na => ?_⟩
    refine ⟨p, a, z2, _, rfl, (S2.new na).pen, upd_same, by show 0 < 6; decide, by show 6 < 1073741824; decide, by omega, fun v z3 hv g3 => ?_⟩
    have S3 := (S2.new (o := .lst [.int 0, .int 1, .int 2, .int 5, .int 19, .int 23]) na).draw g3
    have aq : q ≠ a := fun x => by rw [← x, hq2] at na; cases na
    have ad : d ≠ a := fun x => by rw [← x, hd2] at na; cases na
    have dp : d ≠ p := ne_of hd2 S2.pen.at_ (fun x => by
      have e := congrArg (fun o => match o with | HO.dK l => l.length | _ => 0) x
      exact absurd e (by show ¬ (3 = 5); decide))
    have hd3 : upd (upd H2 a (.lst [.int 0, .int 1, .int 2, .int 5, .int 19, .int 23])) p (.dK z3.kvs) d = some (.dK sgK) := by rw [upd_ne dp, upd_ne ad]; exact hd2
    have hq3 : upd (upd H2 a (.lst [.int 0, .int 1, .int 2, .int 5, .int 19, .int 23])) p (.dK z3.kvs) q = some (.lst []) := by rw [upd_ne qp, upd_ne aq]; exact hq2
    obtain ⟨m, hm, rfl⟩ : ∃ m : Nat, m ≤ 23 ∧ v = .int (m : Int) := by
      simp only [List.mem_cons, List.not_mem_nil, or_false] at hv
      rcases hv with rfl | rfl | rfl | rfl | rfl | rfl
      · exact ⟨0, by decide, rfl⟩
      · exact ⟨1, by decide, rfl⟩
      · exact ⟨2, by decide, rfl⟩
      · exact ⟨5, by decide, rfl⟩
      · exact ⟨19, by decide, rfl⟩
      · exact ⟨23, by decide, rfl⟩
    clear hv g3 na
    generalize upd (upd H2 a (.lst [.int 0, .int 1, .int 2, .int 5, .int 19, .int 23])) p (.dK z3.kvs) = H3 at S3 hd3 hq3 ⊢
    clear S2 hd2 hq2 dp
    refine ⟨(m : Int), rfl, by omega, by omega, ?_⟩
    rw [Int.toNat_natCast]
    refine for_range (lo := 0) (n := m) (fun i σ H' => ∃ (s : Str) (z' : Pen) (v5 v6 v7 : Option V), σ = [some (.ref p), some (.str "big"), some (.ref q), some (.ref d), some (.str s), v5, v6, v7] ∧ Nmw s (1 + i) ∧ PS H0 p (n + 2 + (i : Int)) H' z' ∧ H' d = some (.dK sgK) ∧ H' q = some (.lst []))
      ⟨_, z3, none, none, none, rfl, N2, S3.le (by omega), hd3, hq3⟩ ?_ ?_
    · rintro i σ H4 hi ⟨s, z4, v5, v6, v7, rfl, N4, S4, hd4, hq4⟩
      have c4 := S4.c
      refine ⟨.str s, (by kernel_rfl), .ref p, (by kernel_rfl), .ref d, (by kernel_rfl), d, .str sALL, rfl, dget hd4 sg_all, sALL, rfl, by decide +kernel, fun a na => ?_⟩
      refine ⟨p, a, z4, _, rfl, (S4.new na).pen, upd_same, by decide +kernel, by decide +kernel, by omega, fun v z5 hv g5 => ?_⟩
      have S5 := (S4.new (o := .lst (sALL.cps.toList.map fun c => V.str ⟨#[c]⟩)) na).draw g5
      have aq : q ≠ a := fun x => by rw [← x, hq4] at na; cases na
      have ad : d ≠ a := fun x => by rw [← x, hd4] at na; cases na
      have dp : d ≠ p := ne_of hd4 S4.pen.at_ (fun x => by
        have e := congrArg (fun o => match o with | HO.dK l => l.length | _ => 0) x
        exact absurd e (by show ¬ (3 = 5); decide))
      obtain ⟨c5, hc5, rfl⟩ := sign_of_list hv
      have N5 := N4.app (all_sign hc5) (show (⟨#[c5]⟩ : Str).length ≤ 1 from Nat.le_refl _)
      have l4 := N4.ln
      refine ⟨s, ⟨#[c5]⟩, rfl, rfl, sz_of (by show s.length + 1 ≤ _; omega), ?_⟩
      exact ⟨_, z5, _, v6, v7, rfl, N5, S5.le (by omega), by rw [upd_ne dp, upd_ne ad]; exact hd4, by rw [upd_ne qp, upd_ne aq]; exact hq4⟩
    · rintro σ H4 ⟨s, z4, v5, v6, v7, rfl, N4, S4, hd4, hq4⟩
      have l4 := N4.ln
      have c4 := S4.c
      refine ⟨.ref q, (by kernel_rfl), q, _, rfl, .inl (SqL.of hq4), _, _, rfl, rfl, 5, rfl, by decide, by decide, ?_⟩
      refine for_range (lo := 0) (n := 5) (fun i σ H' => ∃ (v6 v7 : Option V), σ = [some (.ref p), some (.str "big"), some (.ref q), some (.ref d), some (.str s), v5, v6, v7] ∧ PS H0 p (n + 25) H' z4 ∧ H' q = some (.lst []))
        ⟨v6, v7, rfl, S4.le (by omega), hq4⟩ ?_ ?_
      · rintro i σ H5 hi ⟨v6, v7, rfl, S5, hq5⟩
        refine ⟨.int (0 + (i : Int)), (by kernel_rfl), rfl, _, rfl, ?_⟩
        by_cases i0 : i = 0
        · subst i0
          refine ite_yes rfl ?_
          refine ⟨.str s, (by kernel_rfl), ?_⟩
          have big := N4.big (show 1 + m ≤ 24 by omega)
          refine ⟨.str s, (by kernel_rfl), .ref q, (by kernel_rfl), q, _, rfl, .inl (SqL.of hq5), rfl, rfl, _, rfl, ?_⟩
          refine ite_yes rfl ?_
          refine ⟨.str s, (by kernel_rfl), by show 8 ≤ sizeLine; decide, fun a na => ?_⟩
          refine ⟨a, _, rfl, .inl (SqL.of upd_same), rfl, rfl, _, rfl, ?_⟩
          have S6 := S5.new (o := .lst [.str "kind", .str "fun", .str "let", .str "in", .str "Num", .str "Truth", .str "Yes", .str "No"]) na
          have hq6 := (same_new (o := .lst [.str "kind", .str "fun", .str "let", .str "in", .str "Num", .str "Truth", .str "Yes", .str "No"]) na) _ _ hq5
          generalize inV (V.str s) [V.str "kind", V.str "fun", V.str "let", V.str "in", V.str "Num", V.str "Truth", V.str "Yes", V.str "No"] = bb
          generalize upd H5 a (.lst [.str "kind", .str "fun", .str "let", .str "in", .str "Num", .str "Truth", .str "Yes", .str "No"]) = H6 at S6 hq6 ⊢
          cases bb with
          | true =>
            refine ite_no rfl ?_
            exact ⟨_, _, rfl, S6, hq6⟩
          | false =>
            refine ite_yes rfl ?_
            refine ⟨.ref q, (by kernel_rfl), .inl ⟨rfl, _, SqL.of hq6⟩, .str s, (by kernel_rfl), q, _, _, rfl, rfl, hq6, by show 0 < sizeLine; decide, ?_⟩
            have S7 := S6.ll (o := .lst [.str s]) hp q0 (fun x => by
              have e := S6.l y Y
              have c := Y.cells
              rw [← e, x, q0] at c
              cases c)
            exact ⟨.str s, (by kernel_rfl), k s _ z4 big S7⟩
        · refine ite_no (decide_eq_false (fun z => by have q := V.int.inj z; omega)) ?_
          obtain ⟨a1, a2⟩ := num_small i hi
          have N6 := ((N4.cut 18 (by decide)).app (t := "_") (m := 1) (by decide +kernel) (by decide)).app a1 a2
          have lc := (N4.cut 18 (by decide)).ln
          refine ⟨.str s, (by kernel_rfl), 18, rfl, s, rfl, sz_of (by omega), _, _, rfl, rfl, ?_, .int (0 + (i : Int)), (by kernel_rfl), (i : Int), by show [V.int (0 + (i : Int))] = [V.int (i : Int)]; rw [Int.zero_add], ?_, ?_⟩
          · refine sz_of ?_
            rw [show (Str.ofString "_").length = 1 from rfl]
            exact Nat.le_trans (Nat.add_le_add_right lc 1) (by decide)
          · exact Nat.lt_of_le_of_lt (Nat.log2_le_self _) (by show i < 1920; omega)
          refine ⟨_, _, rfl, rfl, ?_, ?_⟩
          · refine sz_of ?_
            rw [len_app, show (Str.ofString "_").length = 1 from rfl]
            have := Nat.add_le_add (Nat.add_le_add_right lc 1) a2
            exact Nat.le_trans this (by decide)
          have big := N6.big (by decide)
          generalize cutS s none (some ((18 : Nat) : Int)) ++ "_" ++ Str.ofString (toString ((i : Nat) : Int)) = fr at big ⊢
          refine ⟨.str fr, (by kernel_rfl), .ref q, (by kernel_rfl), q, _, rfl, .inl (SqL.of hq5), rfl, rfl, _, rfl, ?_⟩
          refine ite_yes rfl ?_
          refine ⟨.str fr, (by kernel_rfl), by show 8 ≤ sizeLine; decide, fun a na => ?_⟩
          refine ⟨a, _, rfl, .inl (SqL.of upd_same), rfl, rfl, _, rfl, ?_⟩
          have S6 := S5.new (o := .lst [.str "kind", .str "fun", .str "let", .str "in", .str "Num", .str "Truth", .str "Yes", .str "No"]) na
          have hq6 := (same_new (o := .lst [.str "kind", .str "fun", .str "let", .str "in", .str "Num", .str "Truth", .str "Yes", .str "No"]) na) _ _ hq5
          generalize inV (V.str fr) [V.str "kind", V.str "fun", V.str "let", V.str "in", V.str "Num", V.str "Truth", V.str "Yes", V.str "No"] = bb
          generalize upd H5 a (.lst [.str "kind", .str "fun", .str "let", .str "in", .str "Num", .str "Truth", .str "Yes", .str "No"]) = H6 at S6 hq6 ⊢
          cases bb with
          | true =>
            refine ite_no rfl ?_
            exact ⟨_, _, rfl, S6, hq6⟩
          | false =>
            refine ite_yes rfl ?_
            refine ⟨.ref q, (by kernel_rfl), .inl ⟨rfl, _, SqL.of hq6⟩, .str fr, (by kernel_rfl), q, _, _, rfl, rfl, hq6, by show 0 < sizeLine; decide, ?_⟩
            have S7 := S6.ll (o := .lst [.str fr]) hp q0 (fun x => by
              have e := S6.l y Y
              have c := Y.cells
              rw [← e, x, q0] at c
              cases c)
            exact ⟨.str fr, (by kernel_rfl), k fr _ z4 big S7⟩
      · rintro σ H5 ⟨v6, v7, rfl, S5, hq5⟩
        exact ⟨.str s, (by kernel_rfl), k s H5 z4 (N4.big (by omega)) S5⟩
end
end Nm
namespace Nm
open PySem PySem.Spec PyProof.Rows L2
/-! ### named values -/
theorem op_timesB {X : Cx} : OpR X (binaryOp .Mult) (fun x y H Q => ∃ (z : Str) (k : Int), x = .str z ∧ y = .int k ∧ 0 ≤ k ∧ k ≤ 1000000 ∧ z.length ≤ 1000000 ∧ z.length * k.toNat ≤ 1000000 ∧ Q (.str (timesS z k)) H) := by
  intro pins s σ H x y v u Q I rx ry h
  obtain ⟨z, k, rfl, rfl, h0, h1, hz, hm, q⟩ := h
  obtain ⟨t, rfl⟩ := rx
  obtain ⟨t', rfl⟩ := ry
  have big : ∀ n : Nat, n ≤ 1000000 → n ≤ sizeLine := fun n h => Nat.le_trans h (by decide)
  refine PySem.P.mul_str ?_ (fun hn _ => ?_) (fun _ _ => ?_) ?_
  · have a1 : ¬ k < -(2 ^ 63 : Int) := by omega
    have a2 : ¬ k ≥ 2 ^ 63 := by omega
    rw [decide_eq_false a1, decide_eq_false a2]
    rfl
  · have p1 : (1000000 : Int) ≤ (2 ^ 63 - 1) / k := Int.le_ediv_of_mul_le (by omega) (by omega)
    have p2 : ((z.length : Nat) : Int) ≤ 1000000 := by omega
    omega
  · exact decide_eq_false fun z => by
      have := big _ hm
      omega
  · unfold timesS at q
    by_cases c1 : k < 1
    · rw [if_pos c1] at q ⊢
      exact ⟨Nat.zero_le _, .str _, H, I.tok _, ⟨_, rfl⟩, q⟩
    · rw [if_neg c1] at q ⊢
      by_cases c2 : (k == 1 || z.length == 0) = true
      · rw [if_pos c2] at q ⊢
        exact ⟨.str z, H, I, ⟨_, rfl⟩, q⟩
      · rw [if_neg c2] at q ⊢
        refine ⟨?_, .str _, H, I.tok _, ⟨_, rfl⟩, q⟩
        have len : ∀ (n : Nat) (a : Array Nat) (acc : Array Nat), ((List.replicate n a).foldl (· ++ ·) acc).size = acc.size + n * a.size := by
          intro n
          induction n with
          | zero => intro a acc; simp
          | succ n ih =>
            intro a acc
            rw [List.replicate_succ, List.foldl_cons, ih, Array.size_append, Nat.succ_mul]
            omega
        show ((List.replicate k.toNat z.cps).foldl (· ++ ·) #[]).size ≤ sizeLine
        rw [len, Nat.mul_comm]
        have e : (#[] : Array Nat).size = 0 := rfl
        rw [e, Nat.zero_add]
        exact big _ hm
theorem codes_timesS (z : Str) (k : Nat) : codes (timesS z (k : Int)) = (List.replicate k (codes z)).flatten := by
  unfold timesS
  by_cases c1 : (k : Int) < 1
  · rw [if_pos c1]
    obtain rfl : k = 0 := by omega
    rfl
  · rw [if_neg c1]
    by_cases c2 : ((k : Int) == 1 || z.length == 0) = true
    · rw [if_pos c2]
      simp only [Bool.or_eq_true, beq_iff_eq] at c2
      rcases c2 with c2 | c2
      · obtain rfl : k = 1 := by omega
        simp
      · have e : codes z = [] := by
          rw [len_codes] at c2
          exact List.length_eq_zero_iff.mp c2
        rw [e]
        simp
    · rw [if_neg c2, Int.toNat_natCast]
      have f : ∀ (n : Nat) (a acc : Array Nat), ((List.replicate n a).foldl (· ++ ·) acc).toList = acc.toList ++ (List.replicate n a.toList).flatten := by
        intro n
        induction n with
        | zero => intro a acc; simp
        | succ n ih =>
          intro a acc
          rw [List.replicate_succ, List.foldl_cons, ih, Array.toList_append, List.replicate_succ, List.flatten_cons, List.append_assoc]
      show ((List.replicate k z.cps).foldl (· ++ ·) #[]).toList = _
      rw [f]
      simp
def mD : Nat → Nat
  | 0 => 4
  | d + 1 => 30 + 3 * mD d
def mB : Nat → Nat
  | 0 => 1
  | d + 1 => 1 + 3 * mB d
theorem mD_pos : ∀ d, 4 ≤ mD d
  | 0 => by decide
  | d + 1 => by show 4 ≤ 30 + 3 * mD d; omega
theorem mB_pos : ∀ d, 1 ≤ mB d
  | 0 => by decide
  | d + 1 => by show 1 ≤ 1 + 3 * mB d; omega
theorem zeros_val : ∀ (n acc : Nat), (List.replicate n 48).foldl (fun acc c => acc * 10 + (c - 48)) acc = acc * 10 ^ n
  | 0, acc => by simp
  | n + 1, acc => by
    rw [List.replicate_succ, List.foldl_cons, zeros_val n, Nat.pow_succ, Nat.sub_self, Nat.add_zero, Nat.mul_assoc, Nat.mul_comm 10]
theorem digit_text {dg : Int} (h : 1 ≤ dg ∧ dg ≤ 400) : intText? (("1" : Str) ++ timesS "0" (dg - 1)) = some (10 ^ (dg - 1).toNat) ∧ (("1" : Str) ++ timesS "0" (dg - 1)).length ≤ 640 ∧ (0 : Int) ≤ 10 ^ (dg - 1).toNat ∧ (10 : Int) ^ (dg - 1).toNat ≤ 10 ^ 399 := by
  obtain ⟨n, hn⟩ := Int.eq_ofNat_of_zero_le (show 0 ≤ dg - 1 by omega)
  rw [hn, Int.toNat_natCast]
  have ln : n ≤ 399 := by omega
  have ec : codes (("1" : Str) ++ timesS "0" (n : Int)) = 49 :: List.replicate n 48 := by
    rw [codes_app, codes_timesS, show codes ("1" : Str) = [49] from by decide +kernel, show codes ("0" : Str) = [48] from by decide +kernel]
    simp
  have ll : (("1" : Str) ++ timesS "0" (n : Int)).length = n + 1 := by rw [len_codes, ec]; simp
  generalize ("1" : Str) ++ timesS "0" (n : Int) = x at ec ll
  have ad : NumText.AllDigits (codes x) := by
    rw [ec]
    intro c hc
    rcases List.mem_cons.mp hc with rfl | hc
    · decide
    · have := List.eq_of_mem_replicate hc
      omega
  have q := intText_digits (x := x) ad (by rw [show x.cps.toList = codes x from rfl, ec]; exact fun z => nomatch z) (by omega)
  rw [show x.cps.toList = codes x from rfl, ec] at q
  have v : NumText.digitsVal (49 :: List.replicate n 48) = 10 ^ n := by
    show (List.replicate n 48).foldl (fun acc c => acc * 10 + (c - 48)) (0 * 10 + (49 - 48)) = _
    rw [zeros_val]
    simp
  rw [v] at q
  have pp : (((10 ^ n : Nat) : Nat) : Int) = 10 ^ n := by simp
  rw [pp] at q
  have mono : (10 : Nat) ^ n ≤ 10 ^ 399 := Nat.pow_le_pow_right (by decide) ln
  refine ⟨q, by omega, by rw [← pp]; exact Int.natCast_nonneg _, ?_⟩
  rw [← pp]
  have p2 : (((10 ^ 399 : Nat) : Nat) : Int) = 10 ^ 399 := by simp
  rw [← p2]
  exact Int.ofNat_le.mpr mono
def spNamed (d : Nat) : Sp := fun vs H Q _ => ∃ (p : Addr) (z : Pen), vs = [.ref p, .int (d : Int)] ∧ PenAt H p z ∧ z.c + mD d ≤ 900000 ∧
  ∀ (y : V) (t : Tr) (H' G : Hp) (z' : Pen), PS H p (z.c + mD d) H' z' → New H G H' → OAt G y t → t.dep ≤ d + 1 → t.sz ≤ mB d → t.good → Q y H'
def spNamedN (n : Nat) : Sp := fun vs H Q E => ∃ d : Nat, d < n ∧ spNamed d vs H Q E
section
variable {P : Program} {w : World} {K : PySem.W.Frag} {mg : Str → Option Value} {base : Heap} {C fE : Addr}

abbrev sLnamedvalue : Stmt := top 34
abbrev NLnamedvalue : List Str := ["_law_pen_here", "_law_depth", "_law_digits", "_law_number", "_law_parts", "_law_k"]
abbrev PLnamedvalue : List Str := ["_law_pen_here", "_law_depth"]
theorem scLnamedvalue : FnScope NLnamedvalue PLnamedvalue (defScope sLnamedvalue) := ⟨rfl, rfl, rfl, by decide +kernel, rfl, by decide +kernel, by decide +kernel⟩

theorem ok_named {f fD fQ fS fF : Addr} {fd fdD fdQ fdS fdF : FuncData} (F_law_named_value : Fun K "_law_named_value" "_law_named_value" sLnamedvalue f fd) (T : VTxt mg) (PT : PenTxt mg)
    (F_law_signs : Fun K "_law_signs" "_law_signs" sLsigns fS fdS) (b_law_signs : Binds K fdS [] []) (g_law_signs : mg "_law_signs" = some (.ref fS))
    (F_law_fresh_name : Fun K "_law_fresh_name" "_law_fresh_name" sLfreshname fF fdF) (b_law_fresh_name : Binds K fdF PLfreshname []) (g_law_fresh_name : mg "_law_fresh_name" = some (.ref fF))
    (F_law_draw : Fun K "_law_draw" "_law_draw" sDraw fD fdD) (b_law_draw : Binds K fdD ["_law_pen_here", "_law_many"] []) (g_law_draw : mg "_law_draw" = some (.ref fD))
    (F_law_pick : Fun K "_law_pick" "_law_pick" sPick fQ fdQ) (b_law_pick : Binds K fdQ ["_law_pen_here", "_law_some"] []) (g_law_pick : mg "_law_pick" = some (.ref fQ))
    (b_law_named_value : Binds K fd ["_law_pen_here", "_law_depth"] []) (g_law_named_value : mg "_law_named_value" = some (.ref f)) : ∀ n : Nat, FnOk P w K mg base CX0 (n + 4) f fd PLnamedvalue (spNamedN n)
  | 0 => by
    refine F_law_named_value.ok scLnamedvalue (fun vs H Q E h => ?_) (fun cdv A outer s H vs Q E hr h => ?_)
    · obtain ⟨d, hd, _⟩ := h
      exact absurd hd (Nat.not_lt_zero _)
    · obtain ⟨d, hd, _⟩ := h
      exact absurd hd (Nat.not_lt_zero _)
  | n + 1 => by
    have G_law_named_value := ok_named F_law_named_value T PT F_law_signs b_law_signs g_law_signs F_law_fresh_name b_law_fresh_name g_law_fresh_name F_law_draw b_law_draw g_law_draw F_law_pick b_law_pick g_law_pick b_law_named_value g_law_named_value n
    have G_law_draw : FnOk P w K mg base CX0 (n + 4) fD fdD ["_law_pen_here", "_law_many"] spDraw := (ok_draw F_law_draw PT).mono (by omega)
    have G_law_pick : FnOk P w K mg base CX0 (n + 4) fQ fdQ ["_law_pen_here", "_law_some"] (spPick K) := (ok_pick F_law_pick PT F_law_draw b_law_draw g_law_draw).mono (by omega)
    have G_law_fresh_name : FnOk P w K mg base CX0 (n + 4) fF fdF PLfreshname spFresh := (ok_fresh F_law_fresh_name T PT F_law_signs b_law_signs g_law_signs F_law_draw b_law_draw g_law_draw F_law_pick b_law_pick g_law_pick).mono (by omega)
    refine F_law_named_value.ok scLnamedvalue (fun vs H Q E h => ?_) (fun cdv A outer s H vs Q E hr h => ?_)
    · obtain ⟨d, hd, p, z, rfl, _⟩ := h
      rfl
    · obtain ⟨d, hd, p, z, rfl, Z, hc, k⟩ := h
      have hr1 := hr
      have hp : H p ≠ Option.none := by rw [Z.at_]; exact fun z => nomatch z
      have z0 := Z.ok.c0
      refine ⟨_, (pss_cons (ps_if (PW.pt (pw_or (pt_cmpR op_eq (pv 1) pe_int (nomark _)) (pw_or1 (pt_cmpR op_eq (pe_call G_law_draw hr1 rfl g_law_draw F_law_draw.kp b_law_draw .nil pass0 (pa_cons (pv 0) (pa_cons pe_int pa_nil))) pe_int (nomark _)))))
      (pss_cons (ps_set (i := 2) scLnamedvalue.nd rfl (Or.inl rfl) (pe_call G_law_pick hr1 rfl g_law_pick F_law_pick.kp b_law_pick .nil pass0 (pa_cons (pv 0) (pa_cons (pe_lst (pa_cons pe_int (pa_cons pe_int (pa_cons pe_int (pa_cons pe_int (pa_cons pe_int pa_nil)))))) pa_nil))))
      (pss_cons (ps_set (i := 3) scLnamedvalue.nd rfl (Or.inl rfl) (pe_op op_add (pe_callTy call_int_str (by rfl) T.int (by decide +kernel) (pa_cons (pe_op op_add_str pe_str (pe_op op_timesB pe_str (pe_op op_sub (pv 2) pe_int))) pa_nil)) (pe_call G_law_draw hr1 rfl g_law_draw F_law_draw.kp b_law_draw .nil pass0 (pa_cons (pv 0) (pa_cons pe_int pa_nil)))))
      (pss_one (ps_ret (pe_call G_law_pick hr1 rfl g_law_pick F_law_pick.kp b_law_pick .nil pass0 (pa_cons (pv 0) (pa_cons (pe_lst (pa_cons (pv 3) (pa_cons (pe_un un_neg (pv 3)) (pa_cons pe_int pa_nil)))) pa_nil)))))))
      pss_nil)
      (pss_cons (ps_setLc (i := 4) (own := [("_law_k", 5)]) (g := (gName 5)) rfl scLnamedvalue.nd rfl rfl (sw_true rfl rfl rfl (by decide +kernel)) (pi_range1 rfl T.range (pa_cons (pe_call G_law_pick hr1 rfl g_law_pick F_law_pick.kp b_law_pick .nil pass0 (pa_cons (pv 0) (pa_cons (pe_lst (pa_cons pe_int (pa_cons pe_int (pa_cons pe_int (pa_cons pe_int pa_nil))))) pa_nil))) pa_nil)) (blkOk_by (own := [("_law_k", 5)]) (N := NLnamedvalue) (sc := defScope sLnamedvalue) (by decide +kernel)) (fun _ _ _ _ _ => (pg_name (i := 5) scLnamedvalue.nd rfl (Or.inl rfl))) (fun _ _ _ _ _ => pts_nil) (fun _ _ _ _ _ => (pe_call G_law_named_value hr1 rfl g_law_named_value F_law_named_value.kp b_law_named_value .nil pass0 (pa_cons (pv 0) (pa_cons (pe_op op_sub (pv 1) pe_int) pa_nil)))))
      (pss_one (ps_ret (pe_tup (pa_cons (pe_call G_law_fresh_name hr1 rfl g_law_fresh_name F_law_fresh_name.kp b_law_fresh_name .nil pass0 (pa_cons (pv 0) (pa_cons pe_str (pa_cons (pe_lst pa_nil) pa_nil)))) (pa_cons (pv 4) pa_nil))))))), ?_⟩
      have S0 := PS.start Z
      have pos := mD_pos d
      refine ⟨.int (d : Int), (by kernel_rfl), rfl, _, rfl, ?_⟩
      cases d with
      | zero =>
        refine ite_yes rfl ?_
        refine ite_yes rfl ?_
        have eN : mD 0 = 4 := rfl
        have k' := k
        obtain ⟨z1, hz1⟩ : ∃ z1, z1 = z := ⟨z, rfl⟩
        obtain ⟨H1, hH1⟩ : ∃ H1, H1 = H := ⟨H, rfl⟩
        have S1 : PS H p z.c H1 z1 := by rw [hz1, hH1]; exact S0
        have c1 := S1.c
        rw [← hH1]
        refine ⟨.ref p, (by kernel_rfl), by show 5 ≤ sizeLine; decide, fun q nq => ?_⟩
        have S2 := S1.new (o := .lst [.int 1, .int 2, .int 18, .int 399, .int 400]) nq
        refine ⟨p, q, z1, _, rfl, S2.pen, upd_same, by show 0 < 5; decide, by show 5 < 1073741824; decide, by omega, fun v z3 hv g3 => ?_⟩
        have S3 := S2.draw g3
        generalize upd (upd H1 q (.lst [.int 1, .int 2, .int 18, .int 399, .int 400])) p (.dK z3.kvs) = H3 at S3 ⊢
        obtain ⟨dg, hdg, rfl⟩ : ∃ dg : Int, (dg = 1 ∨ dg = 2 ∨ dg = 18 ∨ dg = 399 ∨ dg = 400) ∧ v = .int dg := by
          simp only [List.mem_cons, List.not_mem_nil, or_false] at hv
          rcases hv with rfl | rfl | rfl | rfl | rfl
          · exact ⟨1, .inl rfl, rfl⟩
          · exact ⟨2, .inr (.inl rfl), rfl⟩
          · exact ⟨18, .inr (.inr (.inl rfl)), rfl⟩
          · exact ⟨399, .inr (.inr (.inr (.inl rfl))), rfl⟩
          · exact ⟨400, .inr (.inr (.inr (.inr rfl))), rfl⟩
        obtain ⟨t1, t2, t3, t4⟩ := digit_text (dg := dg) (by omega)
        have b1 : 0 ≤ dg - 1 ∧ dg - 1 ≤ 399 := by omega
        clear hv g3 nq S2
        have c3 := S3.c
        have l0 : ("0" : Str).length = 1 := rfl
        have l1 : ("1" : Str).length = 1 := rfl
        refine ⟨.int dg, (by kernel_rfl), dg, 1, rfl, rfl, "0", dg - 1, rfl, rfl, b1.1, by omega, by rw [l0]; decide, by rw [l0]; omega, "1", _, rfl, rfl, ?_, _, _, rfl, t1, t2, ?_⟩
        · refine sz_of ?_
          rw [len_app] at t2
          omega
        generalize (10 : Int) ^ (dg - 1).toNat = nn at t3 t4
        refine ⟨.ref p, (by kernel_rfl), p, z3, 9, rfl, S3.pen, by decide, by decide, by omega, fun dr z4 r0 r1 g4 => ?_⟩
        have S4 := S3.draw g4
        generalize upd H3 p (.dK z4.kvs) = H4 at S4 ⊢
        have c4 := S4.c
        refine ⟨nn, dr, rfl, rfl, ?_⟩
        refine ⟨.ref p, (by kernel_rfl), .int (nn + dr), (by kernel_rfl), .int (nn + dr), (by kernel_rfl), nn + dr, rfl, by show 3 ≤ sizeLine; decide, fun q nq => ?_⟩
        have S5 := S4.new (o := .lst [.int (nn + dr), .int (-(nn + dr)), .int 0]) nq
        refine ⟨p, q, z4, _, rfl, S5.pen, upd_same, by show 0 < 3; decide, by show 3 < 1073741824; decide, by omega, fun v z6 hv g6 => ?_⟩
        have S6 := S5.draw g6
        have hlt : nn + dr < 10 ^ 400 := Int.lt_of_le_of_lt (Int.add_le_add t4 (show dr ≤ 9 by omega)) (by decide +kernel)
        have num : ∀ i : Int, i.natAbs < 10 ^ 400 → Q (.int i) (upd (upd H4 q (.lst [.int (nn + dr), .int (-(nn + dr)), .int 0])) p (.dK z6.kvs)) := fun i hi =>
          k (.int i) (.num i) _ (fun _ => Option.none) z6 (S6.le (by omega)) new_none (.num i) (by show 1 ≤ _; omega) (mB_pos _) (by unfold Tr.good; exact hi)
        have pw : (((10 ^ 400 : Nat) : Nat) : Int) = 10 ^ 400 := by norm_cast
        generalize (10 : Nat) ^ 400 = big at *
        simp only [List.mem_cons, List.not_mem_nil, or_false] at hv
        rcases hv with rfl | rfl | rfl
        · exact num _ (by omega)
        · exact num _ (by omega)
        · exact num _ (by omega)
      | succ d =>
        refine ite_no (decide_eq_false fun z => by have q := V.int.inj z; omega) ?_
        refine ⟨.ref p, (by kernel_rfl), p, z, 3, rfl, Z, by decide, by decide, by omega, fun way z1 _ _ g1 => ?_⟩
        have S1 := S0.draw g1
        generalize upd H p (.dK z1.kvs) = H1 at S1 ⊢
        have c1 := S1.c
        have eN : mD (d + 1) = 30 + 3 * mD d := rfl
        have eB : mB (d + 1) = 1 + 3 * mB d := rfl
        refine ⟨rfl, _, rfl, ?_⟩
        refine ite2 (fun _ => ?_) (fun _ => ?_)
        · skip
          refine ⟨.ref p, (by kernel_rfl), by show 5 ≤ sizeLine; decide, fun q nq => ?_⟩
          have S2 := S1.new (o := .lst [.int 1, .int 2, .int 18, .int 399, .int 400]) nq
          refine ⟨p, q, z1, _, rfl, S2.pen, upd_same, by show 0 < 5; decide, by show 5 < 1073741824; decide, by omega, fun v z3 hv g3 => ?_⟩
          have S3 := S2.draw g3
          generalize upd (upd H1 q (.lst [.int 1, .int 2, .int 18, .int 399, .int 400])) p (.dK z3.kvs) = H3 at S3 ⊢
          obtain ⟨dg, hdg, rfl⟩ : ∃ dg : Int, (dg = 1 ∨ dg = 2 ∨ dg = 18 ∨ dg = 399 ∨ dg = 400) ∧ v = .int dg := by
            simp only [List.mem_cons, List.not_mem_nil, or_false] at hv
            rcases hv with rfl | rfl | rfl | rfl | rfl
            · exact ⟨1, .inl rfl, rfl⟩
            · exact ⟨2, .inr (.inl rfl), rfl⟩
            · exact ⟨18, .inr (.inr (.inl rfl)), rfl⟩
            · exact ⟨399, .inr (.inr (.inr (.inl rfl))), rfl⟩
            · exact ⟨400, .inr (.inr (.inr (.inr rfl))), rfl⟩
          obtain ⟨t1, t2, t3, t4⟩ := digit_text (dg := dg) (by omega)
          have b1 : 0 ≤ dg - 1 ∧ dg - 1 ≤ 399 := by omega
          clear hv g3 nq S2
          have c3 := S3.c
          have l0 : ("0" : Str).length = 1 := rfl
          have l1 : ("1" : Str).length = 1 := rfl
          refine ⟨.int dg, (by kernel_rfl), dg, 1, rfl, rfl, "0", dg - 1, rfl, rfl, b1.1, by omega, by rw [l0]; decide, by rw [l0]; omega, "1", _, rfl, rfl, ?_, _, _, rfl, t1, t2, ?_⟩
          · refine sz_of ?_
            rw [len_app] at t2
            omega
          generalize (10 : Int) ^ (dg - 1).toNat = nn at t3 t4
          refine ⟨.ref p, (by kernel_rfl), p, z3, 9, rfl, S3.pen, by decide, by decide, by omega, fun dr z4 r0 r1 g4 => ?_⟩
          have S4 := S3.draw g4
          generalize upd H3 p (.dK z4.kvs) = H4 at S4 ⊢
          have c4 := S4.c
          refine ⟨nn, dr, rfl, rfl, ?_⟩
          refine ⟨.ref p, (by kernel_rfl), .int (nn + dr), (by kernel_rfl), .int (nn + dr), (by kernel_rfl), nn + dr, rfl, by show 3 ≤ sizeLine; decide, fun q nq => ?_⟩
          have S5 := S4.new (o := .lst [.int (nn + dr), .int (-(nn + dr)), .int 0]) nq
          refine ⟨p, q, z4, _, rfl, S5.pen, upd_same, by show 0 < 3; decide, by show 3 < 1073741824; decide, by omega, fun v z6 hv g6 => ?_⟩
          have S6 := S5.draw g6
          have hlt : nn + dr < 10 ^ 400 := Int.lt_of_le_of_lt (Int.add_le_add t4 (show dr ≤ 9 by omega)) (by decide +kernel)
          have num : ∀ i : Int, i.natAbs < 10 ^ 400 → Q (.int i) (upd (upd H4 q (.lst [.int (nn + dr), .int (-(nn + dr)), .int 0])) p (.dK z6.kvs)) := fun i hi =>
            k (.int i) (.num i) _ (fun _ => Option.none) z6 (S6.le (by omega)) new_none (.num i) (by show 1 ≤ _; omega) (mB_pos _) (by unfold Tr.good; exact hi)
          have pw : (((10 ^ 400 : Nat) : Nat) : Int) = 10 ^ 400 := by norm_cast
          generalize (10 : Nat) ^ 400 = big at *
          simp only [List.mem_cons, List.not_mem_nil, or_false] at hv
          rcases hv with rfl | rfl | rfl
          · exact num _ (by omega)
          · exact num _ (by omega)
          · exact num _ (by omega)
        refine ⟨.ref p, (by kernel_rfl), by show 4 ≤ sizeLine; decide, fun q nq => ?_⟩
        have S2 := S1.new (o := .lst [.int 0, .int 1, .int 2, .int 3]) nq
        refine ⟨p, q, z1, _, rfl, S2.pen, upd_same, by show 0 < 4; decide, by show 4 < 1073741824; decide, by omega, fun v z3 hv g3 => ?_⟩
        have S3 := S2.draw g3
        generalize upd (upd H1 q (.lst [.int 0, .int 1, .int 2, .int 3])) p (.dK z3.kvs) = H3 at S3 ⊢
        obtain ⟨m, hm, rfl⟩ : ∃ m : Nat, m ≤ 3 ∧ v = .int (m : Int) := by
          simp only [List.mem_cons, List.not_mem_nil, or_false] at hv
          rcases hv with rfl | rfl | rfl | rfl
          · exact ⟨0, by decide, rfl⟩
          · exact ⟨1, by decide, rfl⟩
          · exact ⟨2, by decide, rfl⟩
          · exact ⟨3, by decide, rfl⟩
        clear hv
        have c3 := S3.c
        refine ⟨(m : Int), rfl, by omega, by omega, ?_⟩
        rw [Int.toNat_natCast]
        intro D nD'
        have nDH := S3.none hp nD'
        have Dp : D ≠ p := fun q => hp (q ▸ nDH)
        refine lc_range (lo := 0) (n := m) (fun i H' => ∃ (ys : List V) (G : Hp) (z' : Pen) (us : List Tr), H' D = some (.lst ys) ∧ OAts G ys us ∧ us.length = i ∧ PS H p (z.c + 2 + ((i * mD d : Nat) : Int)) H' z' ∧ New H G H' ∧ G D = Option.none ∧ Tr.depL us ≤ d + 1 ∧ Tr.szL us ≤ i * mB d ∧ Tr.goodL us)
          ⟨[], fun _ => Option.none, z3, [], upd_same, .nil, rfl, (S3.new nD').le (by omega), new_none, rfl, Nat.zero_le _, Nat.zero_le _, trivial⟩ ?_ ?_
        · rintro i H4 hi ⟨ys, G, z4, us, hD, hy, lu, S4, N4, gD, hdp, hsz, hok⟩
          refine ⟨rfl, ?_⟩
          have c4 := S4.c
          have i4 : i * mD d ≤ 2 * mD d := Nat.mul_le_mul_right _ (by omega)
          refine ⟨.ref p, (by kernel_rfl), .int ((d + 1 : Nat) : Int), (by kernel_rfl), _, _, rfl, rfl, d, by omega, p, z4, (by show [V.ref p, V.int (((d + 1 : Nat) : Int) - 1)] = [V.ref p, V.int (d : Int)]; rw [show ((d + 1 : Nat) : Int) - 1 = (d : Int) by omega]), S4.pen, by omega, fun y t H5 G2 z5 S5 N5 o5 dp5 sz5 ok5 => ?_⟩
          have hD5 : H5 D = some (.lst ys) := S5.keep _ _ Dp hD
          have ly := hy.len
          have hp4 : H4 p ≠ Option.none := by rw [S4.pen.at_]; exact fun z => nomatch z
          have g2D : G2 D = Option.none := N5.ap D (by rw [hD]; exact fun z => nomatch z)
          have N4' : New H G H5 := N4.ps hp S5
          have dom : ∀ a, H a ≠ Option.none → H4 a ≠ Option.none := fun a ha e => ha (S4.none hp e)
          have N5' : New H G2 H5 := N5.dom dom
          have jr : Same G2 (joinH G G2) := fun b o e => by
            cases g : G b with
            | none => rw [join_none g]; exact e
            | some u =>
              have z := N5.ap b (by rw [N4.in_ _ _ g]; exact fun z => nomatch z)
              rw [z] at e
              cases e
          refine ⟨ys, hD5, Nat.lt_of_le_of_lt (show ys.length ≤ 1000000 by omega) (by decide), ?_⟩
          have mul1 : (i + 1) * mD d = i * mD d + mD d := Nat.succ_mul _ _
          have mul2 : (i + 1) * mB d = i * mB d + mB d := Nat.succ_mul _ _
          refine ⟨ys ++ [y], joinH G G2, z5, us ++ [t], upd_same, (hy.same join_l).app (.cons (o5.same jr) .nil), by simp [lu], ?_, (N4'.join2 N5').put (by rw [join_none gD]; exact g2D), by rw [join_none gD]; exact g2D, depL_app us [t] (d + 1) hdp (by show max t.dep 0 ≤ d + 1; omega), ?_, goodL_app hok ⟨ok5, trivial⟩⟩
          · have S6 := S4.step S5
            have nl : z5.l ≠ D := fun q => by
              have e := S6.l z Z
              have c := Z.cells
              rw [← e, q, nDH] at c
              cases c
            refine ⟨⟨by rw [upd_ne (Ne.symm Dp)]; exact S6.pen.at_, by rw [upd_ne nl]; exact S6.pen.cells, S6.pen.ok⟩, by have := S6.c; rw [mul1]; omega, fun b o nb e => by rw [upd_ne (fun q => by rw [q, nDH] at e; cases e)]; exact S6.keep b o nb e, S6.l⟩
          · rw [szL_app, mul2]
            show Tr.szL us + (t.sz + 0) ≤ _
            omega
        · rintro H4 ⟨ys, G, z4, us, hD, hy, lu, S4, N4, gD, hdp, hsz, hok⟩
          have mm : m * mD d ≤ 3 * mD d := Nat.mul_le_mul_right _ hm
          have mb : m * mB d ≤ 3 * mB d := Nat.mul_le_mul_right _ hm
          have c4 := S4.c
          have hp4 : H4 p ≠ Option.none := by rw [S4.pen.at_]; exact fun z => nomatch z
          refine ⟨.ref p, (by kernel_rfl), by show 0 ≤ sizeLine; decide, fun q nq => ?_⟩
          refine ⟨p, q, z4, z4, H4, z4.c, rfl, (PS.start S4.pen).new nq, S4.pen, upd_same, nq, by omega, fun m' H6 z6 big R => ?_⟩
          have S6 := S4.step R
          have N6 := N4.ps hp R
          have hD6 := R.keep D _ Dp hD
          refine ⟨.ref D, (by kernel_rfl), by show 2 ≤ sizeLine; decide, fun T1 nT1 => ?_⟩
          have nT0 := S6.none hp nT1
          have s1 := same_new (o := .tup [.str m', .ref D]) nT1
          have DT : D ≠ T1 := fun z => by rw [z, nT1] at hD6; cases hD6
          have N7 := ((N6.same s1).add nDH (s1 _ _ hD6)).add nT0 (upd_same (H := H6) (a := T1) (o := .tup [.str m', .ref D]))
          have gT : G T1 = Option.none := by
            cases e : G T1 with
            | none => rfl
            | some o => rw [N6.in_ _ _ e] at nT1; cases nT1
          refine k (.ref T1) (.mk m' us) _ _ z6 ((S6.same s1).le (by omega)) N7 (.mk upd_same (by rw [upd_ne DT, upd_same]) (hy.same fun b o e => ?_)) (by show 1 + Tr.depL us ≤ d + 1 + 1; omega) (by rw [eB]; show 1 + Tr.szL us ≤ _; omega) (by unfold Tr.good; exact ⟨big, hok⟩)
          rw [upd_ne (ne_of_none e gT), upd_ne (ne_of_none e gD)]
          exact e
end
end Nm
namespace Nm
open PySem PySem.Spec PyProof.Rows L2
/-! ### more blanks -/
theorem par_codes : codes ("()" : Str) = [40, 41] := by decide +kernel
theorem blanks_codes (k : Nat) : codes (timesS " " (k : Int)) = List.replicate k 32 := by
  rw [codes_timesS, show codes (" " : Str) = [32] from by decide +kernel]
  simp
theorem blanks_len (k : Nat) : (timesS " " (k : Int)).length = k := by
  rw [len_codes, blanks_codes]
  simp
def spWide : Sp := fun vs H Q _ => ∃ (p : Addr) (z : Pen) (tx : Str), vs = [.ref p, .str tx] ∧ PenAt H p z ∧ tx.length ≤ 100000 ∧ z.c ≤ 10000000 ∧
  ∀ (s : Str) (a : Nat) (l' : List Nat) (H' : Hp) (z' : Pen), codes s = List.replicate a 32 ++ l' → Wide (codes tx) l' → s.length ≤ 5 * tx.length + 5 → PS H p (z.c + 2 * (tx.length : Int) + 2) H' z' → Q (.str s) H'
section
variable {P : Program} {w : World} {K : PySem.W.Frag} {mg : Str → Option Value} {base : Heap} {C fE : Addr}

abbrev sLwide : Stmt := top 35
abbrev NLwide : List Str := ["_law_pen_here", "_law_text", "_law_found", "_law_sign"]
abbrev PLwide : List Str := ["_law_pen_here", "_law_text"]
theorem scLwide : FnScope NLwide PLwide (defScope sLwide) := ⟨rfl, rfl, rfl, by decide +kernel, rfl, by decide +kernel, by decide +kernel⟩

theorem ok_wide {f fD : Addr} {fd fdD : FuncData} (F : Fun K "_law_wide" "_law_wide" sLwide f fd) (PT : PenTxt mg)
    (F_law_draw : Fun K "_law_draw" "_law_draw" sDraw fD fdD) (b_law_draw : Binds K fdD ["_law_pen_here", "_law_many"] []) (g_law_draw : mg "_law_draw" = some (.ref fD)) : FnOk P w K mg base CX0 2 f fd PLwide spWide := by
  have G_law_draw : FnOk P w K mg base CX0 1 fD fdD ["_law_pen_here", "_law_many"] spDraw := ok_draw F_law_draw PT
  refine F.ok scLwide (fun vs H Q E h => ?_) (fun cdv A outer s H vs Q E hr h => ?_)
  · obtain ⟨p, z, tx, rfl, _⟩ := h
    rfl
  · obtain ⟨p, z, tx, rfl, Z, hl, hc, k⟩ := h
    have hr1 := hr
    refine ⟨_, (pss_cons (ps_set (i := 2) scLwide.nd rfl (Or.inl rfl) pe_str)
      (pss_cons (ps_for PassesOwn.never rfl (pi_str (pv 1)) (pg_name (i := 3) scLwide.nd rfl (Or.inl rfl))
      (pss_cons (ps_if (pt_cmpR op_in_sign (pv 3) pe_str (by rfl))
      (pss_one (ps_set (i := 2) scLwide.nd rfl (Or.inl rfl) (pe_op op_add_str (pv 2) (pe_op op_timesB pe_str (pe_call G_law_draw hr1 rfl g_law_draw F_law_draw.kp b_law_draw .nil pass0 (pa_cons (pv 0) (pa_cons pe_int pa_nil)))))))
      pss_nil)
      (pss_cons (ps_set (i := 2) scLwide.nd rfl (Or.inl rfl) (pe_op op_add_str (pv 2) (pv 3)))
      (pss_one (ps_if (pt_cmpR op_in_sign (pv 3) pe_str (by rfl))
      (pss_one (ps_set (i := 2) scLwide.nd rfl (Or.inl rfl) (pe_op op_add_str (pv 2) (pe_op op_timesB pe_str (pe_call G_law_draw hr1 rfl g_law_draw F_law_draw.kp b_law_draw .nil pass0 (pa_cons (pv 0) (pa_cons pe_int pa_nil)))))))
      pss_nil)))))
      (pss_one (ps_ret (pe_op op_add_str (pe_op op_timesB pe_str (pe_call G_law_draw hr1 rfl g_law_draw F_law_draw.kp b_law_draw .nil pass0 (pa_cons (pv 0) (pa_cons pe_int pa_nil)))) (pv 2)))))), ?_⟩
    have lt := len_codes tx
    have sz : tx.cps.size = (codes tx).length := by simp
    refine ⟨.str tx, (by kernel_rfl), tx, rfl, ?_⟩
    refine for_it (walk_str (z := tx)) (fun i σ H' => ∃ (fo : Str) (z' : Pen) (v3 : Option V), σ = [some (.ref p), some (.str tx), some (.str fo), v3] ∧ Wide ((codes tx).take i) (codes fo) ∧ fo.length ≤ 5 * i ∧ PS H p (z.c + 2 * (i : Int)) H' z')
      ⟨"", z, none, rfl, Wide.nil, Nat.le_refl _, (PS.start Z).le (by omega)⟩ (fun _ _ _ _ _ => True.intro) ?_ ?_
    · rintro i x σ H1 H2 hi ⟨fo, z1, v3, rfl, hw, lf, S1⟩ ⟨rfl, c, hc', rfl⟩
      have hcc : (codes tx)[i]? = some c := by simpa using hc'
      have li := (List.getElem?_eq_some_iff.mp hcc).1
      have tk1 : (codes tx).take (i + 1) = (codes tx).take i ++ [c] := by rw [List.take_add_one, hcc]; rfl
      have c1 := S1.c
      refine ⟨.str ⟨#[c]⟩, (by kernel_rfl), c, " ()", rfl, rfl, _, rfl, ?_⟩
      rw [show (Str.ofString " ()").cps.toList = sepL from sep_codes]
      by_cases hs : c ∈ sepL
      · refine ite_yes (decide_eq_true hs) ?_
        refine ⟨.str fo, (by kernel_rfl), .ref p, (by kernel_rfl), p, z1, 3, rfl, S1.pen, by decide, by decide, by omega, fun r z2 r0 r1 g2 => ?_⟩
        have S2 := S1.draw g2
        generalize upd H2 p (.dK z2.kvs) = H3 at S2 ⊢
        obtain ⟨a, rfl⟩ := Int.eq_ofNat_of_zero_le r0
        have c2 := S2.c
        have bl := blanks_len a
        have bc := blanks_codes a
        refine ⟨" ", (a : Int), rfl, rfl, r0, by omega, by decide, by rw [show (Str.ofString " ").length = 1 from rfl]; omega, fo, _, rfl, rfl, sz_of (by omega), ?_⟩
        refine ⟨.str (fo ++ timesS " " (a : Int)), (by kernel_rfl), .str ⟨#[c]⟩, (by kernel_rfl), _, _, rfl, rfl, sz_of (by rw [len_app]; show fo.length + (timesS " " (a : Int)).length + 1 ≤ _; omega), ?_⟩
        refine ⟨.str ⟨#[c]⟩, (by kernel_rfl), c, "()", rfl, rfl, _, rfl, ?_⟩
        rw [show (Str.ofString "()").cps.toList = [40, 41] from par_codes]
        have ec : codes (fo ++ timesS " " (a : Int) ++ ⟨#[c]⟩) = codes fo ++ (List.replicate a 32 ++ [c]) := by
          rw [codes_app, codes_app, bc, List.append_assoc]
        have el : (fo ++ timesS " " (a : Int) ++ ⟨#[c]⟩).length = fo.length + a + 1 := by
          rw [len_app, len_app, bl]
          rfl
        generalize fo ++ timesS " " (a : Int) ++ ⟨#[c]⟩ = f2 at ec el ⊢
        by_cases hp2 : c ∈ [40, 41]
        · refine ite_yes (decide_eq_true hp2) ?_
          refine ⟨.str f2, (by kernel_rfl), .ref p, (by kernel_rfl), p, z2, 2, rfl, S2.pen, by decide, by decide, by omega, fun r z3 r0' r1' g3 => ?_⟩
          have S3 := S2.draw g3
          obtain ⟨b, rfl⟩ := Int.eq_ofNat_of_zero_le r0'
          have bl' := blanks_len b
          have bc' := blanks_codes b
          refine ⟨" ", (b : Int), rfl, rfl, r0', by omega, by decide, by rw [show (Str.ofString " ").length = 1 from rfl]; omega, f2, _, rfl, rfl, sz_of (by omega), ?_⟩
          refine ⟨_, z3, _, rfl, ?_, by rw [len_app]; omega, S3.le (by omega)⟩
          rw [tk1, codes_app, ec, bc']
          have q := Wide.sep (c := c) a b hw (by simp only [List.mem_cons, List.not_mem_nil, or_false] at hp2; omega)
          rw [show codes fo ++ (List.replicate a 32 ++ [c]) ++ List.replicate b 32 = codes fo ++ (List.replicate a 32 ++ c :: List.replicate b 32) by simp]
          exact q
        · refine ite_no (decide_eq_false hp2) ?_
          refine ⟨_, z2, _, rfl, ?_, by omega, S2.le (by omega)⟩
          rw [tk1, ec]
          have q := Wide.sep (c := c) a 0 hw (by unfold sepL at hs; simp only [List.mem_cons, List.not_mem_nil, or_false] at hs; omega)
          exact q
      · refine ite_no (decide_eq_false hs) ?_
        refine ⟨.str fo, (by kernel_rfl), .str ⟨#[c]⟩, (by kernel_rfl), _, _, rfl, rfl, sz_of (by show fo.length + 1 ≤ _; omega), ?_⟩
        refine ⟨.str ⟨#[c]⟩, (by kernel_rfl), c, "()", rfl, rfl, _, rfl, ?_⟩
        rw [show (Str.ofString "()").cps.toList = [40, 41] from par_codes]
        unfold sepL at hs
        simp only [List.mem_cons, List.not_mem_nil, or_false, not_or] at hs
        refine ite_no (decide_eq_false (by simp only [List.mem_cons, List.not_mem_nil, or_false]; omega)) ?_
        refine ⟨_, z1, _, rfl, ?_, by rw [len_app]; show fo.length + 1 ≤ _; omega, S1.le (by omega)⟩
        rw [tk1, codes_app]
        exact Wide.sign hw ⟨hs.1, hs.2.1, hs.2.2⟩
    · rintro σ H1 ⟨fo, z1, v3, rfl, hw, lf, S1⟩
      rw [sz, List.take_length] at hw
      rw [sz] at lf S1
      have c1 := S1.c
      refine ⟨.ref p, (by kernel_rfl), p, z1, 3, rfl, S1.pen, by decide, by decide, by omega, fun r z2 r0 r1 g2 => ?_⟩
      have S2 := S1.draw g2
      generalize upd H1 p (.dK z2.kvs) = H2 at S2 ⊢
      obtain ⟨a, rfl⟩ := Int.eq_ofNat_of_zero_le r0
      have bl := blanks_len a
      have bc := blanks_codes a
      refine ⟨" ", (a : Int), rfl, rfl, r0, by omega, by decide, by rw [show (Str.ofString " ").length = 1 from rfl]; omega, .str fo, (by kernel_rfl), _, _, rfl, rfl, sz_of (by omega), ?_⟩
      exact k _ a (codes fo) H2 z2 (by rw [codes_app, bc]) hw (by rw [len_app]; omega) (S2.le (by omega))
end
end Nm
namespace Nm
open PySem PySem.Spec PyProof.Rows L2
/-! ### the chain -/
def chT : Nat → Tr
  | 0 => .mk "Nil" []
  | n + 1 => .mk "S" [chT n]
theorem chT_sz : ∀ n, (chT n).sz = n + 1
  | 0 => rfl
  | n + 1 => by
    show 1 + ((chT n).sz + 0) = _
    rw [chT_sz n]
    omega
theorem chT_good : ∀ n, (chT n).good
  | 0 => by
    show (Tr.mk "Nil" []).good
    unfold Tr.good
    exact ⟨by decide +kernel, trivial⟩
  | n + 1 => by
    show (Tr.mk "S" [chT n]).good
    unfold Tr.good
    exact ⟨by decide +kernel, chT_good n, trivial⟩
theorem wC_ch : ∀ n, wC (chT (n + 1)) = (List.replicate n [83, 32, 40]).flatten ++ ([83, 32, 78, 105, 108] ++ List.replicate n 41)
  | 0 => by decide +kernel
  | n + 1 => by
    have ih := wC_ch n
    have e : wC (chT (n + 2)) = codes "S" ++ wCL [chT (n + 1)] := by
      show wC (.mk "S" [chT (n + 1)]) = _
      rw [wC]
    rw [e, wCL_cons]
    unfold pC
    rw [if_neg (by exact Bool.false_ne_true), ih, show codes ("S" : Str) = [83] from by decide +kernel, show wCL [] = [] from by rw [wCL]]
    rw [List.replicate_succ, List.flatten_cons, List.replicate_succ' (a := 41)]
    simp
/-! the texts that tell a value -/
theorem tells_text {t : Tr} (g : t.good) {s : Str} (e : codes s = wC t) : Tells (codes s) t := tells_of g (by rw [e]; exact wd_wC t g)
theorem wd_wide {l l' : List Nat} (a : Nat) (h : Wide l l') : wd (List.replicate a 32 ++ l') [] = wd l [] := by
  have q := h.wd [] []
  rw [List.append_nil, List.append_nil] at q
  rw [wd_blanks, q]
theorem tells_wide {t : Tr} (g : t.good) {s : Str} {a : Nat} {l' : List Nat} (e : codes s = List.replicate a 32 ++ l') (h : Wide (wC t) l') : Tells (codes s) t := tells_of g (by rw [e, wd_wide a h]; exact wd_wC t g)
theorem tells_paren {t : Tr} (g : t.good) {s : Str} (e : codes s = 40 :: (wC t ++ [41])) : Tells (codes s) t := tells_in g (by
  have e1 := wd_paren (c := 40) (.inl rfl) [] (wC t ++ [41]) [] (fun h => nomatch h)
  have e2 := wd_paren (c := 41) (.inr rfl) (wC t) [] [] (free_wC t g)
  rw [List.nil_append] at e1
  rw [e, e1, e2, wd_wC t g]
  rfl)
theorem tells_wparen {t : Tr} (g : t.good) {s : Str} {a : Nat} {l' : List Nat} (e : codes s = [32, 40, 32] ++ (List.replicate a 32 ++ l') ++ [32, 41]) (h : Wide (wC t) l') : Tells (codes s) t := tells_in g (by
  have f := h.free (free_wC t g)
  have f2 : 59 ∉ List.replicate a 32 ++ l' := fun m => by
    rcases List.mem_append.mp m with m | m
    · have := List.eq_of_mem_replicate m
      omega
    · exact f m
  have e0 := wd_blank [] (40 :: 32 :: (List.replicate a 32 ++ l' ++ [32, 41])) [] (fun h => nomatch h)
  have e1 := wd_paren (c := 40) (.inl rfl) [] (32 :: (List.replicate a 32 ++ l' ++ [32, 41])) [] (fun h => nomatch h)
  have e2 := wd_blank [] (List.replicate a 32 ++ l' ++ [32, 41]) [] (fun h => nomatch h)
  have e3 := wd_blank (List.replicate a 32 ++ l') [41] [] f2
  rw [List.nil_append] at e0 e1 e2
  rw [e]
  show wd (32 :: 40 :: 32 :: (List.replicate a 32 ++ l' ++ [32, 41])) [] = _
  rw [e0, e1, e2, e3, wd_wide a h, wd_wC t g]
  rfl)
theorem tells_semi {t : Tr} (g : t.good) {s : Str} {r : List Nat} (e : codes s = wC t ++ 59 :: r) : Tells (codes s) t := tells_of g (by rw [e, wd_stop]; exact wd_wC t g)
theorem tells_rem {t : Tr} (g : t.good) {s : Str} {r : List Nat} (e : codes s = wC t ++ 32 :: 59 :: r) : Tells (codes s) t := tells_of g (by
  have q := wd_stop (wC t ++ [32]) r []
  have q2 := wd_blank (wC t) [] [] (free_wC t g)
  rw [e, show wC t ++ 32 :: 59 :: r = (wC t ++ [32]) ++ 59 :: r by simp, q, q2, wd_wC t g]
  show tk t ++ [] = tk t
  simp)
theorem same_of_none {H H' : Hp} {a : Addr} (s : Same H H') (n : H' a = none) : H a = none := by
  cases e : H a with
  | none => rfl
  | some o => rw [s _ _ e] at n; cases n
section
variable {P : Program} {w : World} {K : PySem.W.Frag} {mg : Str → Option Value} {C fE : Addr}

abbrev slaw : Stmt := top 36
abbrev Nlaw : List Str := ["_law_script", "_law_pen_here", "_law_lap", "_law_own_here", "_law_value", "_law_text", "_law_some", "_law_one", "_law_told", "_law_many", "_law_chain", "_law_words", "_law_k"]
abbrev Plaw : List Str := ["_law_script"]
theorem sclaw : FnScope Nlaw Plaw (defScope slaw) := ⟨rfl, rfl, rfl, by decide +kernel, rfl, by decide +kernel, by decide +kernel⟩

variable {fA fI fB fN fW fP fV fM fR fT fO f1 fD fQ f2 f3 f4 fS fF f5 f6 f0 : Addr} {fdA fdI fdB fdN fdW fdP fdV fdM fdR fdT fdO fd1 fdD fdQ fd2 fd3 fd4 fdS fdF fd5 fd6 fd0 fdE : FuncData}
theorem rd_law (T : VTxt mg) (WT : WTxt mg) (PT : PenTxt mg) (MT : MadeTxt K mg C fE) (kS : PySem.W.kitOne K (.ref C) (.type "str") = some false) (sO : PySem.W.subIn K (.ref C) (.type "object") = some true) (Mk : Mk K C f0) (F_init : Fun K "__init__" "Made.__init__" sMadeinit f0 fd0) (B_init : Binds K fd0 ["self", "maker", "parts"] [])
    (F_eq : Fun K "__eq__" "Made.__eq__" sMadeeq fE fdE) (B_eq : Binds K fdE ["self", "other"] [])
    (F_all_among : Fun K "all_among" "all_among" sallamong fA fdA) (b_all_among : Binds K fdA Pallamong []) (g_all_among : mg "all_among" = some (.ref fA))
    (F_is_name : Fun K "is_name" "is_name" sisname fI fdI) (b_is_name : Binds K fdI Pisname []) (g_is_name : mg "is_name" = some (.ref fI))
    (F_is_big : Fun K "is_big" "is_big" sisbig fB fdB) (b_is_big : Binds K fdB Pisbig []) (g_is_big : mg "is_big" = some (.ref fB))
    (F_is_number : NumFun K mg fN fdN) (b_is_number : Binds K fdN Pisnumber []) (g_is_number : mg "is_number" = some (.ref fN))
    (F_words_of : Fun K "words_of" "words_of" swordsof fW fdW) (b_words_of : Binds K fdW Pwordsof []) (g_words_of : mg "words_of" = some (.ref fW))
    (F_parts_of : Fun K "parts_of" "parts_of" spartsof fP fdP) (b_parts_of : Binds K fdP ["value"] []) (g_parts_of : mg "parts_of" = some (.ref fP))
    (F_written_value : Fun K "written_value" "written_value" swrittenvalue fV fdV) (b_written_value : Binds K fdV Pwrittenvalue []) (g_written_value : mg "written_value" = some (.ref fV))
    (F_may_have_parts : Fun K "may_have_parts" "may_have_parts" smayhaveparts fM fdM) (b_may_have_parts : Binds K fdM ["told"] []) (g_may_have_parts : mg "may_have_parts" = some (.ref fM))
    (F_read_value : Fun K "read_value" "read_value" sreadvalue fR fdR) (b_read_value : Binds K fdR ["told"] []) (g_read_value : mg "read_value" = some (.ref fR))
    (F_take_word : Fun K "take_word" "take_word" stakeword fT fdT) (b_take_word : Binds K fdT Ptakeword []) (g_take_word : mg "take_word" = some (.ref fT))
    (F_value_from : Fun K "value_from" "value_from" svaluefrom fO fdO) (b_value_from : Binds K fdO Pvaluefrom []) (g_value_from : mg "value_from" = some (.ref fO))
    (F_law_pen : Fun K "_law_pen" "_law_pen" sPen f1 fd1) (b_law_pen : Binds K fd1 ["_law_script"] []) (g_law_pen : mg "_law_pen" = some (.ref f1))
    (F_law_draw : Fun K "_law_draw" "_law_draw" sDraw fD fdD) (b_law_draw : Binds K fdD ["_law_pen_here", "_law_many"] []) (g_law_draw : mg "_law_draw" = some (.ref fD))
    (F_law_pick : Fun K "_law_pick" "_law_pick" sPick fQ fdQ) (b_law_pick : Binds K fdQ ["_law_pen_here", "_law_some"] []) (g_law_pick : mg "_law_pick" = some (.ref fQ))
    (F_law_value_text : Fun K "_law_value_text" "_law_value_text" sLvaluetext f2 fd2) (b_law_value_text : Binds K fd2 ["_law_value", "_law_is_outer"] []) (g_law_value_text : mg "_law_value_text" = some (.ref f2))
    (F_law_own : Fun K "_law_own" "_law_own" sLown f3 fd3) (b_law_own : Binds K fd3 ["_law_value"] []) (g_law_own : mg "_law_own" = some (.ref f3))
    (F_law_made : Fun K "_law_made" "_law_made" sLmade f4 fd4) (b_law_made : Binds K fd4 ["_law_value"] []) (g_law_made : mg "_law_made" = some (.ref f4))
    (F_law_signs : Fun K "_law_signs" "_law_signs" sLsigns fS fdS) (b_law_signs : Binds K fdS [] []) (g_law_signs : mg "_law_signs" = some (.ref fS))
    (F_law_fresh_name : Fun K "_law_fresh_name" "_law_fresh_name" sLfreshname fF fdF) (b_law_fresh_name : Binds K fdF PLfreshname []) (g_law_fresh_name : mg "_law_fresh_name" = some (.ref fF))
    (F_law_named_value : Fun K "_law_named_value" "_law_named_value" sLnamedvalue f5 fd5) (b_law_named_value : Binds K fd5 ["_law_pen_here", "_law_depth"] []) (g_law_named_value : mg "_law_named_value" = some (.ref f5))
    (F_law_wide : Fun K "_law_wide" "_law_wide" sLwide f6 fd6) (b_law_wide : Binds K fd6 PLwide []) (g_law_wide : mg "_law_wide" = some (.ref f6))
    (base : Heap) (cdv : Value) (s : Shared) (H : Hp) (a : Addr) (ns : List Int) (hlen : ns.length ≤ 63) (hS : SqL K H a (ns.map V.int)) :
    ∃ t, PSs (cxOf CX0 P w K mg base Nlaw "law" (defScope slaw) fa cdv callerA [] s H E0).nox (defBody slaw) t ∧ t { nx := fun _ _ => False, rt := fun v _ => v = .bl true } (start Nlaw [.ref a]) H := by
  have hr : Room 12 (callerA.deeper (envOfC "law" (defScope slaw) s.heap.objs.size fa cdv)) := Room.deeper ⟨rfl, by decide, by decide⟩ _
  have hr1 := hr
  have G_eq : FnOk P w K mg base CX0 12 fE fdE ["self", "other"] (spEqM C) := (ok_eq F_eq T MT).mono (by decide)
  have G_eqn : FnOk P w K mg base CX0 11 fE fdE ["self", "other"] (spEqM C) := (ok_eq F_eq T MT).mono (by decide)
  have G_init : FnOk P w K mg base CX0 11 f0 fd0 PMadeinit (spInit C) := (ok_init F_init T MT).mono (by decide)
  have G_law_pen : FnOk P w K mg base CX0 12 f1 fd1 ["_law_script"] (spPen K) := (ok_pen F_law_pen PT).mono (by decide)
  have G_law_pick : FnOk P w K mg base CX0 12 fQ fdQ ["_law_pen_here", "_law_some"] (spPick K) := (ok_pick F_law_pick PT F_law_draw b_law_draw g_law_draw).mono (by decide)
  have G_written_value : FnOk P w K mg base CX0 12 fV fdV Pwrittenvalue (spWritten C) := (ok_written F_written_value T MT kS F_parts_of b_parts_of g_parts_of).mono (by decide)
  have G_value_from : FnOk P w K mg base CX0 12 fO fdO Pvaluefrom (spFrom C) := (ok_from F_value_from T WT MT kS Mk F_init B_init F_may_have_parts b_may_have_parts g_may_have_parts F_read_value b_read_value g_read_value F_is_number b_is_number g_is_number F_is_big b_is_big g_is_big F_is_name b_is_name g_is_name F_all_among b_all_among g_all_among F_words_of b_words_of g_words_of F_take_word b_take_word g_take_word).mono (by decide)
  have G_law_value_text : FnOk P w K mg base CX0 12 f2 fd2 PLvaluetext (spLText 6) := (ok_ltext F_law_value_text T b_law_value_text g_law_value_text 6).mono (by decide)
  have G_law_own : FnOk P w K mg base CX0 12 f3 fd3 PLown (spOwn C 6) := (ok_own F_law_own T MT b_law_own g_law_own 6).mono (by decide)
  have G_law_made : FnOk P w K mg base CX0 12 f4 fd4 PLmade (spMade C 6) := (ok_made F_law_made T MT Mk F_init B_init b_law_made g_law_made 6).mono (by decide)
  have G_law_named_value : FnOk P w K mg base CX0 12 f5 fd5 PLnamedvalue (spNamedN 5) := (ok_named F_law_named_value T PT F_law_signs b_law_signs g_law_signs F_law_fresh_name b_law_fresh_name g_law_fresh_name F_law_draw b_law_draw g_law_draw F_law_pick b_law_pick g_law_pick b_law_named_value g_law_named_value 5).mono (by decide)
  have G_law_wide : FnOk P w K mg base CX0 12 f6 fd6 PLwide spWide := (ok_wide F_law_wide PT F_law_draw b_law_draw g_law_draw).mono (by decide)
  refine ⟨_, (pss_cons (ps_set (i := 1) sclaw.nd rfl (Or.inl rfl) (pe_call G_law_pen hr1 rfl g_law_pen F_law_pen.kp b_law_pen .nil pass0 (pa_cons (pv 0) pa_nil)))
      (pss_cons (ps_for PassesOwn.never rfl (pi_range1 rfl T.range (pa_cons pe_int pa_nil)) (pg_name (i := 2) sclaw.nd rfl (Or.inl rfl))
      (pss_cons (ps_set (i := 3) sclaw.nd rfl (Or.inl rfl) (pe_call G_law_named_value hr1 rfl g_law_named_value F_law_named_value.kp b_law_named_value .nil pass0 (pa_cons (pv 1) (pa_cons pe_int pa_nil))))
      (pss_cons (ps_par (i := 4) (j := 5) rfl sclaw.nd rfl rfl (by decide) rfl rfl (pa_cons (pe_call G_law_made hr1 rfl g_law_made F_law_made.kp b_law_made .nil pass0 (pa_cons (pv 3) pa_nil)) (pa_cons (pe_call G_law_value_text hr1 rfl g_law_value_text F_law_value_text.kp b_law_value_text .nil pass0 (pa_cons (pv 3) (pa_cons pe_bl pa_nil))) pa_nil)) (by rfl))
      (pss_cons (ps_if (pt_cmpR op_ne (pe_call G_written_value hr1 rfl g_written_value F_written_value.kp b_written_value .nil pass0 (pa_cons (pv 4) pa_nil)) (pv 5) (nomark _))
      (pss_one (ps_ret pe_bl))
      pss_nil)
      (pss_cons (ps_set (i := 6) sclaw.nd rfl (Or.inl rfl) (pe_lst (pa_cons (pv 5) (pa_cons (pe_call G_law_wide hr1 rfl g_law_wide F_law_wide.kp b_law_wide .nil pass0 (pa_cons (pv 1) (pa_cons (pv 5) pa_nil))) (pa_cons (pe_op op_add_str (pe_op op_add_str pe_str (pv 5)) pe_str) (pa_cons (pe_op op_add_str (pe_op op_add_str pe_str (pe_call G_law_wide hr1 rfl g_law_wide F_law_wide.kp b_law_wide .nil pass0 (pa_cons (pv 1) (pa_cons (pv 5) pa_nil)))) pe_str) pa_nil))))))
      (pss_one (ps_for PassesOwn.never rfl (pi_list (pe_op op_cat (pv 6) (pe_lst (pa_cons (pe_op op_add_str (pv 5) pe_str) (pa_cons (pe_op op_add_str (pe_op op_add_str (pv 5) pe_str) (pe_call G_law_pick hr1 rfl g_law_pick F_law_pick.kp b_law_pick .nil pass0 (pa_cons (pv 1) (pa_cons (pe_lst (pa_cons pe_str (pa_cons pe_str (pa_cons (pv 5) (pa_cons pe_str pa_nil))))) pa_nil)))) pa_nil))))) (pg_name (i := 7) sclaw.nd rfl (Or.inl rfl))
      (pss_cons (ps_set (i := 8) sclaw.nd rfl (Or.inl rfl) (pe_call G_value_from hr1 rfl g_value_from F_value_from.kp b_value_from .nil pass0 (pa_cons (pv 7) pa_nil)))
      (pss_one (ps_if (PW.pt (pw_or (pt_cmpR (op_neM G_eqn B_eq MT sO hr1) (pv 8) (pv 4) (nomark _)) (pw_or1 (pt_cmpR (op_neD hr.units) (pe_call G_law_own hr1 rfl g_law_own F_law_own.kp b_law_own .nil pass0 (pa_cons (pv 8) pa_nil)) (pv 3) (nomark _)))))
      (pss_one (ps_ret pe_bl))
      pss_nil))))))))))
      (pss_cons (ps_par3 (i := 9) (j := 10) (l := 11) rfl sclaw.nd rfl rfl rfl (by decide) (by decide) (by decide) rfl rfl rfl (pa_cons pe_int (pa_cons (pe_make Mk G_init hr1 rfl MT.gM B_init .nil pass0 (pa_cons pe_str (pa_cons (pe_tup pa_nil) pa_nil))) (pa_cons pe_str pa_nil))) (by rfl))
      (pss_cons (ps_for PassesOwn.never rfl (pi_range1 rfl T.range (pa_cons (pv 9) pa_nil)) (pg_name (i := 12) sclaw.nd rfl (Or.inl rfl))
      (pss_one (ps_set (i := 10) sclaw.nd rfl (Or.inl rfl) (pe_make Mk G_init hr1 rfl MT.gM B_init .nil pass0 (pa_cons pe_str (pa_cons (pe_tup (pa_cons (pv 10) pa_nil)) pa_nil))))))
      (pss_cons (ps_set (i := 11) sclaw.nd rfl (Or.inl rfl) (pe_op op_add_str (pe_op op_add_str (pe_op op_timesB pe_str (pe_op op_sub (pv 9) pe_int)) pe_str) (pe_op op_timesB pe_str (pe_op op_sub (pv 9) pe_int))))
      (pss_one (ps_ret (pe_and (pe_cmpR op_eq (pe_call G_written_value hr1 rfl g_written_value F_written_value.kp b_written_value .nil pass0 (pa_cons (pv 10) pa_nil)) (pv 11) (nomark _)) (pe_and (pe_cmpR (op_eqM G_eq B_eq MT hr1) (pe_call G_value_from hr1 rfl g_value_from F_value_from.kp b_value_from .nil pass0 (pa_cons (pv 11) pa_nil)) (pv 10) (nomark _)) (pe_one (pe_cmpR (op_eqM G_eq B_eq MT hr1) (pe_call G_value_from hr1 rfl g_value_from F_value_from.kp b_value_from .nil pass0 (pa_cons (pe_op op_add_str (pe_op op_add_str pe_str (pv 11)) pe_str) pa_nil)) (pv 10) (nomark _)))))))))))), ?_⟩
  -- the pen
  refine ⟨.ref a, (by kernel_rfl), a, ns, rfl, hS, hlen, fun p z0 HB s1 pn zc Z => ?_⟩
  have hp : HB p ≠ none := by rw [Z.at_]; exact fun z => nomatch z
  refine ⟨4, rfl, by decide, by decide, ?_⟩
  refine for_range (lo := 0) (n := 4) (fun i σ H' => ∃ (z : Pen) (v2 v3 v4 v5 v6 v7 v8 v9 v10 v11 v12 : Option V), σ = [some (.ref a), some (.ref p), v2, v3, v4, v5, v6, v7, v8, v9, v10, v11, v12] ∧ PS HB p (200000 * (i : Int)) H' z)
    ⟨z0, none, none, none, none, none, none, none, none, none, none, none, rfl, (PS.start Z).le (by rw [zc]; decide)⟩ ?_ ?_
  · rintro i σ H1 hi ⟨z, v2, v3, v4, v5, v6, v7, v8, v9, v10, v11, v12, rfl, S1⟩
    have c1 := S1.c
    have eD : mD 4 = 1524 := by decide
    have eB : mB 4 = 121 := by decide
    refine ⟨.ref p, (by kernel_rfl), 4, by decide, p, z, rfl, S1.pen, by rw [eD]; omega, fun ov t H2 G z2 S2 N2 ho2 dp sz gd => ?_⟩
    have dp5 : t.dep ≤ 5 := dp
    rw [eB] at sz
    have ho := ho2.same N2.in_
    have T2 := S1.step S2
    rw [eD] at T2
    have lenT := len_wC t gd
    have ok := good_ok t gd
    clear ho2 N2 S2
    have hp2 : H2 p ≠ none := by rw [T2.pen.at_]; exact fun z => nomatch z
    -- the value, its text
    refine ⟨ov, (by kernel_rfl), ov, t, rfl, ho, (by omega), (by omega), fun vv H3 S3 hv3 => ?_⟩
    refine ⟨ov, (by kernel_rfl), ov, t, true, rfl, ho.same S3, (by omega), (by decide), (by omega), gd, fun H4 tx S4 htx => ?_⟩
    replace htx : codes tx = wC t := htx
    have T4 := (T2.same S3).same S4
    have ho4 := (ho.same S3).same S4
    have hv4 := hv3.same S4
    have lx : tx.length = (wC t).length := by rw [len_codes, htx]
    refine ⟨_, _, rfl, ?_⟩
    refine ⟨vv, (by kernel_rfl), vv, t, rfl, hv4, gd, (by omega), fun H5 wt S5 hwt => ?_⟩
    refine ⟨.str tx, (by kernel_rfl), rfl, _, rfl, ?_⟩
    obtain rfl : wt = tx := str_ext (hwt.trans htx.symm)
    refine ite_no (by rw [decide_eq_true rfl]; rfl) ?_
    have T5 := T4.same S5
    have ho5 := ho4.same S5
    have hv5 := hv4.same S5
    clear ho ho4 hv3 hv4 T4 S3 S4 S5 T2 hwt
    have c5 := T5.c
    have f59 := free_wC t gd
    have wdw := wd_wC t gd
    -- wide
    refine ⟨.str wt, (by kernel_rfl), .ref p, (by kernel_rfl), .str wt, (by kernel_rfl), p, z2, wt, rfl, T5.pen, (by omega), (by omega), fun w1 a1 l1 H6 z6 ew1 hw1 lw1 R6 => ?_⟩
    have T6 := T5.step R6
    have ho6 := R6.o T5.pen ho5
    have hv6 := R6.v T5.pen hv5
    clear ho5 hv5
    have c6 := R6.c
    rw [lx] at c6 lw1
    have t1 := tells_text gd htx
    rw [htx] at hw1
    have t2 := tells_wide gd ew1 hw1
    have p3 : codes (("(" : Str) ++ wt ++ ")") = 40 :: (wC t ++ [41]) := by
      rw [codes_app, codes_app, htx, show codes ("(" : Str) = [40] from by decide +kernel, show codes (")" : Str) = [41] from by decide +kernel]
      rfl
    have t3 := tells_paren gd p3
    have l1' : ("(" : Str).length = 1 := rfl
    have l2' : (")" : Str).length = 1 := rfl
    refine ⟨.str wt, (by kernel_rfl), _, _, rfl, rfl, sz_of (by rw [l1']; omega), _, _, rfl, rfl, sz_of (by rw [len_app, l1', l2']; omega), ?_⟩
    have n3 : (("(" : Str) ++ wt ++ ")").length = wt.length + 2 := by rw [len_app, len_app, l1', l2']; omega
    generalize ("(" : Str) ++ wt ++ ")" = x3 at t3 n3 ⊢
    refine ⟨.ref p, (by kernel_rfl), .str wt, (by kernel_rfl), p, z6, wt, rfl, T6.pen, (by omega), (by omega), fun w2 a2 l2 H7 z7 ew2 hw2 lw2 R7 => ?_⟩
    have T7 := T6.step R7
    have ho7 := R7.o T6.pen ho6
    have hv7 := R7.v T6.pen hv6
    clear ho6 hv6
    have c7 := R7.c
    rw [lx] at c7 lw2
    rw [htx] at hw2
    have l3' : (" ( " : Str).length = 3 := rfl
    have l4' : (" )" : Str).length = 2 := rfl
    have p4 : codes ((" ( " : Str) ++ w2 ++ " )") = [32, 40, 32] ++ (List.replicate a2 32 ++ l2) ++ [32, 41] := by
      rw [codes_app, codes_app, ew2, show codes (" ( " : Str) = [32, 40, 32] from by decide +kernel, show codes (" )" : Str) = [32, 41] from by decide +kernel]
    have t4 := tells_wparen gd p4 hw2
    refine ⟨_, _, rfl, rfl, sz_of (by rw [l3']; omega), _, _, rfl, rfl, sz_of (by rw [len_app, l3', l4']; omega), ?_⟩
    have n4 : ((" ( " : Str) ++ w2 ++ " )").length = w2.length + 5 := by rw [len_app, len_app, l3', l4']; omega
    generalize (" ( " : Str) ++ w2 ++ " )" = x4 at t4 n4 ⊢
    refine ⟨by show 4 ≤ sizeLine; decide, fun l nl => ?_⟩
    have e8 := upd_same (H := H7) (a := l) (o := .lst [.str wt, .str w1, .str x3, .str x4])
    have s8 := same_new (o := .lst [.str wt, .str w1, .str x3, .str x4]) nl
    have T8 := T7.same s8
    have ho8 := ho7.same s8
    have hv8 := hv7.same s8
    generalize upd H7 l (.lst [.str wt, .str w1, .str x3, .str x4]) = H8 at e8 T8 ho8 hv8 ⊢
    clear nl s8 ho7 hv7 T7 T6
    have l5' : (";" : Str).length = 1 := rfl
    have p5 : codes (wt ++ ";") = wC t ++ 59 :: [] := by rw [codes_app, htx, show codes (";" : Str) = [59] from by decide +kernel]
    have t5 := tells_semi gd p5
    refine ⟨.ref l, (by kernel_rfl), .str wt, (by kernel_rfl), _, _, rfl, rfl, sz_of (by rw [l5']; omega), ?_⟩
    have n5 : (wt ++ ";").length = wt.length + 1 := by rw [len_app, l5']
    generalize wt ++ ";" = x5 at t5 n5 ⊢
    have l6' : (" ; " : Str).length = 3 := rfl
    refine ⟨.str wt, (by kernel_rfl), _, _, rfl, rfl, sz_of (by rw [l6']; omega), ?_⟩
    refine ⟨.ref p, (by kernel_rfl), .str wt, (by kernel_rfl), by show 4 ≤ sizeLine; decide, fun q nq => ?_⟩
    have S9 := T8.new (o := .lst [.str ")", .str "(( Cons", .str wt, .str ";"]) nq
    have ls := same_new (o := .lst [.str ")", .str "(( Cons", .str wt, .str ";"]) nq
    refine ⟨p, q, z7, _, rfl, S9.pen, upd_same, by show 0 < 4; decide, by show 4 < 1073741824; decide, by omega, fun v z10 hv10' g10 => ?_⟩
    obtain ⟨s6, hs6, rfl⟩ : ∃ s6 : Str, s6.length ≤ 100000 ∧ v = .str s6 := by
      simp only [List.mem_cons, List.not_mem_nil, or_false] at hv10'
      rcases hv10' with rfl | rfl | rfl | rfl
      · exact ⟨_, by decide +kernel, rfl⟩
      · exact ⟨_, by decide +kernel, rfl⟩
      · exact ⟨wt, by omega, rfl⟩
      · exact ⟨_, by decide +kernel, rfl⟩
    clear hv10'
    have S10 := S9.draw g10
    have lp : l ≠ p := ne_of e8 T8.pen.at_ (by intro z; cases z)
    have R10 : PS H8 p (z7.c + 1) (upd (upd H8 q (.lst [.str ")", .str "(( Cons", .str wt, .str ";"])) p (.dK z10.kvs)) z10 := ((PS.start T8.pen).new nq).draw g10
    have e10 := R10.keep _ _ lp e8
    have ho10 := R10.o T8.pen ho8
    have hv10 := R10.v T8.pen hv8
    clear R10 S9 ls nq ho8 hv8 e8
    generalize upd (upd H8 q (.lst [.str ")", .str "(( Cons", .str wt, .str ";"])) p (.dK z10.kvs) = H10 at S10 e10 ho10 hv10 ⊢
    have p6 : codes (wt ++ " ; " ++ s6) = wC t ++ 32 :: 59 :: (32 :: codes s6) := by
      rw [codes_app, codes_app, htx, show codes (" ; " : Str) = [32, 59, 32] from by decide +kernel]
      simp
    have t6 := tells_rem gd p6
    refine ⟨_, _, rfl, rfl, sz_of (by rw [len_app, l6']; omega), ?_⟩
    have n6 : (wt ++ " ; " ++ s6).length = wt.length + 3 + s6.length := by rw [len_app, len_app, l6']
    generalize wt ++ " ; " ++ s6 = x6 at t6 n6 ⊢
    refine ⟨by show 2 ≤ sizeLine; decide, fun r nr => ?_⟩
    have e11 := (same_new (o := .lst [.str x5, .str x6]) nr) _ _ e10
    have r11 := upd_same (H := H10) (a := r) (o := .lst [.str x5, .str x6])
    have S11 := S10.new (o := .lst [.str x5, .str x6]) nr
    have ho11 := ho10.same (same_new (o := .lst [.str x5, .str x6]) nr)
    have hv11 := hv10.same (same_new (o := .lst [.str x5, .str x6]) nr)
    generalize upd H10 r (.lst [.str x5, .str x6]) = H11 at e11 r11 S11 ho11 hv11 ⊢
    refine ⟨l, r, _, _, rfl, rfl, e11, r11, by show 6 ≤ sizeLine; decide, fun L nL => ?_⟩
    have e12 := upd_same (H := H11) (a := L) (o := .lst ([.str wt, .str w1, .str x3, .str x4] ++ [.str x5, .str x6]))
    have s12 := same_new (o := .lst ([.str wt, .str w1, .str x3, .str x4] ++ [.str x5, .str x6])) nL
    have S12 := S11.same s12
    have ho12 := ho11.same s12
    have hv12 := hv11.same s12
    replace e12 : upd H11 L (.lst ([.str wt, .str w1, .str x3, .str x4] ++ [.str x5, .str x6])) L = some (.lst (([wt, w1, x3, x4, x5, x6] : List Str).map V.str)) := e12
    have all : ∀ s ∈ ([wt, w1, x3, x4, x5, x6] : List Str), Tells (codes s) t ∧ s.length ≤ 900000 := by
      intro s hs
      simp only [List.mem_cons, List.not_mem_nil, or_false] at hs
      rcases hs with rfl | rfl | rfl | rfl | rfl | rfl
      · exact ⟨t1, by omega⟩
      · exact ⟨t2, by omega⟩
      · exact ⟨t3, by omega⟩
      · exact ⟨t4, by omega⟩
      · exact ⟨t5, by omega⟩
      · exact ⟨t6, by omega⟩
    clear e11 r11 S11 ho11 hv11 nL s12 ho10 hv10 e10 S10 t1 t2 t3 t4 t5 t6
    generalize upd H11 L (.lst ([.str wt, .str w1, .str x3, .str x4] ++ [.str x5, .str x6])) = H12 at e12 S12 ho12 hv12 ⊢
    generalize ([wt, w1, x3, x4, x5, x6] : List Str) = LS at e12 all
    refine ⟨L, rfl, ⟨_, SqL.of e12⟩, ?_⟩
    refine for_list (K := K) (a := L) (xs := LS.map V.str) (fun j σ H' => ∃ (v7' v8' : Option V), σ = [some (.ref a), some (.ref p), some (.int (0 + (i : Int))), some ov, some vv, some (.str wt), some (.ref l), v7', v8', v9, v10, v11, v12] ∧ Same H12 H') ⟨v7, v8, rfl, fun _ _ e => e⟩ (fun j σ H' _ ⟨_, _, _, S⟩ => SqL.of (S _ _ e12)) ?_ ?_
    · rintro j y σ H13 hj ⟨v7', v8', rfl, S13⟩
      obtain ⟨s6', hs6', rfl⟩ : ∃ s ∈ LS, y = V.str s := by
        rw [List.getElem?_map] at hj
        cases e : LS[j]? with
        | none => rw [e] at hj; cases hj
        | some s => rw [e] at hj; exact ⟨s, List.mem_of_getElem? e, (Option.some.inj hj).symm⟩
      obtain ⟨al1, al2⟩ := all s6' hs6'
      refine ⟨.str s6', (by kernel_rfl), s6', t, rfl, al2, al1, fun yv H14 S14 hy => ?_⟩
      have sm := S13.trans S14
      refine ⟨yv, (by kernel_rfl), vv, (by kernel_rfl), t, t, hy, hv12.same sm, by omega, by omega, by cases t; exact .inl ⟨_, _, rfl, rfl⟩; exact .inr ⟨_, _, _, _, rfl, rfl⟩, fun H15 S15 => ?_⟩
      refine ⟨_, rfl, ite_no (by rw [decide_eq_true rfl]; rfl) ?_⟩
      refine ⟨yv, (by kernel_rfl), yv, t, rfl, hy.same S15, (by omega), (by omega), fun y1 H16 G16 S16 N16 hy1 => ?_⟩
      have sm2 := (sm.trans S15).trans S16
      refine ⟨ov, (by kernel_rfl), dOf t, dOf t, dp_own (hy1.same N16.in_), dp_own (ho12.same sm2), shaped_own ok (by omega), shaped_own ok (by omega), _, rfl, ?_⟩
      refine ite_no (by rw [eqv_own, decide_eq_true rfl]; rfl) ?_
      exact ⟨_, _, rfl, sm2⟩
    · rintro σ H13 ⟨v7', v8', rfl, S13⟩
      refine ⟨z10, _, _, _, _, _, _, _, _, _, _, _, rfl, (S12.same S13).le (by omega)⟩
  · rintro σ H1 ⟨z, v2, v3, v4, v5, v6, v7, v8, v9, v10, v11, v12, rfl, S1⟩
    clear S1 Z hp
    refine ⟨by show 0 ≤ sizeLine; decide, fun q nq => ?_⟩
    have hq := upd_same (H := H1) (a := q) (o := .tup [])
    generalize upd H1 q (.tup []) = H2 at hq ⊢
    intro nx dn n1 n2 n3
    have m1 : Same H2 (upd H2 dn (.own nx)) := same_new n2
    have m2 : ∀ o, Same H2 (upd (upd H2 dn (.own nx)) nx o) := fun o => same_put m1 n1
    refine ⟨nx, dn, q, "Nil", [], rfl, upd_same, m2 _ _ _ hq, rfl, ?_⟩
    rw [upd_upd]
    have hv0 : VAt C (upd (upd H2 dn (.own nx)) nx (.ins C dn (mkF "Nil" q))) (.ref nx) (chT 0) := .mk upd_same (m2 _ _ _ hq) .nil
    generalize upd (upd H2 dn (.own nx)) nx (.ins C dn (mkF "Nil" q)) = H3 at hv0 ⊢
    refine ⟨_, _, _, rfl, ?_⟩
    refine ⟨.int 2000, (by kernel_rfl), 2000, rfl, by decide, by decide, ?_⟩
    refine for_range (lo := 0) (n := 2000) (fun k σ H' => ∃ (cv : V) (v12 : Option V), σ = [some (.ref a), some (.ref p), v2, v3, v4, v5, v6, v7, v8, some (.int 2000), some cv, some (.str "Nil"), v12] ∧ VAt C H' cv (chT k)) ⟨.ref nx, v12, rfl, hv0⟩ ?_ ?_
    · rintro k σ H4 hk ⟨cv, v12, rfl, hcv⟩
      refine ⟨cv, (by kernel_rfl), by show 1 ≤ sizeLine; decide, fun q nq => ?_⟩
      have s1 := same_new (o := .tup [cv]) nq
      have hq := upd_same (H := H4) (a := q) (o := .tup [cv])
      have hc1 := hcv.same s1
      generalize upd H4 q (.tup [cv]) = H5 at hq hc1 ⊢
      intro nx dn n1 n2 n3
      have m1 : Same H5 (upd H5 dn (.own nx)) := same_new n2
      have m2 : ∀ o, Same H5 (upd (upd H5 dn (.own nx)) nx o) := fun o => same_put m1 n1
      refine ⟨nx, dn, q, "S", [cv], rfl, upd_same, m2 _ _ _ hq, rfl, ?_⟩
      rw [upd_upd]
      exact ⟨.ref nx, _, rfl, .mk upd_same (m2 _ _ _ hq) (.cons (hc1.same (m2 _)) .nil)⟩
    · rintro σ H4 ⟨cv, v12, rfl, hcv⟩
      have g0 := chT_good 2000
      have z0' := chT_sz 2000
      have w0 := wC_ch 1999
      have ll1 : ("S (" : Str).length = 3 := rfl
      have ll2 : (")" : Str).length = 1 := rfl
      have ll3 : ("S Nil" : Str).length = 5 := rfl
      have ec1 : codes (timesS "S (" ((1999 : Nat) : Int)) = (List.replicate 1999 [83, 32, 40]).flatten := by rw [codes_timesS, show codes ("S (" : Str) = [83, 32, 40] from by decide +kernel]
      have ec2 : codes (timesS ")" ((1999 : Nat) : Int)) = List.replicate 1999 41 := by
        rw [codes_timesS, show codes (")" : Str) = [41] from by decide +kernel]
        simp
      have len1 : (timesS "S (" ((1999 : Nat) : Int)).length = 5997 := by rw [len_codes, ec1]; simp
      have len2 : (timesS ")" ((1999 : Nat) : Int)).length = 1999 := by rw [len_codes, ec2]; simp
      refine ⟨.int 2000, (by kernel_rfl), _, _, rfl, rfl, "S (", ((1999 : Nat) : Int), rfl, rfl, by decide, by decide, by decide, by decide, _, _, rfl, rfl, sz_of (by rw [len1, ll3]; decide), .int 2000, (by kernel_rfl), _, _, rfl, rfl, ")", ((1999 : Nat) : Int), rfl, rfl, by decide, by decide, by decide, by decide, _, _, rfl, rfl, sz_of (by rw [len_app, len1, len2, ll3]; decide), ?_⟩
      have ew : codes (timesS "S (" ((1999 : Nat) : Int) ++ "S Nil" ++ timesS ")" ((1999 : Nat) : Int)) = wC (chT 2000) := by
        rw [codes_app, codes_app, ec1, ec2, w0, show codes ("S Nil" : Str) = [83, 32, 78, 105, 108] from by decide +kernel, List.append_assoc]
      have lw : (timesS "S (" ((1999 : Nat) : Int) ++ "S Nil" ++ timesS ")" ((1999 : Nat) : Int)).length = 8001 := by rw [len_app, len_app, len1, len2, ll3]
      generalize timesS "S (" ((1999 : Nat) : Int) ++ "S Nil" ++ timesS ")" ((1999 : Nat) : Int) = ww at ew lw ⊢
      clear w0 ec1 ec2 len1 len2
      generalize chT 2000 = ct at hcv g0 z0' ew
      refine ⟨cv, (by kernel_rfl), cv, ct, rfl, hcv, g0, (by omega), fun H5 ws S5 hws => ?_⟩
      refine ⟨.str ww, (by kernel_rfl), rfl, _, rfl, ?_⟩
      obtain rfl : ws = ww := str_ext (hws.trans ew.symm)
      refine ite_yes (decide_eq_true rfl) ?_
      refine ⟨.str ws, (by kernel_rfl), ws, ct, rfl, (by omega), tells_text g0 ew, fun y H6 S6 hy => ?_⟩
      refine ⟨cv, (by kernel_rfl), ct, ct, hy, (hcv.same S5).same S6, (by omega), (by omega), fun H7 S7 => ?_⟩
      refine ⟨_, rfl, ?_⟩
      refine ite_yes (decide_eq_true rfl) ?_
      have pp : codes (("(" : Str) ++ ws ++ ")") = 40 :: (wC ct ++ [41]) := by
        rw [codes_app, codes_app, ew, show codes ("(" : Str) = [40] from by decide +kernel, show codes (")" : Str) = [41] from by decide +kernel]
        rfl
      have np : (("(" : Str) ++ ws ++ ")").length = 8003 := by rw [len_app, len_app, lw]; rfl
      refine ⟨.str ws, (by kernel_rfl), _, _, rfl, rfl, sz_of (by rw [lw]; decide), _, _, rfl, rfl, sz_of (by rw [len_app, lw]; decide), ?_⟩
      generalize ("(" : Str) ++ ws ++ ")" = wp at pp np ⊢
      refine ⟨wp, ct, rfl, (by omega), tells_paren g0 pp, fun y2 H8 S8 hy2 => ?_⟩
      refine ⟨cv, (by kernel_rfl), ct, ct, hy2, (((hcv.same S5).same S6).same S7).same S8, (by omega), (by omega), fun H9 S9 => ?_⟩
      show V.bl (decide (ct = ct)) = .bl true
      rw [decide_eq_true rfl]
end
end Nm
namespace Nm
open PySem PySem.Spec PyProof.Rows L2
/-! ### the end, where the law's own body asks what guards run: none, at the caller -/
theorem entry {P : Program} {w : World} {K : PySem.W.Frag} {h : Heap} {a : Addr} {vs : List Value} {ns : List Int} (KX : K.In h) (ha : h.get? a = some { cls := .type "list", data := .seq vs.toArray }) (hi : IntsAre vs ns) (hl : ns.length ≤ sizeLine) :
    ∃ H : Hp, SqL K H a (ns.map V.int) ∧ HOk P w H h ∧ ∀ b u, H b = some u → b = a ∧ K.lookup a = none ∧ u = .frz { cls := .type "list", data := .seq vs.toArray } (.lst (ns.map V.int)) := by
  have rv := vals_ints hi
  have lenV := hi.length
  cases hk : K.lookup a with
  | some o =>
    have e := (KX a o hk).symm.trans ha
    cases e
    exact ⟨fun _ => none, .inr ⟨_, vs.toArray, _, hk, rfl, rfl, rfl, by rw [List.size_toArray, lenV]; exact hl, by simpa using rv⟩, (fun b u z => nomatch (show (none : Option HO) = some u from z)), fun b u z => nomatch (show (none : Option HO) = some u from z)⟩
  | none =>
    let o : Obj := { cls := .type "list", data := .seq vs.toArray }
    have at_ : ∀ b u, (if b = a then some (HO.frz o (.lst (ns.map V.int))) else none) = some u → b = a ∧ u = .frz o (.lst (ns.map V.int)) := fun b u z => by
      by_cases q : b = a
      · rw [if_pos q] at z
        exact ⟨q, (Option.some.inj z).symm⟩
      · rw [if_neg q] at z
        cases z
    refine ⟨fun b => if b = a then some (.frz o (.lst (ns.map V.int))) else none, .inl (.inr ⟨o, if_pos rfl⟩), fun b u z => ?_, fun b u z => ⟨(at_ b u z).1, rfl, (at_ b u z).2⟩⟩
    obtain ⟨rfl, rfl⟩ := at_ b u z
    exact ⟨ha, by rw [List.length_map]; exact hl, vs, _, rv, ha⟩
/-- a law's body, at the caller, from its term of rules and its reading -/
theorem walk_g {l : PySem.W.OpenLaw} {k : Nat} {q : Program} {loose : List Str} {XP : (Str → Option Value) → Heap → Prop} {YP : World → Heap → Prop} {d : DefRec} {K : Params → PySem.W.Frag} {x : Str} {N : List Str} {st : Stmt} {qual : Str}
    (hn : l.most = some 63) (hdf : d.params.defaults = []) (hr : Room (k + 1) callerA) (S : FnScope N [x] (defScope st)) (hY : ∀ (w : World) (h : Heap), YP w h → (K w.params).In h)
    (F : ∀ (w : World) (mg : Str → Option Value) (fa : Addr) (h : Heap), (K w.params).In h → h.Ns mainGlobals mg → mg d.name = some (.ref fa) →
      ∃ fd : FuncData, Fun (K w.params) qual qual st fa fd ∧ (∀ (s : Shared) (u : Value), BindsTo s fd ⟨[u], []⟩ [(x, u)]) ∧
        ∀ (base : Heap) (cdv : Value) (s : Shared) (H : Hp) (a : Addr) (ns : List Int), (K w.params).In base → base.Ns mainGlobals mg → ns.length ≤ 63 → SqL (K w.params) H a (ns.map V.int) →
          ∃ t, PSs (cxOf CX0 l.prog w (K w.params) mg base N qual (defScope st) fa cdv callerA [] s H E0).nox (defBody st) t ∧ t { nx := fun _ _ => False, rt := fun v _ => v = .bl true } (start N [.ref a]) H) :
    PySem.W.WalkO q loose XP YP l.row.toRowW d [] (fun f vs => PySem.call f vs) := by
  refine Att.attach_call hn hdf ?_
  intro w s₀ s₁ mg mb fa o pm cd doc a vs ns G Y ho hd hcd hmg hobj hints hlen hg
  have KX := hY w _ Y
  obtain ⟨fd, FF, hb, body⟩ := F w mg fa _ KX G.T.g hmg
  obtain ⟨H, hS, hok, only⟩ := entry (P := l.prog) (w := w) KX hobj hints (Nat.le_trans hlen (by decide))
  -- what the base keeps: all but the script
  have keepB : ∀ b o, s₁.heap.get? b = some o → (b = a → (K w.params).lookup a = none → False) → (hidT s₁.heap H).get? b = some o := fun b o e n => hidT_get e (by
    cases z : H b with
    | none => rfl
    | some u => exact (n (only b u z).1 (only b u z).2.1).elim)
  have KB : (K w.params).In (hidT s₁.heap H) := fun b o e => keepB b o (KX b o e) fun q z => by
    rw [q, z] at e
    cases e
  have nsB : ∀ {b : Addr} {m : Str → Option Value}, s₁.heap.Ns b m → (hidT s₁.heap H).Ns b m := fun {b m} n => by
    obtain ⟨o, es, ep, e, hdat, r⟩ := n
    refine ⟨o, es, ep, keepB b o e fun q _ => ?_, hdat, r⟩
    rw [q, hobj] at e
    cases e
    cases hdat
  have limB : (hidT s₁.heap H).NoLimit := by
    obtain ⟨mc, h1, h2⟩ := G.T.nolimit
    exact ⟨mc, nsB h1, h2⟩
  have e0 : Env0 l.prog w (K w.params) mg (hidT s₁.heap H) callerA [] s₁ H :=
    { frames := rfl, mod := ⟨KB, nsB G.T.g, ⟨mb, nsB G.T.b, G.T.builtins⟩, limB⟩, bs := fun b o e => of_hidT e, bsz := Nat.le_of_eq (hidT_size _ _), funs := trivial, frf := (fun b z => by cases z), hok := hok, bare := .of_eq hg }
  obtain ⟨oc, od, kV, dc, pmv, an, cdv, ct, osl, rfl, lk, hcode⟩ := FF.ex
  have hpar : (defScope st).names.lookup x = some .local ∨ (defScope st).names.lookup x = some .cell := S.par x (List.mem_singleton.mpr rfl)
  refine Att.call_fn KX G.T.nolimit lk hcode hr.depth (hb s₁ (.ref a)) ?_ (fun s2 ic => ?_) S.co S.gen S.kind
  · rcases hpar with z | z <;> simp [z]
  obtain ⟨t, ht, hq⟩ := body _ cdv s₁ H a ns KB (nsB G.T.g) hlen hS
  have I : Inv (cxOf CX0 l.prog w (K w.params) mg (hidT s₁.heap H) N qual (defScope st) fa cdv callerA [] s₁ H E0) [] (start N [.ref a]) H s2 := inv_start S hr.hd e0 rfl (.cons rfl .nil) ic
  have old : ∀ (s' : Shared) (σ' : L2.St) (H' : Hp), Inv (cxOf CX0 l.prog w (K w.params) mg (hidT s₁.heap H) N qual (defScope st) fa cdv callerA [] s₁ H E0) [] σ' H' s' → OldK s₁.heap s'.heap := fun s' σ' H' J => by
    refine OldK.of_keep fun b o e => ?_
    cases z : H b with
    | none => exact J.base.keep b o e z (by intro y; cases y) (by intro y; cases y)
    | some u =>
      obtain ⟨_, _, rfl⟩ := only b u z
      have p1 := (hok b _ z).1
      have p2 := (J.hok b _ (J.base.frzs b _ _ z)).1
      rw [e] at p1
      cases p1
      exact p2
  refine wpAny_mono (ht.nox.run [] s2 _ H _ I hq) ?_ ?_
  · intro fl s' hs
    cases fl with
    | ret u =>
      obtain ⟨v, σ', H', J, rv, q⟩ := hs
      have q' : v = V.bl true := q
      subst q'
      have ru : u = Value.bool true := rv
      subst ru
      exact ⟨rfl, old _ _ _ J, J.os, J.bare⟩
    | next =>
      obtain ⟨_, _, _, q⟩ := hs
      exact False.elim q
    | brk =>
      obtain ⟨_, _, _, q⟩ := hs
      exact False.elim q
    | cont =>
      obtain ⟨_, _, _, q⟩ := hs
      exact False.elim q
  · intro e s' hs
    exact wpAny_mono hs (fun _ _ z => False.elim z) fun _ _ z => False.elim z
end Nm
namespace Nm
open PySem PySem.Spec PyProof.Rows L2
/-! ### the end: what the top has written -/
/-- a def of the text, raw -/
structure FRaw (K : PySem.W.Frag) (x qual : Str) (st : Stmt) (f : Addr) : Prop where
  ex : ∃ (oc : Value) (od : Option Addr) (kV doc pm : Value) (an : Option Addr) (cdv ct : Value) (osl : Array (Option Value)),
    K.lookup f = some ⟨oc, od, .func (PySem.W.fnOf x qual (defArgs st) (defBody st) (defScope st) .none kV doc pm an cdv ct), osl⟩ ∧ PySem.W.codeIn K cdv qual = true
  kp : PySem.W.keepIn K (.ref f) = true
theorem fraw_mk {K : PySem.W.Frag} {x qual : Str} {st : Stmt} {f : Addr} {oc : Value} {od an : Option Addr} {osl : Array (Option Value)} {kV doc pm cdv ct : Value} (l : K.lookup f = some ⟨oc, od, .func (PySem.W.fnOf x qual (defArgs st) (defBody st) (defScope st) .none kV doc pm an cdv ct), osl⟩)
    (c : PySem.W.codeIn K cdv qual = true) (k : PySem.W.keepIn K (.ref f) = true) : FRaw K x qual st f := ⟨⟨oc, od, kV, doc, pm, an, cdv, ct, osl, l, c⟩, k⟩

theorem kit_own {K : PySem.W.Frag} {C : Addr} {t : Value} {b : Bool} (n : (t == .ref C) = false) (i : PySem.W.isClsIn K C = true) (y : PySem.W.typeIn K (.ref C) = some (.type "type")) (s : PySem.W.subIn K t (.ref C) = some b) : PySem.W.kitOne K t (.ref C) = some b := by
  unfold PySem.W.kitOne
  rw [n]
  have i' : (PySem.W.clsIn K C).isSome = true := i
  show (if ((PySem.W.clsIn K C).isSome && PySem.W.typeIn K (.ref C) == some (.type "type")) = true then PySem.W.subIn K t (.ref C) else none) = some b
  rw [i', y, if_pos (by rfl)]
  exact s
theorem kit_blt {K : PySem.W.Frag} {C : Addr} {T : String} {b : Bool} (m : PySem.W.kitMeta T = true) (s : PySem.W.subIn K (.ref C) (.type T) = some b) : PySem.W.kitOne K (.ref C) (.type T) = some b := by
  show (if (Value.ref C == Value.type T) = true then some true else if PySem.W.kitMeta T = true then PySem.W.subIn K (.ref C) (.type T) else none) = some b
  rw [if_neg (by simp), if_pos m]
  exact s

theorem fin {P : Program} {w : World} {K : PySem.W.Frag} {h : Heap} {mg : Str → Option Value} {fa fNa0 fWr0 C fE f0 fA fI fB fN fW fP fV fM fR fT fO f1 fD fQ f2 f3 f4 fS fF f5 f6 fz : Addr} {t_BIG_LETTERS t_SMALL_LETTERS t_DIGITS t_MOST_SIGNS t_MOST_DIGITS : Tok} (X : K.In h) (G : h.Ns mainGlobals mg) (hfa : mg "law" = some (.ref fa))
    (z_isinstance : PySem.W.nsIn K mainGlobals "isinstance" = some none)
    (z_len : PySem.W.nsIn K mainGlobals "len" = some none)
    (z_range : PySem.W.nsIn K mainGlobals "range" = some none)
    (z_reversed : PySem.W.nsIn K mainGlobals "reversed" = some none)
    (z_tuple : PySem.W.nsIn K mainGlobals "tuple" = some none)
    (z_list : PySem.W.nsIn K mainGlobals "list" = some none)
    (z_int : PySem.W.nsIn K mainGlobals "int" = some none)
    (z_bool : PySem.W.nsIn K mainGlobals "bool" = some none)
    (z_zip : PySem.W.nsIn K mainGlobals "zip" = some none)
    (z_str : PySem.W.nsIn K mainGlobals "str" = some none)
    (z_enumerate : PySem.W.nsIn K mainGlobals "enumerate" = some none)
    (v_BIG_LETTERS : PySem.W.nsIn K mainGlobals "BIG_LETTERS" = some (some (.str "ABCDEFGHIJKLMNOPQRSTUVWXYZ" t_BIG_LETTERS)))
    (v_SMALL_LETTERS : PySem.W.nsIn K mainGlobals "SMALL_LETTERS" = some (some (.str "abcdefghijklmnopqrstuvwxyz" t_SMALL_LETTERS)))
    (v_DIGITS : PySem.W.nsIn K mainGlobals "DIGITS" = some (some (.str "0123456789" t_DIGITS)))
    (v_MOST_SIGNS : PySem.W.nsIn K mainGlobals "MOST_SIGNS" = some (some (.int 24 t_MOST_SIGNS)))
    (v_MOST_DIGITS : PySem.W.nsIn K mainGlobals "MOST_DIGITS" = some (some (.int 400 t_MOST_DIGITS)))
    (m_g : PySem.W.nsIn K mainGlobals "Made" = some (some (.ref C)))
    (m_pg : PySem.W.plainGet K C Str.empty = true)
    (m_hd : PySem.W.hasDictIn K C = true)
    (m_po : PySem.W.plainOver K C = true)
    (m_sa : PySem.W.findIn K (.ref C) "__setattr__" = some (some (.builtin "object.__setattr__")))
    (m_nM : PySem.W.findIn K (.ref C) "maker" = some none)
    (m_nP : PySem.W.findIn K (.ref C) "parts" = some none)
    (m_eqF : PySem.W.findIn K (.ref C) "__eq__" = some (some (.ref fE)))
    (m_eqK : PySem.W.isFn K (.ref fE) = true)
    (m_neF : PySem.W.findIn K (.ref C) "__ne__" = some (some (.builtin "object.__ne__")))
    (m_subI : PySem.W.subIn K (.type "int") (.ref C) = some false)
    (m_subC : PySem.W.subIn K (.ref C) (.type "int") = some false)
    (m_subB : PySem.W.subIn K (.ref C) (.type "bool") = some false)
    (m_subS : PySem.W.subIn K (.ref C) (.type "str") = some false)
    (m_sO : PySem.W.subIn K (.ref C) (.type "object") = some true)
    (m_iC : PySem.W.isClsIn K C = true)
    (m_ty : PySem.W.typeIn K (.ref C) = some (.type "type"))
    (m_ca : PySem.W.findIn K (.ref C) "__class__" = some (some (.builtin "object.__class__")))
    (m_gt : PySem.W.specialIn K (.builtin "object.__class__") "__get__" = some (some (.builtin "getset_descriptor.__get__")))
    (m_tk : PySem.W.takesIn K (.builtin "object.__class__") = some true)
    (m_mo : PySem.W.mroIn K C (.type "object") = some true)
    (m_mk : PySem.W.makesIn K C = true)
    (m_in : PySem.W.findIn K (.ref C) "__init__" = some (some (.ref f0)))
    (m_fn : PySem.W.isFn K (.ref f0) = true)
    (m_kp : PySem.W.keepIn K (.ref C) = true)
    (d_init : FRaw K "__init__" "Made.__init__" sMadeinit f0)
    (d_eq : FRaw K "__eq__" "Made.__eq__" sMadeeq fE)
    (g_all_among : PySem.W.nsIn K mainGlobals "all_among" = some (some (.ref fA)))
    (d_all_among : FRaw K "all_among" "all_among" sallamong fA)
    (g_is_name : PySem.W.nsIn K mainGlobals "is_name" = some (some (.ref fI)))
    (d_is_name : FRaw K "is_name" "is_name" sisname fI)
    (g_is_big : PySem.W.nsIn K mainGlobals "is_big" = some (some (.ref fB)))
    (d_is_big : FRaw K "is_big" "is_big" sisbig fB)
    (g_is_natural : PySem.W.nsIn K mainGlobals "is_natural" = some (some (.ref fNa0)))
    (d_is_natural : FRaw K "is_natural" "is_natural" sisnatural fNa0)
    (g_is_written : PySem.W.nsIn K mainGlobals "is_written" = some (some (.ref fWr0)))
    (d_is_written : FRaw K "is_written" "is_written" siswritten fWr0)
    (g_is_number : PySem.W.nsIn K mainGlobals "is_number" = some (some (.ref fN)))
    (d_is_number : FRaw K "is_number" "is_number" sisnumber fN)
    (g_words_of : PySem.W.nsIn K mainGlobals "words_of" = some (some (.ref fW)))
    (d_words_of : FRaw K "words_of" "words_of" swordsof fW)
    (g_parts_of : PySem.W.nsIn K mainGlobals "parts_of" = some (some (.ref fP)))
    (d_parts_of : FRaw K "parts_of" "parts_of" spartsof fP)
    (g_written_value : PySem.W.nsIn K mainGlobals "written_value" = some (some (.ref fV)))
    (d_written_value : FRaw K "written_value" "written_value" swrittenvalue fV)
    (g_may_have_parts : PySem.W.nsIn K mainGlobals "may_have_parts" = some (some (.ref fM)))
    (d_may_have_parts : FRaw K "may_have_parts" "may_have_parts" smayhaveparts fM)
    (g_read_value : PySem.W.nsIn K mainGlobals "read_value" = some (some (.ref fR)))
    (d_read_value : FRaw K "read_value" "read_value" sreadvalue fR)
    (g_take_word : PySem.W.nsIn K mainGlobals "take_word" = some (some (.ref fT)))
    (d_take_word : FRaw K "take_word" "take_word" stakeword fT)
    (g_value_from : PySem.W.nsIn K mainGlobals "value_from" = some (some (.ref fO)))
    (d_value_from : FRaw K "value_from" "value_from" svaluefrom fO)
    (g_law_pen : PySem.W.nsIn K mainGlobals "_law_pen" = some (some (.ref f1)))
    (d_law_pen : FRaw K "_law_pen" "_law_pen" sPen f1)
    (g_law_draw : PySem.W.nsIn K mainGlobals "_law_draw" = some (some (.ref fD)))
    (d_law_draw : FRaw K "_law_draw" "_law_draw" sDraw fD)
    (g_law_pick : PySem.W.nsIn K mainGlobals "_law_pick" = some (some (.ref fQ)))
    (d_law_pick : FRaw K "_law_pick" "_law_pick" sPick fQ)
    (g_law_value_text : PySem.W.nsIn K mainGlobals "_law_value_text" = some (some (.ref f2)))
    (d_law_value_text : FRaw K "_law_value_text" "_law_value_text" sLvaluetext f2)
    (g_law_own : PySem.W.nsIn K mainGlobals "_law_own" = some (some (.ref f3)))
    (d_law_own : FRaw K "_law_own" "_law_own" sLown f3)
    (g_law_made : PySem.W.nsIn K mainGlobals "_law_made" = some (some (.ref f4)))
    (d_law_made : FRaw K "_law_made" "_law_made" sLmade f4)
    (g_law_signs : PySem.W.nsIn K mainGlobals "_law_signs" = some (some (.ref fS)))
    (d_law_signs : FRaw K "_law_signs" "_law_signs" sLsigns fS)
    (g_law_fresh_name : PySem.W.nsIn K mainGlobals "_law_fresh_name" = some (some (.ref fF)))
    (d_law_fresh_name : FRaw K "_law_fresh_name" "_law_fresh_name" sLfreshname fF)
    (g_law_named_value : PySem.W.nsIn K mainGlobals "_law_named_value" = some (some (.ref f5)))
    (d_law_named_value : FRaw K "_law_named_value" "_law_named_value" sLnamedvalue f5)
    (g_law_wide : PySem.W.nsIn K mainGlobals "_law_wide" = some (some (.ref f6)))
    (d_law_wide : FRaw K "_law_wide" "_law_wide" sLwide f6)
    (g_law : PySem.W.nsIn K mainGlobals "law" = some (some (.ref fz)))
    (d_law : FRaw K "law" "law" slaw fz)
    : ∃ fd : FuncData, Fun K "law" "law" slaw fa fd ∧ (∀ (s : Shared) (u : Value), BindsTo s fd ⟨[u], []⟩ [("_law_script", u)]) ∧
        ∀ (base : Heap) (cdv : Value) (s : Shared) (H : Hp) (a : Addr) (ns : List Int), K.In base → base.Ns mainGlobals mg → ns.length ≤ 63 → SqL K H a (ns.map V.int) →
          ∃ t, PSs (cxOf CX0 P w K mg base Nlaw "law" (defScope slaw) fa cdv callerA [] s H E0).nox (defBody slaw) t ∧ t { nx := fun _ _ => False, rt := fun v _ => v = .bl true } (start Nlaw [.ref a]) H := by
  have e := hfa.symm.trans (PySem.W.mg_of X G g_law)
  cases e
  have MT : MadeTxt K mg C fE :=
    { cl := ⟨m_pg, m_hd, m_po, m_sa⟩, nM := m_nM, nP := m_nP, gM := PySem.W.mg_of X G m_g, eqF := m_eqF, eqK := m_eqK, neF := m_neF, subI := m_subI, subC := m_subC, kitC := (by unfold PySem.W.kitOne; rw [if_pos (by simp)]), kitI := kit_own rfl m_iC m_ty m_subI, kitB := kit_blt (by decide +kernel) m_subB, kitN := kit_blt (by decide +kernel) m_subC, ca := m_ca, gt := m_gt, tk := m_tk, mo := m_mo }
  have kS : PySem.W.kitOne K (.ref C) (.type "str") = some false := kit_blt (by decide +kernel) m_subS
  have MkC : Mk K C f0 := ⟨m_mk, m_in, m_fn, m_kp⟩
  obtain ⟨oc, od, kV, doc, pm, an, cdv, ct, osl, lk, cc⟩ := d_init.ex
  have F_init := fun_mk (st := sMadeinit) lk cc d_init.kp
  have B_init := F_init.binds (ps := ["self", "maker", "parts"]) fun _ _ _ _ _ _ us hl => match us, hl with | [_, _, _], _ => rfl
  generalize PySem.W.fnOf _ _ _ _ _ _ kV doc pm an cdv ct = fd_init at F_init B_init
  clear lk cc
  obtain ⟨oc, od, kV, doc, pm, an, cdv, ct, osl, lk, cc⟩ := d_eq.ex
  have F_eq := fun_mk (st := sMadeeq) lk cc d_eq.kp
  have B_eq := F_eq.binds (ps := ["self", "other"]) fun _ _ _ _ _ _ us hl => match us, hl with | [_, _], _ => rfl
  generalize PySem.W.fnOf _ _ _ _ _ _ kV doc pm an cdv ct = fd_eq at F_eq B_eq
  clear lk cc
  obtain ⟨oc, od, kV, doc, pm, an, cdv, ct, osl, lk, cc⟩ := d_all_among.ex
  have F_all_among := fun_mk (st := sallamong) lk cc d_all_among.kp
  have B_all_among := F_all_among.binds (ps := ["text", "signs"]) fun _ _ _ _ _ _ us hl => match us, hl with | [_, _], _ => rfl
  generalize PySem.W.fnOf _ _ _ _ _ _ kV doc pm an cdv ct = fd_all_among at F_all_among B_all_among
  clear lk cc
  obtain ⟨oc, od, kV, doc, pm, an, cdv, ct, osl, lk, cc⟩ := d_is_name.ex
  have F_is_name := fun_mk (st := sisname) lk cc d_is_name.kp
  have B_is_name := F_is_name.binds (ps := ["word", "first_signs"]) fun _ _ _ _ _ _ us hl => match us, hl with | [_, _], _ => rfl
  generalize PySem.W.fnOf _ _ _ _ _ _ kV doc pm an cdv ct = fd_is_name at F_is_name B_is_name
  clear lk cc
  obtain ⟨oc, od, kV, doc, pm, an, cdv, ct, osl, lk, cc⟩ := d_is_big.ex
  have F_is_big := fun_mk (st := sisbig) lk cc d_is_big.kp
  have B_is_big := F_is_big.binds (ps := ["word"]) fun _ _ _ _ _ _ us hl => match us, hl with | [_], _ => rfl
  generalize PySem.W.fnOf _ _ _ _ _ _ kV doc pm an cdv ct = fd_is_big at F_is_big B_is_big
  clear lk cc
  obtain ⟨oc, od, kV, doc, pm, an, cdv, ct, osl, lk, cc⟩ := d_is_natural.ex
  have F_is_natural := fun_mk (st := sisnatural) lk cc d_is_natural.kp
  have B_is_natural := F_is_natural.binds (ps := ["word"]) fun _ _ _ _ _ _ us hl => match us, hl with | [_], _ => rfl
  generalize PySem.W.fnOf _ _ _ _ _ _ kV doc pm an cdv ct = fd_is_natural at F_is_natural B_is_natural
  clear lk cc
  obtain ⟨oc, od, kV, doc, pm, an, cdv, ct, osl, lk, cc⟩ := d_is_written.ex
  have F_is_written := fun_mk (st := siswritten) lk cc d_is_written.kp
  have B_is_written := F_is_written.binds (ps := ["word"]) fun _ _ _ _ _ _ us hl => match us, hl with | [_], _ => rfl
  generalize PySem.W.fnOf _ _ _ _ _ _ kV doc pm an cdv ct = fd_is_written at F_is_written B_is_written
  clear lk cc
  obtain ⟨oc, od, kV, doc, pm, an, cdv, ct, osl, lk, cc⟩ := d_is_number.ex
  have F_is_number := fun_mk (st := sisnumber) lk cc d_is_number.kp
  have B_is_number := F_is_number.binds (ps := ["word"]) fun _ _ _ _ _ _ us hl => match us, hl with | [_], _ => rfl
  generalize PySem.W.fnOf _ _ _ _ _ _ kV doc pm an cdv ct = fd_is_number at F_is_number B_is_number
  clear lk cc
  replace F_is_number : NumFun K mg _ fd_is_number := ⟨F_is_number, _, _, _, _, F_is_written, B_is_written, PySem.W.mg_of X G g_is_written, F_is_natural, B_is_natural, PySem.W.mg_of X G g_is_natural⟩
  obtain ⟨oc, od, kV, doc, pm, an, cdv, ct, osl, lk, cc⟩ := d_words_of.ex
  have F_words_of := fun_mk (st := swordsof) lk cc d_words_of.kp
  have B_words_of := F_words_of.binds (ps := ["line"]) fun _ _ _ _ _ _ us hl => match us, hl with | [_], _ => rfl
  generalize PySem.W.fnOf _ _ _ _ _ _ kV doc pm an cdv ct = fd_words_of at F_words_of B_words_of
  clear lk cc
  obtain ⟨oc, od, kV, doc, pm, an, cdv, ct, osl, lk, cc⟩ := d_parts_of.ex
  have F_parts_of := fun_mk (st := spartsof) lk cc d_parts_of.kp
  have B_parts_of := F_parts_of.binds (ps := ["value"]) fun _ _ _ _ _ _ us hl => match us, hl with | [_], _ => rfl
  generalize PySem.W.fnOf _ _ _ _ _ _ kV doc pm an cdv ct = fd_parts_of at F_parts_of B_parts_of
  clear lk cc
  obtain ⟨oc, od, kV, doc, pm, an, cdv, ct, osl, lk, cc⟩ := d_written_value.ex
  have F_written_value := fun_mk (st := swrittenvalue) lk cc d_written_value.kp
  have B_written_value := F_written_value.binds (ps := ["value"]) fun _ _ _ _ _ _ us hl => match us, hl with | [_], _ => rfl
  generalize PySem.W.fnOf _ _ _ _ _ _ kV doc pm an cdv ct = fd_written_value at F_written_value B_written_value
  clear lk cc
  obtain ⟨oc, od, kV, doc, pm, an, cdv, ct, osl, lk, cc⟩ := d_may_have_parts.ex
  have F_may_have_parts := fun_mk (st := smayhaveparts) lk cc d_may_have_parts.kp
  have B_may_have_parts := F_may_have_parts.binds (ps := ["told"]) fun _ _ _ _ _ _ us hl => match us, hl with | [_], _ => rfl
  generalize PySem.W.fnOf _ _ _ _ _ _ kV doc pm an cdv ct = fd_may_have_parts at F_may_have_parts B_may_have_parts
  clear lk cc
  obtain ⟨oc, od, kV, doc, pm, an, cdv, ct, osl, lk, cc⟩ := d_read_value.ex
  have F_read_value := fun_mk (st := sreadvalue) lk cc d_read_value.kp
  have B_read_value := F_read_value.binds (ps := ["told"]) fun _ _ _ _ _ _ us hl => match us, hl with | [_], _ => rfl
  generalize PySem.W.fnOf _ _ _ _ _ _ kV doc pm an cdv ct = fd_read_value at F_read_value B_read_value
  clear lk cc
  obtain ⟨oc, od, kV, doc, pm, an, cdv, ct, osl, lk, cc⟩ := d_take_word.ex
  have F_take_word := fun_mk (st := stakeword) lk cc d_take_word.kp
  have B_take_word := F_take_word.binds (ps := ["opened", "word"]) fun _ _ _ _ _ _ us hl => match us, hl with | [_, _], _ => rfl
  generalize PySem.W.fnOf _ _ _ _ _ _ kV doc pm an cdv ct = fd_take_word at F_take_word B_take_word
  clear lk cc
  obtain ⟨oc, od, kV, doc, pm, an, cdv, ct, osl, lk, cc⟩ := d_value_from.ex
  have F_value_from := fun_mk (st := svaluefrom) lk cc d_value_from.kp
  have B_value_from := F_value_from.binds (ps := ["text"]) fun _ _ _ _ _ _ us hl => match us, hl with | [_], _ => rfl
  generalize PySem.W.fnOf _ _ _ _ _ _ kV doc pm an cdv ct = fd_value_from at F_value_from B_value_from
  clear lk cc
  obtain ⟨oc, od, kV, doc, pm, an, cdv, ct, osl, lk, cc⟩ := d_law_pen.ex
  have F_law_pen := fun_mk (st := sPen) lk cc d_law_pen.kp
  have B_law_pen := F_law_pen.binds (ps := ["_law_script"]) fun _ _ _ _ _ _ us hl => match us, hl with | [_], _ => rfl
  generalize PySem.W.fnOf _ _ _ _ _ _ kV doc pm an cdv ct = fd_law_pen at F_law_pen B_law_pen
  clear lk cc
  obtain ⟨oc, od, kV, doc, pm, an, cdv, ct, osl, lk, cc⟩ := d_law_draw.ex
  have F_law_draw := fun_mk (st := sDraw) lk cc d_law_draw.kp
  have B_law_draw := F_law_draw.binds (ps := ["_law_pen_here", "_law_many"]) fun _ _ _ _ _ _ us hl => match us, hl with | [_, _], _ => rfl
  generalize PySem.W.fnOf _ _ _ _ _ _ kV doc pm an cdv ct = fd_law_draw at F_law_draw B_law_draw
  clear lk cc
  obtain ⟨oc, od, kV, doc, pm, an, cdv, ct, osl, lk, cc⟩ := d_law_pick.ex
  have F_law_pick := fun_mk (st := sPick) lk cc d_law_pick.kp
  have B_law_pick := F_law_pick.binds (ps := ["_law_pen_here", "_law_some"]) fun _ _ _ _ _ _ us hl => match us, hl with | [_, _], _ => rfl
  generalize PySem.W.fnOf _ _ _ _ _ _ kV doc pm an cdv ct = fd_law_pick at F_law_pick B_law_pick
  clear lk cc
  obtain ⟨oc, od, kV, doc, pm, an, cdv, ct, osl, lk, cc⟩ := d_law_value_text.ex
  have F_law_value_text := fun_mk (st := sLvaluetext) lk cc d_law_value_text.kp
  have B_law_value_text := F_law_value_text.binds (ps := ["_law_value", "_law_is_outer"]) fun _ _ _ _ _ _ us hl => match us, hl with | [_, _], _ => rfl
  generalize PySem.W.fnOf _ _ _ _ _ _ kV doc pm an cdv ct = fd_law_value_text at F_law_value_text B_law_value_text
  clear lk cc
  obtain ⟨oc, od, kV, doc, pm, an, cdv, ct, osl, lk, cc⟩ := d_law_own.ex
  have F_law_own := fun_mk (st := sLown) lk cc d_law_own.kp
  have B_law_own := F_law_own.binds (ps := ["_law_value"]) fun _ _ _ _ _ _ us hl => match us, hl with | [_], _ => rfl
  generalize PySem.W.fnOf _ _ _ _ _ _ kV doc pm an cdv ct = fd_law_own at F_law_own B_law_own
  clear lk cc
  obtain ⟨oc, od, kV, doc, pm, an, cdv, ct, osl, lk, cc⟩ := d_law_made.ex
  have F_law_made := fun_mk (st := sLmade) lk cc d_law_made.kp
  have B_law_made := F_law_made.binds (ps := ["_law_value"]) fun _ _ _ _ _ _ us hl => match us, hl with | [_], _ => rfl
  generalize PySem.W.fnOf _ _ _ _ _ _ kV doc pm an cdv ct = fd_law_made at F_law_made B_law_made
  clear lk cc
  obtain ⟨oc, od, kV, doc, pm, an, cdv, ct, osl, lk, cc⟩ := d_law_signs.ex
  have F_law_signs := fun_mk (st := sLsigns) lk cc d_law_signs.kp
  have B_law_signs := F_law_signs.binds (ps := []) fun _ _ _ _ _ _ us hl => match us, hl with | [], _ => rfl
  generalize PySem.W.fnOf _ _ _ _ _ _ kV doc pm an cdv ct = fd_law_signs at F_law_signs B_law_signs
  clear lk cc
  obtain ⟨oc, od, kV, doc, pm, an, cdv, ct, osl, lk, cc⟩ := d_law_fresh_name.ex
  have F_law_fresh_name := fun_mk (st := sLfreshname) lk cc d_law_fresh_name.kp
  have B_law_fresh_name := F_law_fresh_name.binds (ps := ["_law_pen_here", "_law_first", "_law_used"]) fun _ _ _ _ _ _ us hl => match us, hl with | [_, _, _], _ => rfl
  generalize PySem.W.fnOf _ _ _ _ _ _ kV doc pm an cdv ct = fd_law_fresh_name at F_law_fresh_name B_law_fresh_name
  clear lk cc
  obtain ⟨oc, od, kV, doc, pm, an, cdv, ct, osl, lk, cc⟩ := d_law_named_value.ex
  have F_law_named_value := fun_mk (st := sLnamedvalue) lk cc d_law_named_value.kp
  have B_law_named_value := F_law_named_value.binds (ps := ["_law_pen_here", "_law_depth"]) fun _ _ _ _ _ _ us hl => match us, hl with | [_, _], _ => rfl
  generalize PySem.W.fnOf _ _ _ _ _ _ kV doc pm an cdv ct = fd_law_named_value at F_law_named_value B_law_named_value
  clear lk cc
  obtain ⟨oc, od, kV, doc, pm, an, cdv, ct, osl, lk, cc⟩ := d_law_wide.ex
  have F_law_wide := fun_mk (st := sLwide) lk cc d_law_wide.kp
  have B_law_wide := F_law_wide.binds (ps := ["_law_pen_here", "_law_text"]) fun _ _ _ _ _ _ us hl => match us, hl with | [_, _], _ => rfl
  generalize PySem.W.fnOf _ _ _ _ _ _ kV doc pm an cdv ct = fd_law_wide at F_law_wide B_law_wide
  clear lk cc
  have PT : PenTxt mg := ⟨PySem.W.mg_none_of X G z_int, PySem.W.mg_none_of X G z_list, PySem.W.mg_none_of X G z_len⟩
  have T : VTxt mg := {isinstance := PySem.W.mg_none_of X G z_isinstance, len := PySem.W.mg_none_of X G z_len, range := PySem.W.mg_none_of X G z_range, reversed := PySem.W.mg_none_of X G z_reversed, tuple := PySem.W.mg_none_of X G z_tuple, list := PySem.W.mg_none_of X G z_list, int := PySem.W.mg_none_of X G z_int, bool := PySem.W.mg_none_of X G z_bool, zip := PySem.W.mg_none_of X G z_zip, str := PySem.W.mg_none_of X G z_str, enumerate := PySem.W.mg_none_of X G z_enumerate}
  have WT : WTxt mg := {
    BIG_LETTERS := ⟨_, PySem.W.mg_of X G v_BIG_LETTERS⟩
    SMALL_LETTERS := ⟨_, PySem.W.mg_of X G v_SMALL_LETTERS⟩
    DIGITS := ⟨_, PySem.W.mg_of X G v_DIGITS⟩
    MOST_SIGNS := ⟨_, PySem.W.mg_of X G v_MOST_SIGNS⟩
    MOST_DIGITS := ⟨_, PySem.W.mg_of X G v_MOST_DIGITS⟩
    len := PySem.W.mg_none_of X G z_len
    enumerate := PySem.W.mg_none_of X G z_enumerate
    tuple := PySem.W.mg_none_of X G z_tuple
    int := PySem.W.mg_none_of X G z_int
    list := PySem.W.mg_none_of X G z_list
    isinstance := PySem.W.mg_none_of X G z_isinstance
    range := PySem.W.mg_none_of X G z_range
  }
  obtain ⟨oc, od, kV, doc, pm, an, cdv, ct, osl, lk, cc⟩ := d_law.ex
  refine ⟨_, fun_mk (st := slaw) lk cc d_law.kp, fun s v => .of_eq rfl, fun base cdv s H a ns _ _ hlen hS => ?_⟩
  exact rd_law T WT PT MT kS m_sO MkC F_init B_init F_eq B_eq F_all_among B_all_among (PySem.W.mg_of X G g_all_among) F_is_name B_is_name (PySem.W.mg_of X G g_is_name) F_is_big B_is_big (PySem.W.mg_of X G g_is_big) F_is_number B_is_number (PySem.W.mg_of X G g_is_number) F_words_of B_words_of (PySem.W.mg_of X G g_words_of) F_parts_of B_parts_of (PySem.W.mg_of X G g_parts_of) F_written_value B_written_value (PySem.W.mg_of X G g_written_value) F_may_have_parts B_may_have_parts (PySem.W.mg_of X G g_may_have_parts) F_read_value B_read_value (PySem.W.mg_of X G g_read_value) F_take_word B_take_word (PySem.W.mg_of X G g_take_word) F_value_from B_value_from (PySem.W.mg_of X G g_value_from) F_law_pen B_law_pen (PySem.W.mg_of X G g_law_pen) F_law_draw B_law_draw (PySem.W.mg_of X G g_law_draw) F_law_pick B_law_pick (PySem.W.mg_of X G g_law_pick) F_law_value_text B_law_value_text (PySem.W.mg_of X G g_law_value_text) F_law_own B_law_own (PySem.W.mg_of X G g_law_own) F_law_made B_law_made (PySem.W.mg_of X G g_law_made) F_law_signs B_law_signs (PySem.W.mg_of X G g_law_signs) F_law_fresh_name B_law_fresh_name (PySem.W.mg_of X G g_law_fresh_name) F_law_named_value B_law_named_value (PySem.W.mg_of X G g_law_named_value) F_law_wide B_law_wide (PySem.W.mg_of X G g_law_wide) base cdv s H a ns hlen hS
end Nm
open PySem PySem.W PyProof.Rows in
set_option maxRecDepth 100000 in
set_option maxHeartbeats 0 in
theorem PySem.Challenge.cw_namedmeets_k02_whole_texts_of_values_holds : PySem.Challenge.rw_namedmeets_k02_whole_texts_of_values.Holds := by
  w_on; o_law; k_head; (case hw => w_witness2)
  k_fill
  refine Nm.walk_g (l := PySem.Challenge.rw_namedmeets_k02_whole_texts_of_values) (k := 12) (x := "_law_script") (st := Nm.slaw) (qual := "law") (N := Nm.Nlaw) rfl rfl ⟨rfl, by decide, by decide⟩ Nm.sclaw (fun w h Y => PySem.W.kIn_of Y) ?F
  intro w mg fa h KX G hmg
  refine' Nm.fin KX G hmg ?z_isinstance ?z_len ?z_range ?z_reversed ?z_tuple ?z_list ?z_int ?z_bool ?z_zip ?z_str ?z_enumerate ?v_BIG_LETTERS ?v_SMALL_LETTERS ?v_DIGITS ?v_MOST_SIGNS ?v_MOST_DIGITS ?m_g ?m_pg ?m_hd ?m_po ?m_sa ?m_nM ?m_nP ?m_eqF ?m_eqK ?m_neF ?m_subI ?m_subC ?m_subB ?m_subS ?m_sO ?m_iC ?m_ty ?m_ca ?m_gt ?m_tk ?m_mo ?m_mk ?m_in ?m_fn ?m_kp ?d_init ?d_eq ?g_all_among ?d_all_among ?g_is_name ?d_is_name ?g_is_big ?d_is_big ?g_is_natural ?d_is_natural ?g_is_written ?d_is_written ?g_is_number ?d_is_number ?g_words_of ?d_words_of ?g_parts_of ?d_parts_of ?g_written_value ?d_written_value ?g_may_have_parts ?d_may_have_parts ?g_read_value ?d_read_value ?g_take_word ?d_take_word ?g_value_from ?d_value_from ?g_law_pen ?d_law_pen ?g_law_draw ?d_law_draw ?g_law_pick ?d_law_pick ?g_law_value_text ?d_law_value_text ?g_law_own ?d_law_own ?g_law_made ?d_law_made ?g_law_signs ?d_law_signs ?g_law_fresh_name ?d_law_fresh_name ?g_law_named_value ?d_law_named_value ?g_law_wide ?d_law_wide ?g_law ?d_law
  (case m_g => k_is)
  (case z_isinstance => k_is)
  (case z_len => k_is)
  (case z_range => k_is)
  (case z_reversed => k_is)
  (case z_tuple => k_is)
  (case z_list => k_is)
  (case z_int => k_is)
  (case z_bool => k_is)
  (case z_zip => k_is)
  (case z_str => k_is)
  (case z_enumerate => k_is)
  (case v_BIG_LETTERS => k_is)
  (case v_SMALL_LETTERS => k_is)
  (case v_DIGITS => k_is)
  (case v_MOST_SIGNS => k_is)
  (case v_MOST_DIGITS => k_is)
  (case m_pg => k_is)
  (case m_hd => k_is)
  (case m_po => k_is)
  (case m_sa => k_is)
  (case m_nM => k_is)
  (case m_nP => k_is)
  (case m_eqF => k_is)
  (case m_eqK => k_is)
  (case m_neF => k_is)
  (case m_subI => k_is)
  (case m_subC => k_is)
  (case m_subB => k_is)
  (case m_subS => k_is)
  (case m_sO => k_is)
  (case m_iC => k_is)
  (case m_ty => k_is)
  (case m_ca => k_is)
  (case m_gt => k_is)
  (case m_tk => k_is)
  (case m_mo => k_is)
  (case m_mk => k_is)
  (case m_in => k_is)
  (case m_fn => k_is)
  (case m_kp => k_is)
  (case d_init => refine' Nm.fraw_mk ?a ?b ?c; (case a => k_is); (case b => k_is); (case c => k_is))
  (case d_eq => refine' Nm.fraw_mk ?a ?b ?c; (case a => k_is); (case b => k_is); (case c => k_is))
  (case g_all_among => k_is)
  (case d_all_among => refine' Nm.fraw_mk ?a ?b ?c; (case a => k_is); (case b => k_is); (case c => k_is))
  (case g_is_name => k_is)
  (case d_is_name => refine' Nm.fraw_mk ?a ?b ?c; (case a => k_is); (case b => k_is); (case c => k_is))
  (case g_is_big => k_is)
  (case d_is_big => refine' Nm.fraw_mk ?a ?b ?c; (case a => k_is); (case b => k_is); (case c => k_is))
  (case g_is_natural => k_is)
  (case d_is_natural => refine' Nm.fraw_mk ?a ?b ?c; (case a => k_is); (case b => k_is); (case c => k_is))
  (case g_is_written => k_is)
  (case d_is_written => refine' Nm.fraw_mk ?a ?b ?c; (case a => k_is); (case b => k_is); (case c => k_is))
  (case g_is_number => k_is)
  (case d_is_number => refine' Nm.fraw_mk ?a ?b ?c; (case a => k_is); (case b => k_is); (case c => k_is))
  (case g_words_of => k_is)
  (case d_words_of => refine' Nm.fraw_mk ?a ?b ?c; (case a => k_is); (case b => k_is); (case c => k_is))
  (case g_parts_of => k_is)
  (case d_parts_of => refine' Nm.fraw_mk ?a ?b ?c; (case a => k_is); (case b => k_is); (case c => k_is))
  (case g_written_value => k_is)
  (case d_written_value => refine' Nm.fraw_mk ?a ?b ?c; (case a => k_is); (case b => k_is); (case c => k_is))
  (case g_may_have_parts => k_is)
  (case d_may_have_parts => refine' Nm.fraw_mk ?a ?b ?c; (case a => k_is); (case b => k_is); (case c => k_is))
  (case g_read_value => k_is)
  (case d_read_value => refine' Nm.fraw_mk ?a ?b ?c; (case a => k_is); (case b => k_is); (case c => k_is))
  (case g_take_word => k_is)
  (case d_take_word => refine' Nm.fraw_mk ?a ?b ?c; (case a => k_is); (case b => k_is); (case c => k_is))
  (case g_value_from => k_is)
  (case d_value_from => refine' Nm.fraw_mk ?a ?b ?c; (case a => k_is); (case b => k_is); (case c => k_is))
  (case g_law_pen => k_is)
  (case d_law_pen => refine' Nm.fraw_mk ?a ?b ?c; (case a => k_is); (case b => k_is); (case c => k_is))
  (case g_law_draw => k_is)
  (case d_law_draw => refine' Nm.fraw_mk ?a ?b ?c; (case a => k_is); (case b => k_is); (case c => k_is))
  (case g_law_pick => k_is)
  (case d_law_pick => refine' Nm.fraw_mk ?a ?b ?c; (case a => k_is); (case b => k_is); (case c => k_is))
  (case g_law_value_text => k_is)
  (case d_law_value_text => refine' Nm.fraw_mk ?a ?b ?c; (case a => k_is); (case b => k_is); (case c => k_is))
  (case g_law_own => k_is)
  (case d_law_own => refine' Nm.fraw_mk ?a ?b ?c; (case a => k_is); (case b => k_is); (case c => k_is))
  (case g_law_made => k_is)
  (case d_law_made => refine' Nm.fraw_mk ?a ?b ?c; (case a => k_is); (case b => k_is); (case c => k_is))
  (case g_law_signs => k_is)
  (case d_law_signs => refine' Nm.fraw_mk ?a ?b ?c; (case a => k_is); (case b => k_is); (case c => k_is))
  (case g_law_fresh_name => k_is)
  (case d_law_fresh_name => refine' Nm.fraw_mk ?a ?b ?c; (case a => k_is); (case b => k_is); (case c => k_is))
  (case g_law_named_value => k_is)
  (case d_law_named_value => refine' Nm.fraw_mk ?a ?b ?c; (case a => k_is); (case b => k_is); (case c => k_is))
  (case g_law_wide => k_is)
  (case d_law_wide => refine' Nm.fraw_mk ?a ?b ?c; (case a => k_is); (case b => k_is); (case c => k_is))
  (case g_law => k_is)
  (case d_law => refine' Nm.fraw_mk ?a ?b ?c; (case a => k_is); (case b => k_is); (case c => k_is))
