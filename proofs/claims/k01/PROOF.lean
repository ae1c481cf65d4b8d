import PyProof.Rows.All
import Wide.All
import OpenK.AllK
import Wide.FinOn
import HandS.ForMost
import HandS.Walk
import KE.GoesEnum
import KE.GoesMore
import HandS.IsInst
import PySem.Challenge.RW_namedmeets_k01_values_and_places
import HandS.Zip
import HandS.TupAny
import HandS.RevRange
import HandS.Conv
import HandS.OwnEq
import KE.KDictZip
import HandS.Style
import HandS.ForExc
import Open.SpecLaws
import KE.OsGo
set_option Elab.async false
set_option maxRecDepth 100000
set_option maxHeartbeats 4000000
namespace Nm
open PySem PySem.Spec PyProof.Rows L2
/-! ### xs.extend(t), t a tuple -/
theorem list_extend_tup (l : Addr) (items : Array Value) (n : Nat) (b : Addr) (items2 : Array Value) (n2 : Nat) (dd : Option Addr) (sl : Array (Option Value)) (hs0 : ¬(!items.isEmpty && Builtin.List.listTooLong (items.size + items2.size)) = true) (hs1 : items.size ≤ sizeLine) (hs2 : items.size + items2.size ≤ sizeLine + 1) :
    Meets (Builtin.«list.extend» ⟨[.ref l, .ref b], []⟩) (fun _ R s => s.heap.get? l = some { cls := .type "list", dict := none, data := .seq items n, slots := #[] } ∧ s.heap.get? b = some { cls := .type "tuple", dict := dd, data := .seq items2 n2, slots := sl } ∧ R (.ok (.ret Value.none)) { s with heap := s.heap.update l (Obj.mapSeq fun x => x ++ items2), toks := s.toks }) :=
  .of_wp fun prog w A R s h => by
    obtain ⟨hp, g, d, tk, os⟩ := s; obtain ⟨hl, hb, h⟩ := h; have f1 := AutoSeq1.idx_int; have f2 := AutoSeq1.sub_tuple_tuple; have f3 := AutoSeq1.sub_list_list; have f4 := AutoSeq1.sub_tuple_list; have f5 := AutoSeq1.sub_list_tuple;
    have hz' : (items ++ items2).size ≤ sizeLine + 1 := by rw [Array.size_append]; exact hs2
    wp_walk using (wpAny_updateSeq hl rfl (hz := hs1) (_hz' := hz')), AutoSeq1.wpAny_loadPart' hl, AutoSeq1.wpAny_loadPart' hb; exact ⟨_, rfl, h⟩
section
variable {X : Cx}
def rExtT (K : PySem.W.Frag) : V → List V → Hp → VK → Prop := fun x vs H Q => ∃ l b xs zs, x = .ref l ∧ vs = [.ref b] ∧ H l = some (.lst xs) ∧ SqT K H b zs ∧ xs.length + zs.length ≤ sizeLine ∧ Q .non (upd H l (.lst (xs ++ zs)))
theorem mt_extendT : MtM X "list.extend" (rExtT X.K) := by
  intro pins s σ H x vs v us Q I rx rv h
  obtain ⟨l, b, xs, zs, rfl, rfl, hH, hB, hz, q⟩ := h
  cases rx
  obtain ⟨u, rfl, ru⟩ := rv.one
  cases ru
  obtain ⟨z, its, n, r, hl, e⟩ := I.lstM hH
  obtain ⟨its2, r2, ht, z2⟩ := I.tuple hB
  obtain ⟨⟨cls, dd, data, sl⟩, ho, hc, n2, hd⟩ := id ht
  simp only at hc hd
  subst hc hd
  have l2 := r2.length
  have hsz : its.toArray.size + its2.toArray.size ≤ sizeLine := by rw [List.size_toArray, List.size_toArray]; omega
  have hlong : ¬ (!its.toArray.isEmpty && Builtin.List.listTooLong (its.toArray.size + its2.toArray.size)) = true := by
    rw [notLongL hsz, Bool.and_false]
    exact Bool.false_ne_true
  refine call_meets F.slot_list_extend ⟨_, e, rfl⟩ F.entry_list_extend (F.args_list_extend_2 _ _)
    (list_extend_tup l its.toArray n b its2.toArray n2 dd sl hlong (by rw [List.size_toArray]; omega) (by omega)) ⟨e, ho, ?_⟩
  refine ⟨.non, _, I.lset (its' := its ++ its2) hH e (by simp) (r.append r2) ?_, rfl, q⟩
  rw [List.length_append]
  omega
end
end Nm
namespace Nm
open PySem PySem.Spec PyProof.Rows L2
/-! ### zip of two tuples, whose pairs are kept: one draw -/
section
variable {prog : Program} {w : World} {A : Around} {E : Value → Shared → Prop} {s : Shared} {z TI TO T i1 i2 a b : Addr} {f : Bool} {oT : Obj} {k : Nat} {xs ys : Array Value} {x y : Value}
/-- a draw while the pair ahead is still there -/
theorem zh_item {Q : Value → Shared → Prop} (D : ZipApart z TI TO i1 i2 a b) (hz : IsZipHeld s.heap z TI TO T f) (hT : s.heap.get? T = some oT) (hI : IsPair s.heap TI (.ref i1) (.ref i2))
    (t1 : s.heap.IsTupleIter i1 a k) (t2 : s.heap.IsTupleIter i2 b k) (p1 : s.heap.IsTuple a xs) (p2 : s.heap.IsTuple b ys) (ex : xs[k]? = some x) (ey : ys[k]? = some y)
    (go : ∀ g, IsZipHeld g z TI TO T true → g.IsTupleIter i1 a (k + 1) → g.IsTupleIter i2 b (k + 1) → IsPair g s.heap.objs.size x y → g.objs.size = s.heap.objs.size + 1 →
      (∀ c o, c ≠ z → c ≠ i1 → c ≠ i2 → s.heap.get? c = some o → g.get? c = some o) → Q (.ref s.heap.objs.size) { s with heap := g }) :
    wpAny (model prog w) A (Builtin.«zip.__next__» ⟨[.ref z], []⟩) (fun fin u => ∃ v, fin = .done (.ret v) ∧ Q v u) E s := by
  show wpAny _ A (field (.ref z) 2 >>= _) _ E s
  refine wpAny_bind (wpAny_field hz rfl (x := .bool false) rfl ?_)
  show wpAny _ A (field (.ref z) 3 >>= _) _ E s
  refine wpAny_bind (wpAny_field hz rfl (x := .ref TI) rfl (wpAny_bind (wpAny_seqItems hI rfl ?_)))
  show wpAny _ A (Builtin.SmallTypes.ownedTupleIsFree (.ref z) >>= _) _ E s
  refine wpAny_bind (wpAny_tupleHeld_zip hz hT fun g1 z1 s1 => ?_)
  simp only [Bool.false_eq_true, if_false]
  refine wpAny_bind ?_
  rw [← Array.forIn_toList]
  simp only [List.forIn_cons, List.forIn_nil]
  refine wpAny_bind (wpAny_bind (wpAny_holding ?_))
  show wpAny _ A (Builtin.SmallTypes.nextOf (.ref i1) >>= _) _ E _
  refine wpAny_bind (RZ.nextOf_tuple_item (s := { s with heap := g1 }) (t1.extBut s1.extBut D.i1z) (p1.extBut s1.extBut D.l1z) ex fun g2 u1 s2 => wpAny_pure (wpAny_pure ?_))
  refine wpAny_bind (wpAny_bind (wpAny_holding ?_))
  show wpAny _ A (Builtin.SmallTypes.nextOf (.ref i2) >>= _) _ E _
  have t2' := (t2.extBut s1.extBut D.i2z).extBut s2.extBut D.i12.symm
  have p2' := (p2.extBut s1.extBut D.l2z).extBut s2.extBut D.l2i1
  refine wpAny_bind (RZ.nextOf_tuple_item (s := { s with heap := g2 }) t2' p2' ey fun g3 u2 s3 => wpAny_pure (wpAny_pure (wpAny_pure ?_)))
  show wpAny _ A (newTuple [x, y] >>= _) _ E _
  refine wpAny_bind (wpAny_newTuple (wpAny_pure ⟨_, rfl, ?_⟩))
  show Q (.ref g3.objs.size) _
  have sz : g3.objs.size = s.heap.objs.size := s3.1.trans (s2.1.trans s1.1)
  have z3 : IsZipHeld g3 z TI TO T true := s3.extBut _ _ D.i2z.symm (s2.extBut _ _ D.i1z.symm z1)
  have v1 := u1.extBut s3.extBut D.i12
  have up : ∀ c o, g3.get? c = some o → (g3.push { cls := .type "tuple", data := .seq #[x, y] }).get? c = some o := fun c o e => Heap.get?_push_of_some _ e
  have pr : IsPair (g3.push { cls := .type "tuple", data := .seq #[x, y] }) g3.objs.size x y := Heap.get?_push_size _ rfl
  have sz4 : (g3.push { cls := .type "tuple", data := .seq #[x, y] }).objs.size = g3.objs.size + 1 := Heap.size_push ..
  rw [sz] at pr sz4 ⊢
  exact go _ (up _ _ z3) (v1.at fun o e => up _ o e) (u2.at fun o e => up _ o e) pr sz4 fun c o c1 c2 c3 e => up _ _ (s3.extBut _ _ c3 (s2.extBut _ _ c2 (s1.extBut _ _ c1 e)))
theorem zh_end {Q : Fin → Shared → Prop} (hh : A.handled = none) (D : ZipApart z TI TO i1 i2 a b) (hz : IsZipHeld s.heap z TI TO T f) (hT : s.heap.get? T = some oT) (hI : IsPair s.heap TI (.ref i1) (.ref i2))
    (t1 : s.heap.IsTupleIter i1 a k) (p1 : s.heap.IsTuple a xs) (ex : xs[k]? = none)
    (out : ∀ g e, (∀ c o, c ≠ z → c ≠ i1 → c ≠ i2 → s.heap.get? c = some o → g.get? c = some o) → (∃ o, g.get? e = some o ∧ o.cls = .type "StopIteration") → E (.ref e) { s with heap := g }) :
    wpAny (model prog w) A (Builtin.«zip.__next__» ⟨[.ref z], []⟩) Q E s := by
  show wpAny _ A (field (.ref z) 2 >>= _) Q E s
  refine wpAny_bind (wpAny_field hz rfl (x := .bool false) rfl ?_)
  show wpAny _ A (field (.ref z) 3 >>= _) Q E s
  refine wpAny_bind (wpAny_field hz rfl (x := .ref TI) rfl (wpAny_bind (wpAny_seqItems hI rfl ?_)))
  show wpAny _ A (Builtin.SmallTypes.ownedTupleIsFree (.ref z) >>= _) Q E s
  refine wpAny_bind (wpAny_tupleHeld_zip hz hT fun g1 z1 s1 => ?_)
  simp only [Bool.false_eq_true, if_false]
  refine wpAny_bind ?_
  rw [← Array.forIn_toList]
  simp only [List.forIn_cons, List.forIn_nil]
  refine wpAny_bind (wpAny_bind (wpAny_holding ?_))
  show wpAny _ A (Builtin.SmallTypes.nextOf (.ref i1) >>= _) _ E _
  refine wpAny_bind (RZ.nextOf_tuple_end (s := { s with heap := g1 }) hh (t1.extBut s1.extBut D.i1z) (p1.extBut s1.extBut D.l1z) ex fun g2 e s2 he => ?_)
  exact out g2 e (fun c o c1 c2 _ q => s2 _ _ c2 (s1.extBut _ _ c1 q)) he
theorem zh_next {Q : Option Value → Shared → Prop} (D : ZipApart z TI TO i1 i2 a b) (hz : IsZipHeld s.heap z TI TO T f) (hT : s.heap.get? T = some oT) (hI : IsPair s.heap TI (.ref i1) (.ref i2))
    (t1 : s.heap.IsTupleIter i1 a k) (t2 : s.heap.IsTupleIter i2 b k) (p1 : s.heap.IsTuple a xs) (p2 : s.heap.IsTuple b ys) (ex : xs[k]? = some x) (ey : ys[k]? = some y)
    (go : ∀ g, IsZipHeld g z TI TO T true → g.IsTupleIter i1 a (k + 1) → g.IsTupleIter i2 b (k + 1) → IsPair g s.heap.objs.size x y → g.objs.size = s.heap.objs.size + 1 →
      (∀ c o, c ≠ z → c ≠ i1 → c ≠ i2 → s.heap.get? c = some o → g.get? c = some o) → Q (some (.ref s.heap.objs.size)) { s with heap := g }) :
    wpAny (model prog w) A (pyNext (.ref z)) Q E s := by
  have ty : s.TypeIs (.ref z) "zip" := ⟨_, hz, rfl⟩
  unfold pyNext
  refine wpAny_bind (wpAny_attempt (wpAny_callSpecial?_slot (name := Str.ofString "__next__") ty F.slot_zip_next (wpAny_call_entry F.slot_zip_next ty F.entry_zip_next ?_ (F.args_zip_next_1 _))))
  exact zh_item D hz hT hI t1 t2 p1 p2 ex ey fun g h1 h2 h3 h4 h5 h6 => wpAny_pure (go g h1 h2 h3 h4 h5 h6)
theorem zh_stop {Q : Option Value → Shared → Prop} (hh : A.handled = none) (D : ZipApart z TI TO i1 i2 a b) (hz : IsZipHeld s.heap z TI TO T f) (hT : s.heap.get? T = some oT) (hI : IsPair s.heap TI (.ref i1) (.ref i2))
    (t1 : s.heap.IsTupleIter i1 a k) (p1 : s.heap.IsTuple a xs) (ex : xs[k]? = none)
    (out : ∀ g, (∀ c o, c ≠ z → c ≠ i1 → c ≠ i2 → s.heap.get? c = some o → g.get? c = some o) → Q none { s with heap := g }) :
    wpAny (model prog w) A (pyNext (.ref z)) Q E s := by
  have ty : s.TypeIs (.ref z) "zip" := ⟨_, hz, rfl⟩
  unfold pyNext
  refine wpAny_bind (wpAny_attempt (wpAny_callSpecial?_slot (name := Str.ofString "__next__") ty F.slot_zip_next (wpAny_call_entry F.slot_zip_next ty F.entry_zip_next ?_ (F.args_zip_next_1 _))))
  refine zh_end hh D hz hT hI t1 p1 ex fun g e kept ⟨o, ho, hc⟩ => ?_
  exact wpAny_bind (wpAny_isInstance (T := "StopIteration") (b := true) ⟨o, ho, hc⟩ isSubtype_stop (wpAny_pure (out g kept)))
/-- a zip of the tuples at a and b, k pairs drawn; none kept, or the last one is still there -/
structure ZipSt (h : Heap) (z TI TO i1 i2 a b : Addr) (k : Nat) : Prop where
  held : IsZip h z TI TO .none ∨ ∃ (T : Addr) (f : Bool) (oT : Obj), IsZipHeld h z TI TO T f ∧ h.get? T = some oT
  its : IsPair h TI (.ref i1) (.ref i2)
  old : ∃ u v, IsPair h TO u v
  t1 : h.IsTupleIter i1 a k
  t2 : h.IsTupleIter i2 b k
theorem ZipSt.keep {h g : Heap} (Z : ZipSt h z TI TO i1 i2 a b k) (up : ∀ c o, h.get? c = some o → g.get? c = some o) : ZipSt g z TI TO i1 i2 a b k := by
  obtain ⟨hz, hI, ⟨u, v, hO⟩, t1, t2⟩ := Z
  refine ⟨?_, up _ _ hI, ⟨u, v, up _ _ hO⟩, t1.at fun o e => up _ o e, t2.at fun o e => up _ o e⟩
  rcases hz with q | ⟨T, f, oT, q, q2⟩
  · exact .inl (up _ _ q)
  · exact .inr ⟨T, f, oT, up _ _ q, up _ _ q2⟩
theorem zs_next {Q : Option Value → Shared → Prop} (D : ZipApart z TI TO i1 i2 a b) (Z : ZipSt s.heap z TI TO i1 i2 a b k) (p1 : s.heap.IsTuple a xs) (p2 : s.heap.IsTuple b ys) (ex : xs[k]? = some x) (ey : ys[k]? = some y)
    (go : ∀ g, ZipSt g z TI TO i1 i2 a b (k + 1) → IsPair g s.heap.objs.size x y → g.objs.size = s.heap.objs.size + 1 →
      (∀ c o, c ∉ [z, TI, TO, i1, i2] → s.heap.get? c = some o → g.get? c = some o) → Q (some (.ref s.heap.objs.size)) { s with heap := g }) :
    wpAny (model prog w) A (pyNext (.ref z)) Q E s := by
  obtain ⟨hz, hI, ⟨u, v, hO⟩, t1, t2⟩ := Z
  rcases hz with hz | ⟨T, f, oT, hz, hT⟩
  · refine RZ.pyNext_zipT_item D hz hI hO t1 t2 p1 p2 ex ey fun g h1 h2 h3 h4 h5 h6 h7 => go g ⟨.inr ⟨_, false, _, h1, h5⟩, h7 _ _ D.TIz D.TITO D.TIi1 D.TIi2 hI, ⟨_, _, h2⟩, h3, h4⟩ h5 h6 fun c o n e => ?_
    simp only [List.mem_cons, List.not_mem_nil, or_false, not_or] at n
    exact h7 c o n.1 n.2.2.1 n.2.2.2.1 n.2.2.2.2 e
  · refine zh_next D hz hT hI t1 t2 p1 p2 ex ey fun g h1 h2 h3 h4 h5 h6 => ?_
    by_cases hTz : T = z
    · rw [hTz] at h1
      refine go g ⟨.inr ⟨z, true, _, h1, h1⟩, h6 _ _ D.TIz D.TIi1 D.TIi2 hI, ⟨_, _, h6 _ _ D.TOz D.TOi1 D.TOi2 hO⟩, h2, h3⟩ h4 h5 fun c o n e => ?_
      simp only [List.mem_cons, List.not_mem_nil, or_false, not_or] at n
      exact h6 c o n.1 n.2.2.2.1 n.2.2.2.2 e
    · have hT' : ∃ o, g.get? T = some o := by
        by_cases q1 : T = i1
        · obtain ⟨o, e, _⟩ := h2
          exact ⟨o, q1 ▸ e⟩
        · by_cases q2 : T = i2
          · obtain ⟨o, e, _⟩ := h3
            exact ⟨o, q2 ▸ e⟩
          · exact ⟨_, h6 _ _ hTz q1 q2 hT⟩
      obtain ⟨oT', hT'⟩ := hT'
      refine go g ⟨.inr ⟨T, true, oT', h1, hT'⟩, h6 _ _ D.TIz D.TIi1 D.TIi2 hI, ⟨_, _, h6 _ _ D.TOz D.TOi1 D.TOi2 hO⟩, h2, h3⟩ h4 h5 fun c o n e => ?_
      simp only [List.mem_cons, List.not_mem_nil, or_false, not_or] at n
      exact h6 c o n.1 n.2.2.2.1 n.2.2.2.2 e
theorem zs_stop {Q : Option Value → Shared → Prop} (hh : A.handled = none) (D : ZipApart z TI TO i1 i2 a b) (Z : ZipSt s.heap z TI TO i1 i2 a b k) (p1 : s.heap.IsTuple a xs) (p2 : s.heap.IsTuple b ys) (ex : xs[k]? = none)
    (out : ∀ g, (∀ c o, c ∉ [z, TI, TO, i1, i2] → s.heap.get? c = some o → g.get? c = some o) → Q none { s with heap := g }) :
    wpAny (model prog w) A (pyNext (.ref z)) Q E s := by
  obtain ⟨hz, hI, ⟨u, v, hO⟩, t1, t2⟩ := Z
  rcases hz with hz | ⟨T, f, oT, hz, hT⟩
  · refine RZ.pyNext_zipT_end hh D hz hI hO t1 t2 p1 p2 (.inl ex) fun g h7 => out g fun c o n e => ?_
    simp only [List.mem_cons, List.not_mem_nil, or_false, not_or] at n
    exact h7 c o n.1 n.2.2.1 n.2.2.2.1 n.2.2.2.2 e
  · refine zh_stop hh D hz hT hI t1 p1 ex fun g h6 => out g fun c o n e => ?_
    simp only [List.mem_cons, List.not_mem_nil, or_false, not_or] at n
    exact h6 c o n.1 n.2.2.2.1 n.2.2.2.2 e
end
end Nm
namespace Nm
open PySem PySem.Spec PyProof.Rows L2
/-! ### list(zip(t, u)), t and u tuples of one length: a new list of new pairs -/
theorem ZipSt.keepBut {h g : Heap} {z TI TO i1 i2 a b L : Addr} {k : Nat} (Z : ZipSt h z TI TO i1 i2 a b k) (nL : L ∉ [z, TI, TO, i1, i2]) (up : ∀ c o, c ≠ L → h.get? c = some o → g.get? c = some o) (hL : ∃ o, g.get? L = some o) : ZipSt g z TI TO i1 i2 a b k := by
  simp only [List.mem_cons, List.not_mem_nil, or_false, not_or] at nL
  obtain ⟨n1, n2, n3, n4, n5⟩ := nL
  obtain ⟨hz, hI, ⟨u, v, hO⟩, t1, t2⟩ := Z
  refine ⟨?_, up _ _ (Ne.symm n2) hI, ⟨u, v, up _ _ (Ne.symm n3) hO⟩, t1.at fun o e => up _ o (Ne.symm n4) e, t2.at fun o e => up _ o (Ne.symm n5) e⟩
  rcases hz with q | ⟨T, f, oT, q, q2⟩
  · exact .inl (up _ _ (Ne.symm n1) q)
  · by_cases e : T = L
    · obtain ⟨o, ho⟩ := hL
      exact .inr ⟨T, f, o, up _ _ (Ne.symm n1) q, e ▸ ho⟩
    · exact .inr ⟨T, f, oT, up _ _ (Ne.symm n1) q, up _ _ e q2⟩
/-- the pairs of two rows, at the addresses Ts -/
def PairsAt (H : Hp) (Ts : List Addr) (xs ys : List V) : Prop := ∀ (j : Nat) (T : Addr) (x y : V), Ts[j]? = some T → xs[j]? = some x → ys[j]? = some y → H T = some (.tup [x, y])
section
variable {X : Cx} {pins : List (Addr × Obj)} {σ : L2.St} {A : Around} {R : Result → Shared → Prop} {z TI TO i1 i2 a b L : Addr} {xs ys : List V} {res : Value}
theorem zip_loop (hh : A.handled = none) (D : ZipApart z TI TO i1 i2 a b) (nL : L ∉ [z, TI, TO, i1, i2]) (hl : xs.length = ys.length) (H0 : Hp) (nH : H0 L = none) :
    ∀ (m k : Nat) (s : Shared) (H : Hp) (Ts : List Addr), xs.length - k = m → k ≤ xs.length → Inv X pins σ H s → H L = some (.lst (Ts.map V.ref)) → Ts.length = k → PairsAt H Ts xs ys → Same H0 H → SqT X.K H0 a xs → SqT X.K H0 b ys →
      (∀ c ∈ [z, TI, TO, i1, i2], FpOk X pins H c) → ZipSt s.heap z TI TO i1 i2 a b k → xs.length ≤ 1000000 →
      (∀ (s' : Shared) (H' : Hp) (Ts' : List Addr), Inv X pins σ H' s' → H' L = some (.lst (Ts'.map V.ref)) → Ts'.length = xs.length → PairsAt H' Ts' xs ys → Same H0 H' → R (.ok (.ret res)) s') →
      codeAny (model X.prog X.w) A (.builtin "list.extend.loop" ⟨[.ref L, .ref z, res], []⟩) R s := by
  intro m
  induction m with
  | zero =>
    intro k s H Ts hm hk I hL hlen hP hS ha hb hf Z hz fin
    have ek : k = xs.length := by omega
    refine codeAny_builtin F.entry_extend_loop ?_
    rw [Around.under_plainId F.plain_extend_loop _]
    show wpAny _ A.in1 (pyNext (.ref z) >>= _) _ _ s
    obtain ⟨its, rv, p1, _⟩ := I.tuple (ha.ext hS)
    obtain ⟨its2, rv2, p2, _⟩ := I.tuple (hb.ext hS)
    have l1 := rv.length
    refine wpAny_bind (zs_stop hh D Z p1 p2 (by simp; omega) fun g kept => wpAny_pure ?_)
    exact fin _ H Ts (I.turnedL (t' := s.toks) (fun c o n e => kept c o n e) hf) hL (by omega) hP hS
  | succ m ih =>
    intro k s H Ts hm hk I hL hlen hP hS ha hb hf Z hz fin
    have lt : k < xs.length := by omega
    have lt2 : k < ys.length := by omega
    refine codeAny_builtin F.entry_extend_loop ?_
    rw [Around.under_plainId F.plain_extend_loop _]
    show wpAny _ A.in1 (pyNext (.ref z) >>= _) _ _ s
    obtain ⟨its, rv, p1, _⟩ := I.tuple (ha.ext hS)
    obtain ⟨its2, rv2, p2, _⟩ := I.tuple (hb.ext hS)
    obtain ⟨u, hu, ru⟩ := rv.get (List.getElem?_eq_getElem lt)
    obtain ⟨u2, hu2, ru2⟩ := rv2.get (List.getElem?_eq_getElem lt2)
    refine wpAny_bind (zs_next D Z p1 p2 (x := u) (y := u2) (by simpa using hu) (by simpa using hu2) fun g Z1 pr sz kept => ?_)
    have new : ObjOk X.prog X.w (upd H s.heap.objs.size (.tup [xs[k], ys[k]])) g s.heap.objs.size (.tup [xs[k], ys[k]]) :=
      ⟨by show 2 ≤ sizeLine; decide, [u, u2], .cons ru (.cons ru2 .nil), ⟨_, pr, rfl, _, rfl⟩⟩
    have I1 : Inv X pins σ (upd H s.heap.objs.size (.tup [xs[k], ys[k]])) { s with heap := g } := I.turnedNew (t' := s.toks) (fun c o n e => kept c o n e) hf (Nat.le_refl _) new
    have nT : H s.heap.objs.size = none := I.hok.fresh (Nat.le_refl _)
    have sT : Same H (upd H s.heap.objs.size (.tup [xs[k], ys[k]])) := fun c o e => by
      rw [upd_ne (ne_of_none e nT)]
      exact e
    have hT : upd H s.heap.objs.size (.tup [xs[k], ys[k]]) s.heap.objs.size = some (.tup [xs[k], ys[k]]) := upd_same
    have fresh : ∀ c ∈ [z, TI, TO, i1, i2], upd H s.heap.objs.size (.tup [xs[k], ys[k]]) c = none := fun c hc => by
      have lc : c ≠ s.heap.objs.size := by
        have q : ∃ o, s.heap.get? c = some o := by
          obtain ⟨hz', hI, ⟨_, _, hO⟩, ⟨o1, e1, _⟩, ⟨o2, e2, _⟩⟩ := Z
          simp only [List.mem_cons, List.not_mem_nil, or_false] at hc
          rcases hc with rfl | rfl | rfl | rfl | rfl
          · rcases hz' with q | ⟨_, _, _, q, _⟩ <;> exact ⟨_, q⟩
          · exact ⟨_, hI⟩
          · exact ⟨_, hO⟩
          · exact ⟨_, e1⟩
          · exact ⟨_, e2⟩
        obtain ⟨o, e⟩ := q
        exact Nat.ne_of_lt (Heap.lt_size e)
      rw [upd_ne lc]
      exact (hf c hc).1
    generalize s.heap.objs.size = T at I1 nT sT hT fresh
    generalize upd H T (.tup [xs[k], ys[k]]) = H1 at I1 sT hT fresh
    have hL1 := sT _ _ hL
    obtain ⟨z1, itl, n, r, len, e⟩ := I1.lstM hL1
    rw [List.length_map] at len
    show wpAny _ A.in1 (updateSeq L (·.push (Value.ref T)) >>= _) _ _ _
    have big : ∀ n : Nat, n ≤ 1000001 → n ≤ sizeLine := fun n h => Nat.le_trans h (by decide)
    have lT : L ≠ T := fun q => by
      rw [q, nT] at hL
      cases hL
    have I2 : Inv X pins σ (upd H1 L (.lst ((Ts ++ [T]).map V.ref))) { s with heap := g.update L (Obj.mapSeq (·.push (Value.ref T))) } :=
      I1.lset (its' := itl ++ [.ref T]) (t' := s.toks) hL1 e (by simp) (by rw [List.map_append]; exact r.append (.cons rfl .nil)) (by rw [List.length_map, List.length_append]; exact big _ (by simp; omega))
    have sL : Same H0 (upd H1 L (.lst ((Ts ++ [T]).map V.ref))) := fun c o e => by
      rw [upd_ne (ne_of_none e nH)]
      exact sT _ _ (hS _ _ e)
    refine wpAny_bind (wpAny_updateSeq e rfl (wpAny_pure ⟨plainId_quiet F.plain_extend_loop _, ?_⟩) (by rw [List.size_toArray]; exact big _ (by omega)) (by show (itl.toArray.push _).size ≤ sizeLine + 1; rw [Array.size_push, List.size_toArray]; exact Nat.le_succ_of_le (big _ (by omega))))
    refine ih (k + 1) _ _ (Ts ++ [T]) (by omega) (by omega) I2 upd_same (by simp [hlen]) (fun j T' x y h1 h2 h3 => ?_) sL ha hb (fun c hc => ⟨by
      rw [upd_ne (fun (q : c = L) => nL (q ▸ hc))]
      exact fresh c hc, (hf c hc).2⟩) (Z1.keepBut nL (fun c o n e => (Heap.get?_update_other _ _ (Ne.symm n)).trans e) ⟨_, Heap.get?_update_self _ e rfl⟩) hz fin
    by_cases jk : j < k
    · rw [List.getElem?_append_left (by omega)] at h1
      have q := sT _ _ (hP j T' x y h1 h2 h3)
      rw [upd_ne (ne_of q hL1 (by intro w; cases w))]
      exact q
    · have jl : j < (Ts ++ [T]).length := (List.getElem?_eq_some_iff.mp h1).1
      have ej : j = k := by simp at jl; omega
      subst ej
      rw [List.getElem?_append_right (by omega), hlen, Nat.sub_self] at h1
      obtain rfl : T = T' := Option.some.inj h1
      rw [List.getElem?_eq_getElem lt] at h2
      rw [List.getElem?_eq_getElem lt2] at h3
      rw [← Option.some.inj h2, ← Option.some.inj h3, upd_ne (Ne.symm lT)]
      exact hT
theorem zip_no_len : typeLookup (.type "zip") "__len__" = pure none := by rw [typeLookup_type, builtinLookup_eq_fast]; kernel_rfl
theorem zip_no_hint : typeLookup (.type "zip") "__length_hint__" = pure none := by rw [typeLookup_type, builtinLookup_eq_fast]; kernel_rfl
theorem zip_init (hh : A.handled = none) (D : ZipApart z TI TO i1 i2 a b) (nL : L ∉ [z, TI, TO, i1, i2]) (hl : xs.length = ys.length) (H0 : Hp) (nH : H0 L = none) (s : Shared) (H : Hp) (I : Inv X pins σ H s) (hL : H L = some (.lst [])) (hS : Same H0 H)
    (ha : SqT X.K H0 a xs) (hb : SqT X.K H0 b ys) (hf : ∀ c ∈ [z, TI, TO, i1, i2], FpOk X pins H c) (Z : ZipSt s.heap z TI TO i1 i2 a b 0) (z0 : IsZip s.heap z TI TO .none) (hz : xs.length ≤ 1000000)
    (fin : ∀ (s' : Shared) (H' : Hp) (Ts' : List Addr), Inv X pins σ H' s' → H' L = some (.lst (Ts'.map V.ref)) → Ts'.length = xs.length → PairsAt H' Ts' xs ys → Same H0 H' → R (.ok (.ret .none)) s') :
    wpAny (model X.prog X.w) A.in1 (Builtin.«list.__init__» ⟨[.ref L, .ref z], []⟩)
      (fun fin u => match fin with | .done f => R (.ok f) u | .again c => c.quiet = true ∧ codeAny (model X.prog X.w) A c R u) (fun e u => R (.error e) u) s := by
  obtain ⟨_, itl, n, r, len, e⟩ := I.lstM hL
  have e0 : itl = [] := List.length_eq_zero_iff.mp len.symm
  subst e0
  have ty : ∀ h : Heap, ZipSt h z TI TO i1 i2 a b 0 → ∃ o, h.get? z = some o ∧ o.cls = .type "zip" := fun h q => by
    rcases q.held with q | ⟨_, _, _, q, _⟩ <;> exact ⟨_, q, rfl⟩
  have upH : upd H L (.lst []) = H := by
    funext c
    by_cases h : c = L
    · rw [h, upd_same, hL]
    · rw [upd_ne h]
  have nz : L ≠ z := fun q => nL (by simp [q])
  -- each rewriting of the list leaves it empty
  have step : ∀ (h : Heap) (n : Nat) (f : Array Value → Array Value), Inv X pins σ H { s with heap := h } → ZipSt h z TI TO i1 i2 a b 0 → h.get? L = some { cls := .type "list", data := .seq #[] n } → f #[] = #[] →
      Inv X pins σ H { s with heap := h.update L (Obj.mapSeq f) } ∧ ZipSt (h.update L (Obj.mapSeq f)) z TI TO i1 i2 a b 0 := fun h n f J Zh eh ef => by
    have J1 := J.lset (its := []) (its' := []) (f := f) (t' := s.toks) (ys := []) hL eh (by rw [show (([] : List Value).toArray) = #[] from rfl, ef]) .nil (Nat.zero_le _)
    rw [upH] at J1
    exact ⟨J1, Zh.keepBut nL (fun c o n' e' => (Heap.get?_update_other _ _ (Ne.symm n')).trans e') ⟨_, Heap.get?_update_self _ eh rfl⟩⟩
  show wpAny _ A.in1 (do let old ← Builtin.List.listItems (.ref L); Builtin.List.listUpdate (.ref L) (fun _ => #[]); letGo old.toList.reverse; Builtin.List.listExtendWith (.ref L) (.ref z) .none) _ _ s
  refine wpAny_bind ?_
  unfold Builtin.List.listItems
  refine wpAny_bind (wpAny_seqItems e rfl (wpAny_pure ?_))
  obtain ⟨I1, Z1⟩ := step s.heap n (fun _ => #[]) I Z e rfl
  have e1 := Heap.get?_update_self (Obj.mapSeq (fun _ => (#[] : Array Value))) e rfl
  have z1 : IsZip (s.heap.update L (Obj.mapSeq (fun _ => (#[] : Array Value)))) z TI TO .none := (Heap.get?_update_other _ _ nz).trans z0
  show wpAny _ A.in1 (updateSeq L (fun _ => #[]) >>= fun _ => letGo (#[] : Array Value).toList.reverse >>= fun _ => Builtin.List.listExtendWith (.ref L) (.ref z) .none) _ _ s
  refine wpAny_bind (wpAny_updateSeq e rfl (wpAny_bind (wpAny_letGo ?_)))
  generalize hg1 : s.heap.update L (Obj.mapSeq (fun _ => (#[] : Array Value))) = g1 at I1 Z1 e1 z1
  unfold Builtin.List.listExtendWith
  refine wpAny_bind (wpAny_typeOf (s := { s with heap := g1 }) (T := "zip") (ty g1 Z1) ?_)
  have h1 : Builtin.List.listSameRef (.ref L) (.ref z) = false := by simp [Builtin.List.listSameRef, nz]
  have h2 : (Value.type "zip" == Value.type "list") = false := by decide
  have h3 : (Value.type "zip" == Value.type "tuple") = false := by decide
  simp only [h1, h2, h3, Bool.or_false, Bool.false_eq_true, if_false]
  refine wpAny_bind (wpAny_pyIter_zip (s := { s with heap := g1 }) z1 ?_)
  refine wpAny_bind (wpAny_holding ?_)
  unfold Builtin.List.listLengthHint
  refine wpAny_bind (wpAny_specialOf (s := { s with heap := g1 }) (ty g1 Z1) zip_no_len ?_)
  show wpAny _ A.in1 (specialOf (Value.ref z) (Str.ofString "__length_hint__") >>= _) _ _ _
  refine wpAny_bind (wpAny_specialOf (s := { s with heap := g1 }) (ty g1 Z1) zip_no_hint (wpAny_pure ?_))
  show wpAny _ A.in1 (rule "list.extend.makes-room" >>= fun _ => Builtin.List.listTouch (.ref L) >>= fun _ => again (.builtin "list.extend.loop" ⟨[.ref L, .ref z, Value.none], []⟩)) _ _ _
  refine wpAny_bind (wpAny_rule (wpAny_bind ?_))
  show wpAny _ A.in1 (updateSeq L (·.push .none) >>= fun _ => updateSeq L (·.pop)) _ _ _
  refine wpAny_bind (wpAny_updateSeq e1 rfl ?_)
  have e2 := Heap.get?_update_self (Obj.mapSeq (·.push Value.none)) e1 rfl
  refine wpAny_updateSeq (hz := by seq_fits) e2 rfl ?_
  have e3 := Heap.get?_update_self (Obj.mapSeq (·.pop)) e2 rfl
  have oth : ∀ c o, c ≠ L → g1.get? c = some o → ((g1.update L (Obj.mapSeq (·.push Value.none))).update L (Obj.mapSeq (·.pop))).get? c = some o := fun c o hc x =>
    (Heap.get?_update_other _ _ (Ne.symm hc)).trans ((Heap.get?_update_other _ _ (Ne.symm hc)).trans x)
  have I3 : Inv X pins σ H { s with heap := (g1.update L (Obj.mapSeq (·.push Value.none))).update L (Obj.mapSeq (·.pop)) } := by
    have J := I1.write (x := L) (e := L) (o := .lst []) (t' := s.toks) (by rw [hL]; exact trivial) (.inl rfl) oth ⟨_, e3⟩ ⟨Nat.zero_le _, [], _, .nil, e3⟩
    rw [upH] at J
    exact J
  refine wpAny_pure ⟨plainId_quiet F.plain_extend_loop _, ?_⟩
  exact zip_loop hh D nL hl H0 nH xs.length 0 _ H [] (by omega) (Nat.zero_le _) I3 hL rfl (fun j T x y h _ _ => by simp at h) hS ha hb hf (Z1.keepBut nL oth ⟨_, e3⟩) hz fin
end
end Nm
namespace Nm
open PySem PySem.Spec PyProof.Rows L2
def tListZip (K : PySem.W.Frag) (ta : TA) : TE := fun σ H Q => ta σ H fun vs H1 => ∃ a b xs ys, vs = [.ref a, .ref b] ∧ SqT K H1 a xs ∧ SqT K H1 b ys ∧ xs.length = ys.length ∧ xs.length ≤ 1000000 ∧
  ∀ (L : Addr) (H' : Hp) (Ts : List Addr), Same H1 H' → H1 L = none → H' L = some (.lst (Ts.map V.ref)) → Ts.length = xs.length → PairsAt H' Ts xs ys → Q (.ref L) H'
theorem pe_listZip {X : Cx} {e e2 : Expr} {ta : TA} {p p2 pos pos2 : Pos} (hc : X.calm = true) (hg : Gl X "list") (hm : X.mg "list" = none) (hg2 : Gl X "zip") (hm2 : X.mg "zip" = none) (ha : PA X [e, e2] ta)
    (hs : starEach [e, e2] X.env = (false, eval e X.env) :: starEach [e2] X.env := by rfl) (hpl : (backTo pos2 (starEach [e2] X.env)).any (·.1) = false := by rfl)
    (hs2 : starEach [.Call (.Name "zip" p2) [e, e2] [] pos2] X.env = (false, eval (.Call (.Name "zip" p2) [e, e2] [] pos2) X.env) :: starEach [] X.env := by rfl) :
    PE X (.Call (.Name "list" p) [.Call (.Name "zip" p2) [e, e2] [] pos2] [] pos) (tListZip X.K ta) := by
  refine ⟨fun pins s σ H Q I h => ?_⟩
  refine Call_ (ld_blt I hg hm boot_list (callWith_type1 (args_cons (Call_ (ld_blt I hg2 hm2 boot_zip (callWith_type1 (thn (ha.run pos2 pins s σ H _ I h) fun us s1 ⟨vs, H1, I1, r1, q1⟩ => ?_) hs hpl))) hs2) hs2 rfl))
  obtain ⟨a, b, xs, ys, rfl, ha', hb', hl, hz, q⟩ := q1
  obtain ⟨u1, u2, rfl, e1, e2'⟩ := vals2 r1
  cases (show u1 = Value.ref a from e1)
  cases (show u2 = Value.ref b from e2')
  obtain ⟨its, rv, p1, _⟩ := I1.tuple ha'
  obtain ⟨its2, rv2, p2', _⟩ := I1.tuple hb'
  obtain ⟨o1, ho1, _⟩ := id p1
  obtain ⟨o2, ho2, _⟩ := id p2'
  refine RZ.call_zipT (show s1.heap.IsTuple a its.toArray from p1) (show s1.heap.IsTuple b its2.toArray from p2') fun g hz0 hTI hTO t1 t2 hsz hk => args_nil ?_
  have D := PySem.W.ktu_apart s1.heap.objs.size a b (Heap.lt_size ho1) (Heap.lt_size ho2)
  have I2 : Inv X pins σ H1 { s1 with heap := g } := I1.kept (t' := s1.toks) hk
  have f5 : ∀ c ∈ [s1.heap.objs.size + 4, s1.heap.objs.size + 2, s1.heap.objs.size + 3, s1.heap.objs.size, s1.heap.objs.size + 1], s1.heap.objs.size ≤ c ∧ c < g.objs.size := fun c hc => by
    simp only [List.mem_cons, List.not_mem_nil, or_false] at hc
    rcases hc with h | h | h | h | h <;> subst h <;> omega
  have I3 := I2.lnew (its := []) (ys := []) (t' := s1.toks) .nil (Nat.zero_le _)
  have nL : H1 g.objs.size = none := I2.fresh
  refine callType_codes (Q₁ := fun obj u => obj = .ref g.objs.size ∧ u = { s1 with heap := g.push { cls := .type "list", data := .seq #[] } }) F.called_list (F.typeCall_list_1 _) F.entry_list_init
    (code_list_new _ ⟨rfl, rfl⟩) fun obj u hu => ?_
  obtain ⟨rfl, rfl⟩ := hu
  have hS : (g.push { cls := .type "list", data := .seq #[] }).get? g.objs.size = some { cls := .type "list", data := .seq #[] } := Heap.get?_push_size _ rfl
  have sN : Same H1 (upd H1 g.objs.size (.lst [])) := fun c o e => by
    rw [upd_ne (ne_of_none e nL)]
    exact e
  refine ⟨⟨_, hS, rfl⟩, F.args_list_init_2 _ _, ?_⟩
  refine zip_init (pins := pins) (σ := σ) (A := X.A.in1) (I.ok.hd hc) D (fun hm' => Nat.lt_irrefl _ (f5 _ hm').2) hl H1 nL _ _ I3 upd_same sN ha' hb' (fun c hc => ?_) (ZipSt.keep ⟨.inl hz0, hTI, ⟨_, _, hTO⟩, t1, t2⟩ fun c o e => Heap.get?_push_of_some _ e) (Heap.get?_push_of_some _ hz0) hz (fun s' H' Ts' I' hL' hlen hP hS' => ?_)
  · refine I1.fpOk (f5 c hc).1 ?_
    rw [upd_ne (Nat.ne_of_lt (f5 c hc).2)]
    exact I1.hok.fresh (f5 c hc).1
  · exact ⟨rfl, .ref g.objs.size, H', I', rfl, q _ H' Ts' hS' nL hL' hlen hP⟩
end Nm
namespace Nm
open PySem PySem.Spec PyProof.Rows L2
/-! ### values: the mathematics, and how they stand in the heap -/
inductive Tr where
  | num (i : Int) : Tr
  | mk (m : Str) (ps : List Tr) : Tr
mutual
def Tr.sz : Tr → Nat
  | .num _ => 1
  | .mk _ ps => 1 + Tr.szL ps
def Tr.szL : List Tr → Nat
  | [] => 0
  | t :: r => t.sz + Tr.szL r
end
theorem Tr.sz_pos (t : Tr) : 0 < t.sz := by
  cases t with
  | num i => simp [Tr.sz]
  | mk m ps => simp [Tr.sz]; omega
theorem szL_len : ∀ ps : List Tr, ps.length ≤ Tr.szL ps
  | [] => Nat.le_refl _
  | t :: r => by
    have h1 := t.sz_pos
    have h2 := szL_len r
    simp only [List.length_cons, Tr.szL]
    omega
theorem szL_app (a b : List Tr) : Tr.szL (a ++ b) = Tr.szL a + Tr.szL b := by
  induction a with
  | nil => simp [Tr.szL]
  | cons t r ih => simp only [List.cons_append, Tr.szL, ih]; omega
def mkF (m : Str) (p : Addr) : List (Str × V) := putF "parts" (.ref p) (putF "maker" (.str m) [])
theorem mkF_maker (m : Str) (p : Addr) : (mkF m p).lookup ("maker" : Str) = some (.str m) := by
  unfold mkF
  rw [lookup_putF, if_neg (by decide +kernel), lookup_putF, if_pos rfl]
theorem mkF_parts (m : Str) (p : Addr) : (mkF m p).lookup ("parts" : Str) = some (.ref p) := by
  unfold mkF
  rw [lookup_putF, if_pos rfl]
mutual
/-- the value v stands for the tree -/
inductive VAt (C : Addr) (H : Hp) : V → Tr → Prop
  | num (i : Int) : VAt C H (.int i) (.num i)
  | mk {a dx p : Addr} {m : Str} {xs : List V} {ts : List Tr} (ea : H a = some (.ins C dx (mkF m p))) (ep : H p = some (.tup xs)) (h : VAts C H xs ts) : VAt C H (.ref a) (.mk m ts)
inductive VAts (C : Addr) (H : Hp) : List V → List Tr → Prop
  | nil : VAts C H [] []
  | cons {x : V} {t : Tr} {xs : List V} {ts : List Tr} (h : VAt C H x t) (r : VAts C H xs ts) : VAts C H (x :: xs) (t :: ts)
end
mutual
theorem VAt.mono {C : Addr} {H H' : Hp} (k1 : ∀ a dx fs, H a = some (.ins C dx fs) → H' a = some (.ins C dx fs)) (k2 : ∀ a xs, H a = some (.tup xs) → H' a = some (.tup xs)) : ∀ {t : Tr} {v : V}, VAt C H v t → VAt C H' v t
  | .num _, _, .num i => .num i
  | .mk _ _, _, .mk ea ep h => .mk (k1 _ _ _ ea) (k2 _ _ ep) (VAts.mono k1 k2 h)
theorem VAts.mono {C : Addr} {H H' : Hp} (k1 : ∀ a dx fs, H a = some (.ins C dx fs) → H' a = some (.ins C dx fs)) (k2 : ∀ a xs, H a = some (.tup xs) → H' a = some (.tup xs)) : ∀ {ts : List Tr} {xs : List V}, VAts C H xs ts → VAts C H' xs ts
  | [], _, .nil => .nil
  | _ :: _, _, .cons h r => .cons (VAt.mono k1 k2 h) (VAts.mono k1 k2 r)
end
theorem VAt.same {C : Addr} {H H' : Hp} {v : V} {t : Tr} (h : VAt C H v t) (s : Same H H') : VAt C H' v t := h.mono (fun a dx fs e => s _ _ e) fun a xs e => s _ _ e
theorem VAts.same {C : Addr} {H H' : Hp} {xs : List V} {ts : List Tr} (h : VAts C H xs ts) (s : Same H H') : VAts C H' xs ts := h.mono (fun a dx fs e => s _ _ e) fun a xs e => s _ _ e
/-- a list, a dict, written: no value is touched -/
theorem VAt.put {C : Addr} {H : Hp} {v : V} {t : Tr} (h : VAt C H v t) {p : Addr} {o o' : HO} (e : H p = some o) (n1 : ∀ dx fs, o ≠ .ins C dx fs) (n2 : ∀ xs, o ≠ .tup xs) : VAt C (upd H p o') v t :=
  h.mono (fun a dx fs q => by rw [upd_ne (ne_of q e (fun z => n1 _ _ z.symm))]; exact q) fun a xs q => by rw [upd_ne (ne_of q e (fun z => n2 _ z.symm))]; exact q
theorem VAts.len {C : Addr} {H : Hp} : ∀ {xs : List V} {ts : List Tr}, VAts C H xs ts → xs.length = ts.length
  | _, _, .nil => rfl
  | _, _, .cons _ r => by simp [VAts.len r]
theorem VAts.at {C : Addr} {H : Hp} : ∀ {xs : List V} {ts : List Tr} {i : Nat} {x : V}, VAts C H xs ts → xs[i]? = some x → ∃ t, ts[i]? = some t ∧ VAt C H x t
  | _, _, _, _, .nil, e => by simp at e
  | _, _, 0, _, .cons h _, e => by
    simp at e
    subst e
    exact ⟨_, rfl, h⟩
  | _, _, i + 1, x, .cons _ r, e => by
    obtain ⟨t, h1, h2⟩ := VAts.at (i := i) (x := x) r (by simpa using e)
    exact ⟨t, by simpa using h1, h2⟩
theorem VAts.app {C : Addr} {H : Hp} : ∀ {xs : List V} {ts : List Tr} {ys : List V} {us : List Tr}, VAts C H xs ts → VAts C H ys us → VAts C H (xs ++ ys) (ts ++ us)
  | _, _, _, _, .nil, k => k
  | _, _, _, _, .cons h r, k => .cons h (VAts.app r k)
/-- what the law asks of the class of values -/
structure MadeTxt (K : PySem.W.Frag) (mg : Str → Option Value) (C fE : Addr) : Prop where
  cl : Cls K C
  nM : NoAttr K C "maker"
  nP : NoAttr K C "parts"
  gM : mg "Made" = some (.ref C)
  eqF : PySem.W.findIn K (.ref C) "__eq__" = some (some (.ref fE))
  eqK : PySem.W.isFn K (.ref fE) = true
  neF : PySem.W.findIn K (.ref C) "__ne__" = some (some (.builtin "object.__ne__"))
  subI : PySem.W.subIn K (.type "int") (.ref C) = some false
  subC : PySem.W.subIn K (.ref C) (.type "int") = some false
  kitC : PySem.W.kitOne K (.ref C) (.ref C) = some true
  kitI : PySem.W.kitOne K (.type "int") (.ref C) = some false
  kitB : PySem.W.kitOne K (.ref C) (.type "bool") = some false
  kitN : PySem.W.kitOne K (.ref C) (.type "int") = some false
  ca : PySem.W.findIn K (.ref C) "__class__" = some (some (.builtin "object.__class__"))
  gt : PySem.W.specialIn K (.builtin "object.__class__") "__get__" = some (some (.builtin "getset_descriptor.__get__"))
  tk : PySem.W.takesIn K (.builtin "object.__class__") = some true
  mo : PySem.W.mroIn K C (.type "object") = some true
theorem MadeTxt.ins {K : PySem.W.Frag} {mg : Str → Option Value} {C fE : Addr} (M : MadeTxt K mg C fE) {H : Hp} {a dx : Addr} {fs : List (Str × V)} (e : H a = some (.ins C dx fs)) : TyX K H (.ref a) (.ref C) := .base (.ins e M.cl M.ca M.gt M.tk M.mo)
end Nm
namespace Nm
open PySem PySem.Spec PyProof.Rows L2
/-! ### == and != of values -/
noncomputable instance : DecidableEq Tr := fun a b => Classical.propDecidable (a = b)
def spEqM (C : Addr) : Sp := fun vs H Q _ => ∃ (a : Addr) (y : V) (t u : Tr), vs = [.ref a, y] ∧ VAt C H (.ref a) t ∧ VAt C H y u ∧ t.sz ≤ 1000000 ∧ u.sz ≤ 1000000 ∧ ∀ H', Same H H' → Q (.bl (decide (t = u))) H'
def rEqM (C : Addr) : R2 := fun x y H Q => ∃ t u : Tr, VAt C H x t ∧ VAt C H y u ∧ t.sz ≤ 1000000 ∧ u.sz ≤ 1000000 ∧ ∀ H', Same H H' → Q (.bl (decide (t = u))) H'
def rNeM (C : Addr) : R2 := fun x y H Q => ∃ t u : Tr, VAt C H x t ∧ VAt C H y u ∧ t.sz ≤ 1000000 ∧ u.sz ≤ 1000000 ∧ ((∃ i j, t = .num i ∧ u = .num j) ∨ (∃ m ps m' ps', t = .mk m ps ∧ u = .mk m' ps')) ∧ ∀ H', Same H H' → Q (.bl (!decide (t = u))) H'
theorem int_eq_inst (i : Int) (t : Tok) (a C dx : Addr) : Meets (Builtin.«int.__eq__» ⟨[.int i t, .ref a], []⟩) (fun _ R s => s.heap.get? a = some (PySem.W.instObj C dx) ∧ R (.ok (.ret .notImplemented)) s) :=
  .of_wp fun prog w A R s h => by
    obtain ⟨hp, g, d, tk, os⟩ := s
    obtain ⟨ha, h⟩ := h
    wp_walk using AutoSeq1.wpAny_loadPart' ha
    exact ⟨_, rfl, h⟩
section
variable {X : Cx} {n : Nat} {fE C : Addr} {fdE : FuncData}
theorem call_eqM {A : Around} {pins : List (Addr × Obj)} {s : Shared} {σ : L2.St} {H : Hp} {a : Addr} {y : V} {v : Value} {t u : Tr} (F : FnOk X.prog X.w X.K X.mg X.base CX0 n fE fdE ["self", "other"] (spEqM C)) (hb : Binds X.K fdE ["self", "other"] [])
    (sb : Sub X n A) (I : L2.Inv X pins σ H s) (rv : RelV y v) (ht : VAt C H (.ref a) t) (hu : VAt C H y u) (zt : t.sz ≤ 1000000) (zu : u.sz ≤ 1000000) :
    wpAny (model X.prog X.w) A (call (.ref fE) [.ref a, v]) (fun r s' => r = .bool (decide (t = u)) ∧ ∃ H', L2.Inv X pins σ H' s' ∧ Same H H') X.xe s := by
  have hsp : spEqM C [.ref a, y] H (fun v H' => v = .bl (decide (t = u)) ∧ Same H H') E0 := ⟨a, y, t, u, rfl, ht, hu, zt, zu, fun H' e => ⟨rfl, e⟩⟩
  have e0 : Env0 X.prog X.w X.K X.mg X.base A X.stack s H := by
    have e := I.env0
    exact ⟨by rw [sb.fr]; exact e.frames, e.mod, e.bs, e.bsz, e.funs, e.frf, e.hok, e.bare⟩
  have r2 : Vals [V.ref a, y] [Value.ref a, v] := .cons rfl (.cons rv .nil)
  have bd := hb s [.ref a, v] I.kIn rfl
  refine wpAny_call (codeAny_mono (F.run A X.stack s H ⟨[.ref a, v], []⟩ [.ref a, v] [.ref a, y] _ E0 sb.room e0 (by simpa using bd) r2 hsp) fun r s' hq => ?_)
  cases r with
  | error e => exact pass0 pins σ H s e s' I hq
  | ok fl =>
    cases fl with
    | ret w =>
      obtain ⟨z, H', I', rz, ez, ex⟩ := I.after hq
      subst ez
      exact ⟨rz, H', I', ex⟩
    | next => exact False.elim hq
    | brk => exact False.elim hq
    | cont => exact False.elim hq
theorem VAt.cls {H : Hp} {a : Addr} {t : Tr} (h : VAt C H (.ref a) t) : ∃ dx p m ts, H a = some (.ins C dx (mkF m p)) ∧ t = .mk m ts := by
  cases h with
  | mk ea ep h => exact ⟨_, _, _, _, ea, rfl⟩
theorem op_eqM {mg : Str → Option Value} (F : FnOk X.prog X.w X.K X.mg X.base CX0 n fE fdE ["self", "other"] (spEqM C)) (hb : Binds X.K fdE ["self", "other"] []) (M : MadeTxt X.K mg C fE) (hr : Room n X.A) : OpR X (compareOp .Eq) (rEqM C) := by
  intro pins s σ H x y v w Q I rx ry h
  obtain ⟨t, u, ht, hu, zt, zu, q⟩ := h
  show wpAny (model X.prog X.w) X.A (richCompare .Eq v w) (EP X pins σ Q) X.xe s
  have fin : ∀ r s', (r = Value.bool (decide (t = u)) ∧ ∃ H', L2.Inv X pins σ H' s' ∧ Same H H') → EP X pins σ Q r s' := fun r s' ⟨e, H', I', S⟩ => by
    subst e
    exact ⟨.bl (decide (t = u)), H', I', rfl, q H' S⟩
  obtain ⟨m, hF⟩ := I.fr
  cases ht with
  | num i =>
    cases hu with
    | num j =>
      have e : decide (Tr.num i = Tr.num j) = decide (V.int i = V.int j) := by
        by_cases h : i = j
        · rw [h, decide_eq_true rfl, decide_eq_true rfl]
        · rw [decide_eq_false (fun z => h (Tr.num.inj z)), decide_eq_false (fun z => h (V.int.inj z))]
      refine op_eq pins s σ H _ _ v w Q I rx ry ⟨rfl, ?_⟩
      rw [← e]
      exact q H fun _ _ e => e
    | @mk b dy py m2 ys us eb epb hys =>
      obtain ⟨tk, rfl⟩ := rx
      cases (show w = Value.ref b from ry)
      obtain ⟨mB, J, _⟩ := ins_get I.hok eb
      have ob := J.obj
      obtain ⟨od, J', _⟩ := J.look
      have hB : VAt C H (.ref b) (.mk m2 us) := .mk eb epb hys
      have X₀ := I.ok.mod.kin
      have KI := X₀.keeps hF.keep
      have sym : decide (Tr.mk m2 us = Tr.num i) = decide (Tr.num i = Tr.mk m2 us) := by
        rw [decide_eq_false (by intro z; cases z), decide_eq_false (by intro z; cases z)]
      have second : wpAny (model X.prog X.w) X.A (tryCompare (.ref b) "__eq__" (.int i tk)) (fun r s' => ∃ x, r = some x ∧ EP X pins σ Q x s') X.xe s := by
        unfold tryCompare
        refine wpAny_bind (PySem.W.ifBound_K KI J' M.eqF M.eqK (wpAny_mono (call_eqM (y := .int i) F hb ⟨hr, rfl⟩ I ⟨tk, rfl⟩ hB (.num i) zu zt) (fun r s' z => ?_) fun _ _ e => e))
        obtain ⟨e, H', I', S⟩ := z
        subst e
        rw [sym]
        exact wpAny_pure ⟨_, rfl, fin _ _ ⟨rfl, H', I', S⟩⟩
      unfold richCompare
      have one : oneThing? .Eq (.int i tk) (.ref b) = none := rfl
      simp only [one]
      refine wpAny_holding (wpAny_bind (wpAny_cRoomFor hr.units0 ?_))
      refine wpAny_bind (wpAny_typeOf (T := "int") (typeIs_int s i tk) (wpAny_bind (J'.type.here ?_)))
      rw [if_pos (show (Value.type "int" != Value.ref C) = true from rfl)]
      refine wpAny_bind ((PySem.W.looks_subIn KI M.subC).here ?_)
      simp only [Bool.false_eq_true, if_false, Bool.not_false, if_true]
      refine wpAny_bind (m := tryCompare (.int i tk) _ _) ?_
      unfold tryCompare
      refine wpAny_bind (wpAny_callSpecialIfBound?_slot (typeIs_int s i tk) PySem.F.slot_int_eq (call_meets PySem.F.slot_int_eq (typeIs_int s i tk) PySem.F.entry_int_eq (PySem.F.args_int_eq_2 _ _) (int_eq_inst i tk b C dy) ⟨ob, wpAny_pure ?_⟩))
      refine wpAny_bind (wpAny_mono second (fun r s' z => ?_) fun _ _ e => e)
      obtain ⟨x, rfl, z⟩ := z
      exact wpAny_pure z
  | @mk a dx p m1 xs ts ea ep hx =>
    cases (show v = Value.ref a from rx)
    obtain ⟨mA, J, _⟩ := ins_get I.hok ea
    obtain ⟨od, J', _⟩ := J.look
    have hA : VAt C H (.ref a) (.mk m1 ts) := .mk ea ep hx
    have back : wpAny (model X.prog X.w) X.A (call (.ref fE) [.ref a, w]) (PySem.W.CmpBack (EP X pins σ Q)) X.xe s := wpAny_mono (call_eqM F hb ⟨hr, rfl⟩ I ry hA hu zt zu) (fun r s' z => by
      obtain ⟨e, z⟩ := z
      subst e
      exact fin _ _ ⟨rfl, z⟩) fun _ _ e => e
    cases hu with
    | num j =>
      obtain ⟨tk, rfl⟩ := ry
      exact PySem.W.cmp_K (op := .Eq) (tb := .type "int") hr.units0 hF I.ok.mod.kin J' (fun A Q E s k q => wpAny_typeOf (T := "int") (typeIs_int s j tk) q) (by simp [PySem.W.notFirst, M.subI]) M.eqF M.eqK back
    | @mk b dy py m2 ys us eb epb hys =>
      cases (show w = Value.ref b from ry)
      obtain ⟨mB, JB, _⟩ := ins_get I.hok eb
      obtain ⟨odB, JB', _⟩ := JB.look
      exact PySem.W.cmp_K (op := .Eq) (tb := .ref C) hr.units0 hF I.ok.mod.kin J' JB'.type (by simp [PySem.W.notFirst]) M.eqF M.eqK back
end
end Nm
namespace Nm
open PySem PySem.Spec PyProof.Rows L2
/-! ### != of values of one sort: object's own, by == -/
section
variable {prog : Program} {w : World} {A : Around} {E : Value → Shared → Prop} {s : Shared} {K : PySem.W.Frag} {x C : Addr} {ox : Obj} {od : Option Obj}
/-- a built-in slot of an own instance, bound -/
theorem ifBound_B {M : Model} {name : Str} {id : String} {args : List Value} {Q : Option Value → Shared → Prop} (X : K.In s.heap) (I : PySem.W.InstAt s.heap x ox C od) (hs : PySem.W.findIn K (.ref C) name = some (some (.builtin id)))
    (hb : ∀ self, bindSpecial (.builtin id) self = pure (.builtin id, [self])) (h : wpAny M A (call (.builtin id) (.ref x :: args)) (fun v => Q (some v)) E s) : wpAny M A (callSpecialIfBound? (.ref x) name args) Q E s := by
  simp only [callSpecialIfBound?, bindSpecialIfBound?]
  refine wpAny_holding (wpAny_bind (wpAny_bind (wpAny_bind (I.type.here ((PySem.W.looks_findIn X hs).here ?_)))))
  refine wpAny_bind (wpAny_askSetting (wpAny_ite ?_))
  have last : wpAny M A (call (.builtin id) ([.ref x] ++ args) >>= fun v => pure (some v)) Q E s := wpAny_bind (wpAny_mono h (fun v u hu => wpAny_pure hu) fun _ _ hu => hu)
  split
  · refine wpAny_bind (wpAny_of_eq (hb _) (wpAny_pure ?_))
    exact last
  · refine wpAny_tryCatch (wpAny_bind (wpAny_of_eq (hb _) (wpAny_pure ?_)))
    exact last
theorem check_ne {M : Model} {y : Value} {Q : Unit → Shared → Prop} (X : K.In s.heap) (I : PySem.W.InstAt s.heap x ox C od) (hsub : PySem.W.subIn K (.ref C) (.type "object") = some true) (q : Q () s) :
    wpAny M A (checkBuiltinCall "object.__ne__" ⟨[.ref x, y], []⟩) Q E s := by
  simp only [checkBuiltinCall, PySem.F.cmpKind_ne, PySem.F.cmpSplit_ne]
  have ha := PySem.F.cmpArgs_ne (.ref x) y
  refine wpAny_bind ?_
  unfold isInstance
  refine wpAny_bind (I.type.here ((PySem.W.looks_subIn X hsub).here ?_))
  cases hsig : Manifest.signature? "object.__ne__" with
  | none => exact wpAny_pure q
  | some sig =>
    simp only [argsOk, hsig] at ha
    have h2 : Bind.checkArgs "object.__ne__" sig ⟨[.ref x, y], []⟩ = pure () := ha
    show wpAny M A (Bind.checkArgs "object.__ne__" sig ⟨[.ref x, y], []⟩) Q E _
    rw [h2]
    exact wpAny_pure q
end
section
variable {X : Cx} {n : Nat} {fE C : Addr} {fdE : FuncData}
theorem rawne {prog : Program} {w : World} {A : Around} {E : Value → Shared → Prop} {s : Shared} {K : PySem.W.Frag} {x f : Addr} {y : Value} {ox : Obj} {od : Option Obj} {Q : Value → Shared → Prop} (XK : K.In s.heap) (I : PySem.W.InstAt s.heap x ox C od)
    (hs : PySem.W.findIn K (.ref C) "__eq__" = some (some (.ref f))) (hf : PySem.W.isFn K (.ref f) = true) (hu : A.units < cLine)
    (h : wpAny (model prog w) A (call (.ref f) [.ref x, y]) (fun v u => ∃ b, v = .bool b ∧ Q (.bool (!b)) u) E s) :
    wpAny (model prog w) A (Builtin.«object.__ne__» ⟨[.ref x, y], []⟩) (fun fin u => ∃ v, fin = .done (.ret v) ∧ Q v u) E s := by
  show wpAny (model prog w) A (cRoomFor "comparison" [.ref x, y] >>= _) _ E s
  refine wpAny_bind (wpAny_cRoomFor hu ?_)
  refine wpAny_bind (PySem.W.ifBound_K XK I hs hf (wpAny_mono h (fun v u z => ?_) fun _ _ z => z))
  obtain ⟨b, rfl, q⟩ := z
  refine wpAny_bind (wpAny_truthy_bool (wpAny_pure ⟨_, rfl, q⟩))
theorem op_neM {mg : Str → Option Value} (F : FnOk X.prog X.w X.K X.mg X.base CX0 n fE fdE ["self", "other"] (spEqM C)) (hb : Binds X.K fdE ["self", "other"] []) (M : MadeTxt X.K mg C fE) (hsub : PySem.W.subIn X.K (.ref C) (.type "object") = some true) (hr : Room (n + 1) X.A) : OpR X (compareOp .NotEq) (rNeM C) := by
  intro pins s σ H x y v w Q I rx ry h
  obtain ⟨t, u, ht, hu, zt, zu, kind, q⟩ := h
  rcases kind with ⟨i, j, rfl, rfl⟩ | ⟨m1, ts, m2, us, rfl, rfl⟩
  · cases ht
    cases hu
    have e : decide (Tr.num i = Tr.num j) = decide (V.int i = V.int j) := by
      by_cases h : i = j
      · rw [h, decide_eq_true rfl, decide_eq_true rfl]
      · rw [decide_eq_false (fun z => h (Tr.num.inj z)), decide_eq_false (fun z => h (V.int.inj z))]
    refine op_ne pins s σ H _ _ v w Q I rx ry ⟨rfl, ?_⟩
    rw [← e]
    exact q H fun _ _ e => e
  · have hA := ht
    have hB := hu
    cases ht with
    | @mk a dx p _ xs _ ea ep hx =>
    cases hu with
    | @mk b dy py _ ys _ eb epb hys =>
    cases (show v = Value.ref a from rx)
    cases (show w = Value.ref b from ry)
    obtain ⟨mA, J, _⟩ := ins_get I.hok ea
    obtain ⟨od, J', _⟩ := J.look
    obtain ⟨mB, JB, _⟩ := ins_get I.hok eb
    obtain ⟨odB, JB', _⟩ := JB.look
    obtain ⟨m, hF⟩ := I.fr
    have KI := I.ok.mod.kin.keeps hF.keep
    show wpAny (model X.prog X.w) X.A (richCompare .NotEq (.ref a) (.ref b)) (EP X pins σ Q) X.xe s
    have inner : wpAny (model X.prog X.w) X.A (call (.builtin "object.__ne__") [.ref a, .ref b]) (fun v u => v ≠ .notImplemented ∧ EP X pins σ Q v u) X.xe s := by
      refine wpAny_call (codeAny_call_builtin PySem.F.cmp_object.ne.plain PySem.F.cmpEntry_ne (check_ne KI J' hsub ?_))
      refine wpAny_mono (rawne (Q := fun v u => v ≠ .notImplemented ∧ EP X pins σ Q v u) KI J' M.eqF M.eqK hr.in1.units0 (wpAny_mono (call_eqM (A := X.A.in1) (y := .ref b) F hb ⟨hr.in1, rfl⟩ I rfl hA hB zt zu) (fun r u z => ?_) fun _ _ z => z)) (fun fin u z => ?_) fun _ _ z => z
      · obtain ⟨e, H', I', S⟩ := z
        exact ⟨_, e, by simp, .bl (!decide (Tr.mk m1 ts = Tr.mk m2 us)), H', I', rfl, q H' S⟩
      · obtain ⟨v, rfl, z⟩ := z
        exact z
    unfold richCompare
    simp only [oneThing_ref]
    refine wpAny_holding (wpAny_bind (wpAny_cRoomFor hr.units0 ?_))
    refine wpAny_bind (J'.type.here (wpAny_bind (JB'.type.here ?_)))
    rw [if_neg (by simp)]
    refine wpAny_bind (wpAny_pure ?_)
    simp only [Bool.false_eq_true, if_false]
    refine wpAny_bind (m := tryCompare (.ref a) _ _) ?_
    unfold tryCompare
    refine wpAny_bind (ifBound_B KI J' M.neF PySem.F.cmp_object.ne.bind (wpAny_mono inner (fun r u z => ?_) fun _ _ z => z))
    obtain ⟨nn, z⟩ := z
    cases r <;> first | exact absurd rfl nn | exact wpAny_pure (wpAny_pure z)
end
end Nm
namespace Nm
open PySem PySem.Spec PyProof.Rows L2
/-! ### the program: values made, their parts, == -/
def top (i : Nat) : Stmt := PySem.Challenge.pw_namedmeets_k01_values_and_places.main.body.getD i (.Pass ⟨0, 0, 0, 0⟩)
theorem ite_no {c : Bool} {A B : Prop} (h : c = false) (k : B) : if c = true then A else B := by
  rw [h]
  exact iteF k
theorem ite_yes {c : Bool} {A B : Prop} (h : c = true) (k : A) : if c = true then A else B := by
  rw [h]
  exact iteT k
theorem pe_gref {X : Cx} {x : Str} {C : Addr} {pos : Pos} (hg : Gl X x) (hm : X.mg x = some (.ref C)) (hd : (x == ("__debug__" : Str)) = false := by decide) : PE X (.Name x pos) (tC (.ref C)) := pe_glob hg hm rfl hd
theorem same_new {H : Hp} {p : Addr} {o : HO} (h : H p = none) : Same H (upd H p o) := fun b u e => by
  rw [upd_ne (ne_of_none e h)]
  exact e
theorem sz_of {n : Nat} (h : n ≤ 2000000) : n ≤ sizeLine := Nat.le_trans h (by decide)
structure VTxt (mg : Str → Option Value) : Prop where
  isinstance : mg "isinstance" = none
  len : mg "len" = none
  range : mg "range" = none
  reversed : mg "reversed" = none
  tuple : mg "tuple" = none
  list : mg "list" = none
  int : mg "int" = none
  bool : mg "bool" = none
  zip : mg "zip" = none
def spInit (C : Addr) : Sp := fun vs H Q _ => ∃ (x dx p : Addr) (m : Str) (xs : List V), vs = [.ref x, .str m, .ref p] ∧ H x = some (.ins C dx []) ∧ H p = some (.tup xs) ∧ Q .non (upd H x (.ins C dx (mkF m p)))
def Tr.parts : Tr → List Tr
  | .num _ => []
  | .mk _ ts => ts
def spParts (C : Addr) : Sp := fun vs H Q _ => ∃ (v : V) (t : Tr), vs = [v] ∧ VAt C H v t ∧ ∀ (p : Addr) (xs : List V) (H' : Hp), Same H H' → H' p = some (.tup xs) → VAts C H' xs t.parts → Q (.ref p) H'
def spSize (C : Addr) : Sp := fun vs H Q _ => ∃ (v : V) (t : Tr), vs = [v] ∧ VAt C H v t ∧ t.sz ≤ 1000000 ∧ ∀ H' : Hp, Same H H' → Q (.int (t.sz : Int)) H'
theorem VAts.snoc {C : Addr} {H : Hp} : ∀ {ts : List Tr} {xs : List V}, VAts C H xs ts → xs = [] ∨ ∃ xs' x ts' t, xs = xs' ++ [x] ∧ ts = ts' ++ [t] ∧ VAts C H xs' ts' ∧ VAt C H x t
  | _, _, .nil => .inl rfl
  | _, _, .cons h r => by
    rcases r.snoc with e | ⟨xs', x, ts', t, e1, e2, k1, k2⟩
    · subst e
      cases r
      exact .inr ⟨[], _, [], _, rfl, rfl, .nil, h⟩
    · subst e1 e2
      exact .inr ⟨_ :: xs', x, _ :: ts', t, rfl, rfl, .cons h k1, k2⟩
theorem VAts.put {C : Addr} {H : Hp} {xs : List V} {ts : List Tr} (h : VAts C H xs ts) {p : Addr} {o o' : HO} (e : H p = some o) (n1 : ∀ dx fs, o ≠ .ins C dx fs) (n2 : ∀ xs, o ≠ .tup xs) : VAts C (upd H p o') xs ts :=
  h.mono (fun a dx fs q => by rw [upd_ne (ne_of q e (fun z => n1 _ _ z.symm))]; exact q) fun a xs q => by rw [upd_ne (ne_of q e (fun z => n2 _ z.symm))]; exact q
theorem same_put {H H1 : Hp} {l : Addr} {o : HO} (s : Same H H1) (n : H l = none) : Same H (upd H1 l o) := fun b u e => by
  rw [upd_ne (ne_of_none e n)]
  exact s _ _ e
section
variable {P : Program} {w : World} {K : PySem.W.Frag} {mg : Str → Option Value} {base : Heap} {C fE : Addr}

abbrev sMadeinit : Stmt := inClass (top 4) 0
abbrev NMadeinit : List Str := ["self", "maker", "parts"]
abbrev PMadeinit : List Str := ["self", "maker", "parts"]
theorem scMadeinit : FnScope NMadeinit PMadeinit (defScope sMadeinit) := ⟨rfl, rfl, rfl, by decide +kernel, rfl, by decide +kernel, by decide +kernel⟩

theorem ok_init {f : Addr} {fd : FuncData} (F : Fun K "__init__" "Made.__init__" sMadeinit f fd) (T : VTxt mg) (MT : MadeTxt K mg C fE) : FnOk P w K mg base CX0 1 f fd PMadeinit (spInit C) := by
  refine F.ok scMadeinit (fun vs H Q E h => ?_) (fun cdv A outer s H vs Q E hr h => ?_)
  · obtain ⟨x, dx, p, m, xs, rfl, _⟩ := h
    rfl
  · obtain ⟨x, dx, p, m, xs, rfl, hx, hp, k⟩ := h
    have px : p ≠ x := ne_of hp hx (by intro z; cases z)
    refine ⟨_, (pss_cons (ps_fld (pv 0) (pv 1) rfl)
      (pss_one (ps_fld (pv 0) (pe_ifExp (pt_val (pe_callB call_isi (by rfl) T.isinstance (by decide +kernel) (pa_cons (pv 2) (pa_cons (pe_bltn (v := .ty "list") (by rfl) T.list (by decide +kernel) rfl) pa_nil)))) (pe_callTy call_tuple_of (by rfl) T.tuple (by decide +kernel) (pa_cons (pv 2) pa_nil)) (pv 2)) rfl))), ?_⟩
    refine ⟨.str m, (by kernel_rfl), .ref x, (by kernel_rfl), x, C, dx, [], rfl, hx, MT.cl, MT.nM, (by show 0 < 1000; decide), ?_⟩
    refine ⟨.ref p, (by kernel_rfl), _, _, _, _, false, rfl, .ty "list", .base (.tup (Eq.trans (upd_ne px) hp)), kit_ty (by decide +kernel), _, rfl, ?_⟩
    refine ite_no rfl ?_
    refine ⟨.ref p, (by kernel_rfl), .ref x, (by kernel_rfl), x, C, dx, _, rfl, upd_same, MT.cl, MT.nP, (by show 1 < 1000; decide), ?_⟩
    rw [upd_upd]
    exact k

abbrev spartsof : Stmt := top 6
abbrev Npartsof : List Str := ["value"]
abbrev Ppartsof : List Str := ["value"]
theorem scpartsof : FnScope Npartsof Ppartsof (defScope spartsof) := ⟨rfl, rfl, rfl, by decide +kernel, rfl, by decide +kernel, by decide +kernel⟩

theorem ok_parts {f : Addr} {fd : FuncData} (F : Fun K "parts_of" "parts_of" spartsof f fd) (T : VTxt mg) (MT : MadeTxt K mg C fE) : FnOk P w K mg base CX0 1 f fd Ppartsof (spParts C) := by
  refine F.ok scpartsof (fun vs H Q E h => ?_) (fun cdv A outer s H vs Q E hr h => ?_)
  · obtain ⟨v, t, rfl, _⟩ := h
    rfl
  · obtain ⟨v, t, rfl, hv, k⟩ := h
    refine ⟨_, (pss_one (ps_ret (pe_ifExp (pt_val (pe_callB call_isi (by rfl) T.isinstance (by decide +kernel) (pa_cons (pv 0) (pa_cons (pe_gref (by rfl) MT.gM) pa_nil)))) (pe_fld (pv 0) rfl) (pe_tup pa_nil)))), ?_⟩
    cases hv with
    | num i =>
      refine ⟨.int i, (by kernel_rfl), _, _, _, _, false, rfl, .own C, .base (.int i), MT.kitI, _, rfl, ?_⟩
      refine ite_no rfl ?_
      exact ⟨by show 0 ≤ sizeLine; decide, fun p np => k p [] _ (same_new np) upd_same .nil⟩
    | @mk a dx p m xs ts ea ep h =>
      refine ⟨.ref a, (by kernel_rfl), _, _, _, _, true, rfl, .own C, MT.ins ea, MT.kitC, _, rfl, ?_⟩
      refine ite_yes rfl ?_
      exact ⟨.ref a, (by kernel_rfl), a, C, dx, _, _, rfl, ea, MT.cl, MT.nP, mkF_parts m p, k p xs H (fun _ _ e => e) ep h⟩

abbrev ssizeof : Stmt := top 7
abbrev Nsizeof : List Str := ["value", "count", "waiting", "one"]
abbrev Psizeof : List Str := ["value"]
theorem scsizeof : FnScope Nsizeof Psizeof (defScope ssizeof) := ⟨rfl, rfl, rfl, by decide +kernel, rfl, by decide +kernel, by decide +kernel⟩

theorem ok_size {f fP : Addr} {fd fdP : FuncData} (F : Fun K "size_of" "size_of" ssizeof f fd) (T : VTxt mg) (MT : MadeTxt K mg C fE) (F_parts_of : Fun K "parts_of" "parts_of" spartsof fP fdP) (b_parts_of : Binds K fdP ["value"] []) (g_parts_of : mg "parts_of" = some (.ref fP)) : FnOk P w K mg base CX0 2 f fd Psizeof (spSize C) := by
  have G_parts_of : FnOk P w K mg base CX0 1 fP fdP Ppartsof (spParts C) := ok_parts F_parts_of T MT
  refine F.ok scsizeof (fun vs H Q E h => ?_) (fun cdv A outer s H vs Q E hr h => ?_)
  · obtain ⟨v, t, rfl, _⟩ := h
    rfl
  · obtain ⟨v, t, rfl, hv, zt, k⟩ := h
    have hr1 := hr
    refine ⟨_, (pss_cons (ps_set (i := 1) scsizeof.nd rfl (Or.inl rfl) pe_int)
      (pss_cons (ps_set (i := 2) scsizeof.nd rfl (Or.inl rfl) (pe_lst (pa_cons (pv 0) pa_nil)))
      (pss_cons (ps_while PassesOwn.never (pt_truth (pv 2) (by intro _; rfl))
      (pss_cons (ps_set (i := 3) scsizeof.nd rfl (Or.inl rfl) (pe_bm0 PySem.F.plainAttrs_list PySem.F.slot_list_pop PySem.F.type_list_pop mt_pop (pv 2)))
      (pss_cons (ps_aug (i := 1) scsizeof.nd rfl (.inl rfl) pe_int ip_add)
      (pss_one (ps_expr (pe_bm PySem.F.plainAttrs_list PySem.F.slot_list_extend PySem.F.type_list_extend mt_extendT (pv 2) (pa_cons (pe_call G_parts_of hr1 rfl g_parts_of F_parts_of.kp b_parts_of .nil pass0 (pa_cons (pv 3) pa_nil)) pa_nil)))))))
      (pss_one (ps_ret (pv 1)))))), ?_⟩
    refine ⟨v, (by kernel_rfl), by show 1 ≤ sizeLine; decide, fun l nl => ?_⟩
    refine ⟨fun m σ H' => ∃ (c : Nat) (xs : List V) (ws : List Tr) (v3 : Option V), σ = [some v, some (.int (c : Int)), some (.ref l), v3] ∧ H' l = some (.lst xs) ∧ VAts C H' xs ws ∧ Same H H' ∧ c + Tr.szL ws = t.sz ∧ m = Tr.szL ws,
      ⟨_, 0, [v], [t], none, rfl, upd_same, .cons (hv.same (same_new nl)) .nil, same_new nl, by simp [Tr.szL], rfl⟩, ?_⟩
    rintro m σ H1 ⟨c, xs, ws, v3, rfl, hl, hx, S, hc, rfl⟩
    refine ⟨.ref l, (by kernel_rfl), !xs.isEmpty, .inl ⟨xs, SqL.of hl, rfl⟩, ?_⟩
    rcases hx.snoc with e | ⟨xs', x, ws', u, rfl, rfl, hx', hxu⟩
    · subst e
      cases hx
      refine ite_no rfl ?_
      have ec : c = t.sz := by simpa [Tr.szL] using hc
      refine ⟨.int (c : Int), (by kernel_rfl), ?_⟩
      rw [ec]
      exact k H1 S
    · refine ite_yes (by cases xs' <;> rfl) ?_
      refine ⟨_, fun σ' H' h => h, ?_⟩
      refine ⟨.ref l, (by kernel_rfl), .inl ⟨rfl, _, SqL.of hl⟩, l, _, x, rfl, rfl, hl, (by simp), ?_⟩
      rw [show (xs' ++ [x]).dropLast = xs' from List.dropLast_concat]
      have S1 : Same H (upd H1 l (.lst xs')) := same_put S nl
      have hx1 := hx'.put (o' := .lst xs') hl (by intro _ _ z; cases z) (by intro _ z; cases z)
      have hu1 := hxu.put (o' := .lst xs') hl (by intro _ _ z; cases z) (by intro _ z; cases z)
      have hl1 := upd_same (H := H1) (a := l) (o := .lst xs')
      generalize upd H1 l (.lst xs') = H2 at S1 hx1 hu1 hl1 ⊢
      refine ⟨.int (c : Int), (by kernel_rfl), _, _, rfl, rfl, ?_⟩
      refine ⟨.ref l, (by kernel_rfl), .inl ⟨rfl, _, SqL.of hl1⟩, x, (by kernel_rfl), x, u, rfl, hu1, fun p ys H3 S3 hp hys => ?_⟩
      have hl3 := S3 _ _ hl1
      have szu : u.sz = 1 + Tr.szL u.parts := by cases u <;> simp [Tr.sz, Tr.parts, Tr.szL]
      rw [szL_app] at hc
      have l1 := hx1.len
      have l2 := hys.len
      have l3 := szL_len ws'
      have l4 := szL_len u.parts
      have e1 : Tr.szL [u] = u.sz := by simp [Tr.szL]
      refine ⟨l, p, xs', ys, rfl, rfl, hl3, SqT.of hp, sz_of (by omega), ?_⟩
      refine ⟨Tr.szL (ws' ++ u.parts), ?_, c + 1, xs' ++ ys, ws' ++ u.parts, some x, by simp, upd_same, (hx1.same S3).app hys |>.put hl3 (by intro _ _ z; cases z) (by intro _ z; cases z), same_put (S1.trans S3) nl, ?_, rfl⟩
      · rw [szL_app, szL_app]; omega
      · rw [szL_app]; omega
end
end Nm
namespace Nm
open PySem PySem.Spec PyProof.Rows L2
/-! ### Made.__eq__ -/
/-- what waits: pairs of values, at new pairs -/
inductive QAt (C : Addr) (H : Hp) : List V → List (Tr × Tr) → Prop
  | nil : QAt C H [] []
  | cons {T : Addr} {x y : V} {t u : Tr} {xs : List V} {ws : List (Tr × Tr)} (e : H T = some (.tup [x, y])) (hx : VAt C H x t) (hy : VAt C H y u) (r : QAt C H xs ws) : QAt C H (.ref T :: xs) ((t, u) :: ws)
theorem QAt.mono {C : Addr} {H H' : Hp} (k1 : ∀ a dx fs, H a = some (.ins C dx fs) → H' a = some (.ins C dx fs)) (k2 : ∀ a xs, H a = some (.tup xs) → H' a = some (.tup xs)) : ∀ {ws : List (Tr × Tr)} {xs : List V}, QAt C H xs ws → QAt C H' xs ws
  | _, _, .nil => .nil
  | _, _, .cons e hx hy r => .cons (k2 _ _ e) (hx.mono k1 k2) (hy.mono k1 k2) (r.mono k1 k2)
theorem QAt.same {C : Addr} {H H' : Hp} {xs : List V} {ws : List (Tr × Tr)} (h : QAt C H xs ws) (s : Same H H') : QAt C H' xs ws := h.mono (fun a dx fs e => s _ _ e) fun a xs e => s _ _ e
theorem QAt.put {C : Addr} {H : Hp} {xs : List V} {ws : List (Tr × Tr)} (h : QAt C H xs ws) {p : Addr} {o o' : HO} (e : H p = some o) (n1 : ∀ dx fs, o ≠ .ins C dx fs) (n2 : ∀ xs, o ≠ .tup xs) : QAt C (upd H p o') xs ws :=
  h.mono (fun a dx fs q => by rw [upd_ne (ne_of q e (fun z => n1 _ _ z.symm))]; exact q) fun a xs q => by rw [upd_ne (ne_of q e (fun z => n2 _ z.symm))]; exact q
theorem QAt.len {C : Addr} {H : Hp} : ∀ {xs : List V} {ws : List (Tr × Tr)}, QAt C H xs ws → xs.length = ws.length
  | _, _, .nil => rfl
  | _, _, .cons _ _ _ r => by simp [QAt.len r]
theorem QAt.app {C : Addr} {H : Hp} : ∀ {xs ys : List V} {ws vs : List (Tr × Tr)}, QAt C H xs ws → QAt C H ys vs → QAt C H (xs ++ ys) (ws ++ vs)
  | _, _, _, _, .nil, k => k
  | _, _, _, _, .cons e hx hy r, k => .cons e hx hy (QAt.app r k)
theorem QAt.snoc {C : Addr} {H : Hp} : ∀ {ws : List (Tr × Tr)} {xs : List V}, QAt C H xs ws → xs = [] ∨ ∃ xs' T x y ws' t u, xs = xs' ++ [V.ref T] ∧ ws = ws' ++ [(t, u)] ∧ QAt C H xs' ws' ∧ H T = some (.tup [x, y]) ∧ VAt C H x t ∧ VAt C H y u
  | _, _, .nil => .inl rfl
  | _, _, .cons e hx hy r => by
    rcases r.snoc with q | ⟨xs', T, x, y, ws', t, u, e1, e2, k⟩
    · subst q
      cases r
      exact .inr ⟨[], _, _, _, [], _, _, rfl, rfl, .nil, e, hx, hy⟩
    · subst e1 e2
      exact .inr ⟨_ :: xs', T, x, y, _ :: ws', t, u, rfl, rfl, .cons e hx hy k.1, k.2⟩
theorem qat_zip {C : Addr} {H : Hp} : ∀ {Ts : List Addr} {xs ys : List V} {ts us : List Tr}, Ts.length = xs.length → xs.length = ys.length → PairsAt H Ts xs ys → VAts C H xs ts → VAts C H ys us → QAt C H (Ts.map V.ref) (ts.zip us)
  | [], _, _, _, _, _, _, _, .nil, _ => .nil
  | [], _, _, _, _, e, _, _, .cons _ _, _ => nomatch e
  | T :: Ts, _, _, _, _, e, _, _, .nil, _ => nomatch e
  | T :: Ts, _, _, _, _, _, e, _, .cons _ _, .nil => nomatch e
  | T :: Ts, _, _, _, _, e1, e2, p, .cons hx r, .cons hy r' => .cons (p 0 T _ _ rfl rfl rfl) hx hy (qat_zip (Nat.succ.inj e1) (Nat.succ.inj e2) (fun j T' x y h1 h2 h3 => p (j + 1) T' x y (by simpa using h1) (by simpa using h2) (by simpa using h3)) r r')
def allEq (ws : List (Tr × Tr)) : Prop := ∀ p ∈ ws, p.1 = p.2
theorem allEq_snoc (ws : List (Tr × Tr)) (t u : Tr) : allEq (ws ++ [(t, u)]) ↔ allEq ws ∧ t = u := by
  constructor
  · intro h
    exact ⟨fun p m => h p (List.mem_append_left _ m), h (t, u) (by simp)⟩
  · rintro ⟨h, e⟩ p m
    rcases List.mem_append.mp m with m | m
    · exact h p m
    · obtain rfl := List.mem_singleton.mp m
      exact e
theorem allEq_zip : ∀ (ts us : List Tr), ts.length = us.length → (allEq (ts.zip us) ↔ ts = us)
  | [], [], _ => ⟨fun _ => rfl, fun _ p m => nomatch m⟩
  | [], _ :: _, e => nomatch e
  | _ :: _, [], e => nomatch e
  | t :: ts, u :: us, e => by
    have ih := allEq_zip ts us (Nat.succ.inj e)
    constructor
    · intro h
      have h1 : t = u := h (t, u) (by simp)
      have h2 := ih.mp fun p m => h p (List.mem_cons_of_mem _ m)
      rw [h1, h2]
    · intro h
      obtain ⟨h1, h2⟩ := List.cons.inj h
      intro p m
      rcases List.mem_cons.mp m with rfl | m
      · exact h1
      · exact ih.mpr h2 p m
theorem allEq_app (ws vs : List (Tr × Tr)) : allEq (ws ++ vs) ↔ allEq ws ∧ allEq vs := by
  constructor
  · intro h
    exact ⟨fun p m => h p (List.mem_append_left _ m), fun p m => h p (List.mem_append_right _ m)⟩
  · rintro ⟨h1, h2⟩ p m
    rcases List.mem_append.mp m with m | m
    · exact h1 p m
    · exact h2 p m
def szW (ws : List (Tr × Tr)) : Nat := Tr.szL (ws.map (·.1))
theorem szW_app (a b : List (Tr × Tr)) : szW (a ++ b) = szW a + szW b := by unfold szW; rw [List.map_append, szL_app]
theorem szW_zip (ts us : List Tr) (e : ts.length = us.length) : szW (ts.zip us) = Tr.szL ts := by
  unfold szW
  rw [List.map_fst_zip (by omega)]
theorem szW_len (ws : List (Tr × Tr)) : ws.length ≤ szW ws := by
  have h := szL_len (ws.map (·.1))
  rw [List.length_map] at h
  exact h
section
variable {P : Program} {w : World} {K : PySem.W.Frag} {mg : Str → Option Value} {base : Heap} {C fE : Addr}

abbrev sMadeeq : Stmt := inClass (top 4) 1
abbrev NMadeeq : List Str := ["self", "other", "waiting", "one", "two"]
abbrev PMadeeq : List Str := ["self", "other"]
theorem scMadeeq : FnScope NMadeeq PMadeeq (defScope sMadeeq) := ⟨rfl, rfl, rfl, by decide +kernel, rfl, by decide +kernel, by decide +kernel⟩

theorem ok_eq {f : Addr} {fd : FuncData} (F : Fun K "__eq__" "Made.__eq__" sMadeeq f fd) (T : VTxt mg) (MT : MadeTxt K mg C fE) : FnOk P w K mg base CX0 1 f fd ["self", "other"] (spEqM C) := by
  refine F.ok scMadeeq (fun vs H Q E h => ?_) (fun cdv A outer s H vs Q E hr h => ?_)
  · obtain ⟨a, y, t, u, rfl, _⟩ := h
    rfl
  · obtain ⟨a, y, t, u, rfl, ht, hu, zt, zu, k⟩ := h
    refine ⟨_, (pss_cons (ps_set (i := 2) scMadeeq.nd rfl (Or.inl rfl) (pe_lst (pa_cons (pe_tup (pa_cons (pv 0) (pa_cons (pv 1) pa_nil))) pa_nil)))
      (pss_cons (ps_while PassesOwn.never (pt_truth (pv 2) (by intro _; rfl))
      (pss_cons (ps_asg (pe_bm0 PySem.F.plainAttrs_list PySem.F.slot_list_pop PySem.F.type_list_pop mt_pop (pv 2)) (pg_tup (by rfl) (pgs_cons (pg_name (i := 3) scMadeeq.nd rfl (Or.inl rfl)) (pgs_cons (pg_name (i := 4) scMadeeq.nd rfl (Or.inl rfl)) pgs_nil))))
      (pss_one (ps_if (PW.pt (pw_and (pt_val (pe_callB call_isi (by rfl) T.isinstance (by decide +kernel) (pa_cons (pv 3) (pa_cons (pe_gref (by rfl) MT.gM) pa_nil)))) (pw_and1 (pt_val (pe_callB call_isi (by rfl) T.isinstance (by decide +kernel) (pa_cons (pv 4) (pa_cons (pe_gref (by rfl) MT.gM) pa_nil)))))))
      (pss_cons (ps_if (PW.pt (pw_or (pt_cmpR op_ne (pe_fld (pv 3) rfl) (pe_fld (pv 4) rfl) (nomark _)) (pw_or1 (pt_cmpR op_ne (pe_callB call_len_seq (by rfl) T.len PySem.boot_len (pa_cons (pe_fld (pv 3) rfl) pa_nil)) (pe_callB call_len_seq (by rfl) T.len PySem.boot_len (pa_cons (pe_fld (pv 4) rfl) pa_nil)) (nomark _)))))
      (pss_one (ps_ret pe_bl))
      pss_nil)
      (pss_one (ps_expr (pe_bm PySem.F.plainAttrs_list PySem.F.slot_list_extend PySem.F.type_list_extend mt_extend (pv 2) (pa_cons (pe_listZip rfl (by rfl) T.list (by rfl) T.zip (pa_cons (pe_fld (pv 3) rfl) (pa_cons (pe_fld (pv 4) rfl) pa_nil))) pa_nil)))))
      (pss_one (ps_if (PW.pt (pw_or (pt_val (pe_callB call_isi (by rfl) T.isinstance (by decide +kernel) (pa_cons (pv 3) (pa_cons (pe_gref (by rfl) MT.gM) pa_nil)))) (pw_or1 (pt_val (pe_callB call_isi (by rfl) T.isinstance (by decide +kernel) (pa_cons (pv 4) (pa_cons (pe_gref (by rfl) MT.gM) pa_nil)))))))
      (pss_one (ps_ret pe_bl))
      (pss_one (ps_if (PW.pt (pw_or (pt_cmpR op_ne (pe_callB call_isi (by rfl) T.isinstance (by decide +kernel) (pa_cons (pv 3) (pa_cons (pe_bltn (v := .ty "bool") (by rfl) T.bool (by decide +kernel) rfl) pa_nil))) (pe_callB call_isi (by rfl) T.isinstance (by decide +kernel) (pa_cons (pv 4) (pa_cons (pe_bltn (v := .ty "bool") (by rfl) T.bool (by decide +kernel) rfl) pa_nil))) (nomark _)) (pw_or1 (pt_cmpR op_ne (pv 3) (pv 4) (nomark _)))))
      (pss_one (ps_ret pe_bl))
      pss_nil))))))))
      (pss_one (ps_ret pe_bl)))), ?_⟩
    refine ⟨.ref a, (by kernel_rfl), y, (by kernel_rfl), by show 2 ≤ sizeLine; decide, fun T0 nT0 => ?_⟩
    refine ⟨by show 1 ≤ sizeLine; decide, fun l nl => ?_⟩
    have s0 := same_new (o := .tup [.ref a, y]) nT0
    have e0 := upd_same (H := H) (a := T0) (o := .tup [.ref a, y])
    generalize upd H T0 (.tup [.ref a, y]) = H0 at s0 e0 nl ⊢
    have nH : H l = none := by
      cases e : H l with
      | none => rfl
      | some o => rw [s0 _ _ e] at nl; cases nl
    refine ⟨fun m σ H' => ∃ (xs : List V) (ws : List (Tr × Tr)) (v3 v4 : Option V), σ = [some (.ref a), some y, some (.ref l), v3, v4] ∧ H' l = some (.lst xs) ∧ QAt C H' xs ws ∧ Same H H' ∧ (t = u ↔ allEq ws) ∧ szW ws ≤ t.sz ∧ m = szW ws,
      ⟨_, [.ref T0], [(t, u)], none, none, rfl, upd_same, .cons (same_new nl _ _ e0) (ht.same (s0.trans (same_new nl))) (hu.same (s0.trans (same_new nl))) .nil, s0.trans (same_new nl), ⟨fun e p m => by obtain rfl := List.mem_singleton.mp m; exact e, fun h => h (t, u) (by simp)⟩, by simp [szW, Tr.szL], rfl⟩, ?_⟩
    rintro m σ H1 ⟨xs, ws, v3, v4, rfl, hl, hq, S, iff, hz, rfl⟩
    refine ⟨.ref l, (by kernel_rfl), !xs.isEmpty, .inl ⟨xs, SqL.of hl, rfl⟩, ?_⟩
    rcases hq.snoc with e | ⟨xs', T1, x1, y1, ws', t1, u1, rfl, rfl, hq', eT, hx, hy⟩
    · subst e
      cases hq
      refine ite_no rfl ?_
      have e : t = u := iff.mpr fun p m => nomatch m
      rw [show decide (t = u) = true from decide_eq_true e] at k
      exact k _ S
    refine ite_yes (by cases xs' <;> rfl) ?_
    refine ⟨_, fun σ' H' h => h, ?_⟩
    refine ⟨.ref l, (by kernel_rfl), .inl ⟨rfl, _, SqL.of hl⟩, l, _, .ref T1, rfl, rfl, hl, (by simp), ?_⟩
    rw [show (xs' ++ [V.ref T1]).dropLast = xs' from List.dropLast_concat]
    have S2 : Same H (upd H1 l (.lst xs')) := same_put S nH
    have T1l : T1 ≠ l := ne_of eT hl (by intro z; cases z)
    have eT2 : upd H1 l (.lst xs') T1 = some (.tup [x1, y1]) := (upd_ne T1l).trans eT
    have hq2 := hq'.put (o' := .lst xs') hl (by intro _ _ z; cases z) (by intro _ z; cases z)
    have hx2 := hx.put (o' := .lst xs') hl (by intro _ _ z; cases z) (by intro _ z; cases z)
    have hy2 := hy.put (o' := .lst xs') hl (by intro _ _ z; cases z) (by intro _ z; cases z)
    have hl2 := upd_same (H := H1) (a := l) (o := .lst xs')
    clear hx hy hq' eT hq
    generalize upd H1 l (.lst xs') = H2 at S2 eT2 hq2 hx2 hy2 hl2 ⊢
    refine ⟨T1, [x1, y1], rfl, SqT.of eT2, rfl, x1, [y1], rfl, y1, [], rfl, rfl, ?_⟩
    rw [allEq_snoc] at iff
    rw [szW_app] at hz
    have e1 : szW [(t1, u1)] = t1.sz := by simp [szW, Tr.szL]
    have lq := hq2.len
    have lw := szW_len ws'
    cases hx2 with
    | num i =>
      refine ⟨.int i, (by kernel_rfl), _, _, _, _, false, rfl, .own C, .base (.int i), MT.kitI, _, rfl, ?_⟩
      refine ite_no rfl ?_
      refine ite_no rfl ?_
      refine ⟨.int i, (by kernel_rfl), _, _, _, _, false, rfl, .own C, .base (.int i), MT.kitI, _, rfl, ?_⟩
      refine ite_no rfl ?_
      cases hy2 with
      | num j =>
        refine ⟨.int j, (by kernel_rfl), _, _, _, _, false, rfl, .own C, .base (.int j), MT.kitI, _, rfl, ?_⟩
        refine ite_no rfl ?_
        refine ⟨.int i, (by kernel_rfl), _, _, _, _, false, rfl, .ty "bool", .base (.int i), kit_ty (by decide +kernel), .int j, (by kernel_rfl), _, _, _, _, false, rfl, .ty "bool", .base (.int j), kit_ty (by decide +kernel), rfl, _, rfl, ?_⟩
        refine ite_no (by decide) ?_
        refine ⟨.int i, (by kernel_rfl), .int j, (by kernel_rfl), rfl, _, rfl, ?_⟩
        by_cases ij : i = j
        · refine ite_no (by rw [ij, decide_eq_true rfl]; rfl) ?_
          exact ⟨szW ws', by rw [szW_app, e1]; simp [Tr.sz], xs', ws', _, _, rfl, hl2, hq2, S2, iff.trans ⟨fun h => h.1, fun h => ⟨h, by rw [ij]⟩⟩, by omega, rfl⟩
        · refine ite_yes (by rw [decide_eq_false (fun z => ij (V.int.inj z))]; rfl) ?_
          rw [show decide (t = u) = false from decide_eq_false fun e => ij (Tr.num.inj (iff.mp e).2)] at k
          exact k _ S2
      | @mk b dy py m2 ys us eb epb hys =>
        refine ⟨.ref b, (by kernel_rfl), _, _, _, _, true, rfl, .own C, MT.ins eb, MT.kitC, _, rfl, ?_⟩
        refine ite_yes rfl ?_
        rw [show decide (t = u) = false from decide_eq_false fun e => by have z := (iff.mp e).2; cases z] at k
        exact k _ S2
    | @mk b1 d1 p1 m1 xs1 ts1 eb1 ep1 hxs1 =>
      refine ⟨.ref b1, (by kernel_rfl), _, _, _, _, true, rfl, .own C, MT.ins eb1, MT.kitC, _, rfl, ?_⟩
      refine ite_yes rfl ?_
      cases hy2 with
      | num j =>
        refine ⟨.int j, (by kernel_rfl), _, _, _, _, false, rfl, .own C, .base (.int j), MT.kitI, _, rfl, ?_⟩
        refine ite_no rfl ?_
        refine ⟨.ref b1, (by kernel_rfl), _, _, _, _, true, rfl, .own C, MT.ins eb1, MT.kitC, _, rfl, ?_⟩
        refine ite_yes rfl ?_
        refine ite_yes rfl ?_
        rw [show decide (t = u) = false from decide_eq_false fun e => by have z := (iff.mp e).2; cases z] at k
        exact k _ S2
      | @mk b2 d2 p2 m2 xs2 ts2 eb2 ep2 hxs2 =>
        refine ⟨.ref b2, (by kernel_rfl), _, _, _, _, true, rfl, .own C, MT.ins eb2, MT.kitC, _, rfl, ?_⟩
        refine ite_yes rfl ?_
        refine ⟨.ref b1, (by kernel_rfl), b1, C, d1, _, _, rfl, eb1, MT.cl, MT.nM, mkF_maker m1 p1, .ref b2, (by kernel_rfl), b2, C, d2, _, _, rfl, eb2, MT.cl, MT.nM, mkF_maker m2 p2, rfl, _, rfl, ?_⟩
        by_cases em : m1 = m2
        · refine ite_no (by rw [em, decide_eq_true rfl]; rfl) ?_
          refine ⟨.ref b1, (by kernel_rfl), b1, C, d1, _, _, rfl, eb1, MT.cl, MT.nP, mkF_parts m1 p1, p1, _, rfl, .inr (SqT.of ep1), .ref b2, (by kernel_rfl), b2, C, d2, _, _, rfl, eb2, MT.cl, MT.nP, mkF_parts m2 p2, p2, _, rfl, .inr (SqT.of ep2), rfl, _, rfl, ?_⟩
          have l1 := hxs1.len
          have l2 := hxs2.len
          by_cases el : xs1.length = xs2.length
          · refine ite_no (by rw [el, decide_eq_true rfl]; rfl) ?_
            have et : ts1.length = ts2.length := by omega
            have sz1 : (Tr.mk m1 ts1).sz = 1 + Tr.szL ts1 := by simp [Tr.sz]
            have b1' := szL_len ts1
            refine ⟨.ref l, (by kernel_rfl), .inl ⟨rfl, _, SqL.of hl2⟩, .ref b1, (by kernel_rfl), b1, C, d1, _, _, rfl, eb1, MT.cl, MT.nP, mkF_parts m1 p1, .ref b2, (by kernel_rfl), b2, C, d2, _, _, rfl, eb2, MT.cl, MT.nP, mkF_parts m2 p2, p1, p2, xs1, xs2, rfl, SqT.of ep1, SqT.of ep2, el, (by omega), fun L H3 Ts S3 nL hL hlen hP => ?_⟩
            have hl3 := S3 _ _ hl2
            refine ⟨l, L, xs', _, rfl, rfl, hl3, hL, sz_of (by rw [List.length_map]; omega), ?_⟩
            have hz' := qat_zip hlen el hP (hxs1.same S3) (hxs2.same S3)
            have zz := szW_zip ts1 ts2 et
            refine ⟨szW (ws' ++ ts1.zip ts2), by rw [szW_app, szW_app, e1, zz, sz1]; omega, xs' ++ Ts.map V.ref, ws' ++ ts1.zip ts2, _, _, rfl, upd_same, ((hq2.same S3).app hz').put hl3 (by intro _ _ z; cases z) (by intro _ z; cases z), same_put (S2.trans S3) nH, ?_, by rw [szW_app, zz]; omega, rfl⟩
            rw [allEq_app, allEq_zip ts1 ts2 et]
            refine iff.trans ⟨fun h => ⟨h.1, (Tr.mk.inj h.2).2⟩, fun h => ⟨h.1, by rw [em, h.2]⟩⟩
          · refine ite_yes (by rw [decide_eq_false (fun z => el (by have q := V.int.inj z; omega))]; rfl) ?_
            rw [show decide (t = u) = false from decide_eq_false fun e => by have z := Tr.mk.inj (iff.mp e).2; have q := congrArg List.length z.2; omega] at k
            exact k _ S2
        · refine ite_yes (by rw [decide_eq_false (fun z => em (V.str.inj z))]; rfl) ?_
          refine ite_yes rfl ?_
          rw [show decide (t = u) = false from decide_eq_false fun e => em (Tr.mk.inj (iff.mp e).2).1] at k
          exact k _ S2
end
end Nm
namespace Nm
open PySem PySem.Spec PyProof.Rows L2
/-! ### ways down, the part at a place -/
def wayL : Tr → List Nat → Option (List Tr)
  | t, [] => some [t]
  | t, k :: r => match t.parts[k]? with
    | some c => (wayL c r).map (t :: ·)
    | none => none
def atT : Tr → List Nat → Option Tr
  | t, [] => some t
  | t, k :: r => match t.parts[k]? with
    | some c => atT c r
    | none => none
theorem wayL_last : ∀ (ns : List Nat) (t : Tr) (ws : List Tr), wayL t ns = some ws → ∃ vs c, ws = vs ++ [c] ∧ atT t ns = some c ∧ vs.length = ns.length
  | [], t, ws, h => by
    obtain rfl := Option.some.inj h
    exact ⟨[], t, rfl, rfl, rfl⟩
  | k :: r, t, ws, h => by
    unfold wayL at h
    cases e : t.parts[k]? with
    | none => rw [e] at h; cases h
    | some c =>
      rw [e] at h
      obtain ⟨us, hu, rfl⟩ := Option.map_eq_some_iff.mp h
      obtain ⟨vs, d, e1, e2, e3⟩ := wayL_last r c us hu
      refine ⟨t :: vs, d, by rw [e1]; rfl, ?_, by simp [e3]⟩
      unfold atT
      rw [e]
      exact e2
theorem wayL_none : ∀ (ns : List Nat) (t : Tr), wayL t ns = none → atT t ns = none
  | [], t, h => nomatch h
  | k :: r, t, h => by
    unfold wayL at h
    unfold atT
    cases e : t.parts[k]? with
    | none => rfl
    | some c =>
      rw [e] at h
      exact wayL_none r c (Option.map_eq_none_iff.mp h)
theorem wayL_snoc : ∀ (ns : List Nat) (t : Tr) (vs : List Tr) (c : Tr) (k : Nat), wayL t ns = some (vs ++ [c]) → wayL t (ns ++ [k]) = (c.parts[k]?).map fun d => vs ++ [c] ++ [d]
  | [], t, vs, c, k, h => by
    have e := Option.some.inj h
    cases vs with
    | nil =>
      obtain rfl : t = c := (List.cons.inj e).1
      show (match t.parts[k]? with | some c => (wayL c []).map (t :: ·) | none => none) = _
      cases t.parts[k]? <;> rfl
    | cons v vs =>
      have q := congrArg List.length e
      simp at q
  | j :: r, t, vs, c, k, h => by
    show (match t.parts[j]? with | some c => (wayL c (r ++ [k])).map (t :: ·) | none => none) = _
    unfold wayL at h
    cases e : t.parts[j]? with
    | none => rw [e] at h; cases h
    | some d =>
      rw [e] at h
      obtain ⟨us, hu, eu⟩ := Option.map_eq_some_iff.mp h
      cases vs with
      | nil =>
        obtain ⟨_, rfl⟩ := List.cons.inj eu
        obtain ⟨vs, c', e1, _, _⟩ := wayL_last r d [] hu
        cases vs <;> cases e1
      | cons v vs =>
        obtain ⟨rfl, rfl⟩ := List.cons.inj eu
        show (wayL d (r ++ [k])).map (t :: ·) = _
        rw [wayL_snoc r d vs c k hu, Option.map_map]
        rfl
theorem wayL_cut : ∀ (ns ms : List Nat) (t : Tr), wayL t ns = none → wayL t (ns ++ ms) = none
  | [], ms, t, h => nomatch h
  | k :: r, ms, t, h => by
    unfold wayL at h
    show (match t.parts[k]? with | some c => (wayL c (r ++ ms)).map (t :: ·) | none => none) = none
    cases e : t.parts[k]? with
    | none => rfl
    | some c =>
      rw [e] at h
      show (wayL c (r ++ ms)).map (t :: ·) = none
      rw [wayL_cut r ms c (Option.map_eq_none_iff.mp h)]
      rfl
abbrev plV (ns : List Nat) : List V := ns.map fun (n : Nat) => V.int (n : Int)
def spInt : Sp := fun vs H Q _ => ∃ n : Int, vs = [.int n] ∧ Q (.bl true) H
def spWay (C : Addr) : Sp := fun vs H Q _ => ∃ (v : V) (q : Addr) (t : Tr) (ns : List Nat), vs = [v, .ref q] ∧ VAt C H v t ∧ t.sz ≤ 1000000 ∧ H q = some (.tup (plV ns)) ∧ ns.length ≤ 1000000 ∧
  (wayL t ns = none → ∀ H', Same H H' → Q .non H') ∧ ∀ (ws : List Tr) (l : Addr) (xs : List V) (H' : Hp), wayL t ns = some ws → Same H H' → H l = none → H' l = some (.lst xs) → VAts C H' xs ws → Q (.ref l) H'
def spAt (C : Addr) : Sp := fun vs H Q _ => ∃ (v : V) (q : Addr) (t : Tr) (ns : List Nat), vs = [v, .ref q] ∧ VAt C H v t ∧ t.sz ≤ 1000000 ∧ H q = some (.tup (plV ns)) ∧ ns.length ≤ 1000000 ∧
  (atT t ns = none → ∀ H', Same H H' → Q .non H') ∧ ∀ (c : Tr) (x : V) (H' : Hp), atT t ns = some c → Same H H' → VAt C H' x c → Q x H'
section
variable {P : Program} {w : World} {K : PySem.W.Frag} {mg : Str → Option Value} {base : Heap} {C fE : Addr}

abbrev sisinteger : Stmt := top 5
abbrev Nisinteger : List Str := ["value"]
abbrev Pisinteger : List Str := ["value"]
theorem scisinteger : FnScope Nisinteger Pisinteger (defScope sisinteger) := ⟨rfl, rfl, rfl, by decide +kernel, rfl, by decide +kernel, by decide +kernel⟩

theorem ok_isint {f : Addr} {fd : FuncData} (F : Fun K "is_integer" "is_integer" sisinteger f fd) (T : VTxt mg) : FnOk P w K mg base CX0 1 f fd Pisinteger spInt := by
  refine F.ok scisinteger (fun vs H Q E h => ?_) (fun cdv A outer s H vs Q E hr h => ?_)
  · obtain ⟨n, rfl, _⟩ := h
    rfl
  · obtain ⟨n, rfl, k⟩ := h
    refine ⟨_, (pss_one (ps_ret (pe_and (pe_callB call_isi (by rfl) T.isinstance (by decide +kernel) (pa_cons (pv 0) (pa_cons (pe_bltn (v := .ty "int") (by rfl) T.int (by decide +kernel) rfl) pa_nil))) (pe_one (pe_not (pe_callB call_isi (by rfl) T.isinstance (by decide +kernel) (pa_cons (pv 0) (pa_cons (pe_bltn (v := .ty "bool") (by rfl) T.bool (by decide +kernel) rfl) pa_nil)))))))), ?_⟩
    refine ⟨.int n, (by kernel_rfl), _, _, _, _, true, rfl, .ty "int", .base (.int n), kit_ty (by decide +kernel), _, rfl, ?_⟩
    refine ite_yes rfl ?_
    refine ⟨.int n, (by kernel_rfl), _, _, _, _, false, rfl, .ty "bool", .base (.int n), kit_ty (by decide +kernel), false, rfl, k⟩

abbrev swaydown : Stmt := top 9
abbrev Nwaydown : List Str := ["value", "place", "way", "k", "parts"]
abbrev Pwaydown : List Str := ["value", "place"]
theorem scwaydown : FnScope Nwaydown Pwaydown (defScope swaydown) := ⟨rfl, rfl, rfl, by decide +kernel, rfl, by decide +kernel, by decide +kernel⟩

theorem ok_way {f fP fI : Addr} {fd fdP fdI : FuncData} (F : Fun K "way_down" "way_down" swaydown f fd) (T : VTxt mg) (MT : MadeTxt K mg C fE) (F_parts_of : Fun K "parts_of" "parts_of" spartsof fP fdP) (b_parts_of : Binds K fdP ["value"] []) (g_parts_of : mg "parts_of" = some (.ref fP))
    (F_is_integer : Fun K "is_integer" "is_integer" sisinteger fI fdI) (b_is_integer : Binds K fdI ["value"] []) (g_is_integer : mg "is_integer" = some (.ref fI)) : FnOk P w K mg base CX0 2 f fd Pwaydown (spWay C) := by
  have G_parts_of : FnOk P w K mg base CX0 1 fP fdP Ppartsof (spParts C) := ok_parts F_parts_of T MT
  have G_is_integer : FnOk P w K mg base CX0 1 fI fdI Pisinteger spInt := ok_isint F_is_integer T
  refine F.ok scwaydown (fun vs H Q E h => ?_) (fun cdv A outer s H vs Q E hr h => ?_)
  · obtain ⟨v, q, t, ns, rfl, _⟩ := h
    rfl
  · obtain ⟨v, q, t, ns, rfl, hv, zt, hq, nl, kn, ks⟩ := h
    have hr1 := hr
    refine ⟨_, (pss_cons (ps_if (pt_not (pt_val (pe_callB call_isiT (by rfl) T.isinstance (by decide +kernel) (pa_cons (pv 1) (pa_cons (pe_tup (pa_cons (pe_bltn (v := .ty "list") (by rfl) T.list (by decide +kernel) rfl) (pa_cons (pe_bltn (v := .ty "tuple") (by rfl) T.tuple (by decide +kernel) rfl) pa_nil))) pa_nil)))))
      (pss_one (ps_ret pe_non))
      pss_nil)
      (pss_cons (ps_set (i := 2) scwaydown.nd rfl (Or.inl rfl) (pe_lst (pa_cons (pv 0) pa_nil)))
      (pss_cons (ps_for PassesOwn.never rfl (pi_tup (pv 1)) (pg_name (i := 3) scwaydown.nd rfl (Or.inl rfl))
      (pss_cons (ps_set (i := 4) scwaydown.nd rfl (Or.inl rfl) (pe_call G_parts_of hr1 rfl g_parts_of F_parts_of.kp b_parts_of .nil pass0 (pa_cons (pe_ix ix_list (pv 2) (pe_un un_neg pe_int) (fun _ _ => rfl)) pa_nil)))
      (pss_cons (ps_if (PW.pt (pw_or (pt_not (pt_val (pe_call G_is_integer hr1 rfl g_is_integer F_is_integer.kp b_is_integer .nil pass0 (pa_cons (pv 3) pa_nil)))) (pw_or (pt_cmpR op_lt (pv 3) pe_int (nomark _)) (pw_or1 (pt_cmpR op_ge (pv 3) (pe_callB call_len_seq (by rfl) T.len PySem.boot_len (pa_cons (pv 4) pa_nil)) (nomark _))))))
      (pss_one (ps_ret pe_non))
      pss_nil)
      (pss_one (ps_expr (pe_bm PySem.F.plainAttrs_list PySem.F.slot_list_append PySem.F.type_list_append mt_append (pv 2) (pa_cons (pe_ix ix_tup (pv 4) (pv 3) (fun _ _ => rfl)) pa_nil)))))))
      (pss_one (ps_ret (pv 2)))))), ?_⟩
    refine ⟨.ref q, (by kernel_rfl), by show 2 ≤ sizeLine; decide, fun tp ntp => ?_⟩
    have s1 := same_new (o := .tup [.ty "list", .ty "tuple"]) ntp
    have e1 := upd_same (H := H) (a := tp) (o := .tup [.ty "list", .ty "tuple"])
    generalize upd H tp (.tup [.ty "list", .ty "tuple"]) = H1 at s1 e1 ⊢
    refine ⟨.ref q, tp, _, _, [.type "list", .type "tuple"], true, rfl, e1, .cons (.ty "list") (.cons (.ty "tuple") .nil), .base (.tup (s1 _ _ hq)), kitAny_cons (kit_ty (by decide +kernel : _ = some false)) (fun _ => kitAny_cons (kit_ty (by decide +kernel : _ = some true)) (fun z => nomatch z) (fun _ => rfl)) (fun z => nomatch z), _, rfl, ?_⟩
    refine ite_no rfl ?_
    refine ⟨v, (by kernel_rfl), by show 1 ≤ sizeLine; decide, fun l nl1 => ?_⟩
    have nlH : H l = none := by
      cases e : H l with
      | none => rfl
      | some o => rw [s1 _ _ e] at nl1; cases nl1
    have S1 := s1.trans (same_new (o := .lst [v]) nl1)
    refine ⟨.ref q, (by kernel_rfl), q, rfl, ⟨_, SqT.of (S1 _ _ hq)⟩, ?_⟩
    refine for_tup (K := K) (a := q) (xs := plV ns) (fun i σ H' => ∃ (xs : List V) (ws : List Tr) (v3 v4 : Option V), σ = [some v, some (.ref q), some (.ref l), v3, v4] ∧ H' l = some (.lst xs) ∧ VAts C H' xs ws ∧ Same H H' ∧ wayL t (ns.take i) = some ws)
      ⟨[v], [t], none, none, rfl, upd_same, .cons (hv.same S1) .nil, S1, rfl⟩ (fun i σ H' _ ⟨_, _, _, _, _, _, _, S, _⟩ => SqT.of (S _ _ hq)) ?_ ?_
    · rintro i y σ H2 hi ⟨xs, ws, v3, v4, rfl, hl, hx, S, hw⟩
      have li : i < ns.length := by
        have z := (List.getElem?_eq_some_iff.mp hi).1
        simpa using z
      obtain rfl : V.int (ns[i] : Int) = y := by
        rw [List.getElem?_map, List.getElem?_eq_getElem li] at hi
        exact Option.some.inj hi
      obtain ⟨vs, c, rfl, hat, lv⟩ := wayL_last _ _ _ hw
      rcases hx.snoc with e | ⟨xs', x, ts', t', rfl, e2, hx', hxc⟩
      · subst e
        have z := hx.len
        simp at z
      obtain ⟨rfl, e3⟩ := List.append_inj' e2 rfl
      obtain rfl : c = t' := (List.cons.inj e3).1
      have lx := hx.len
      refine ⟨.ref l, (by kernel_rfl), _, rfl, l, _, _, x, rfl, rfl, SqL.of hl, atI_last xs' x, x, c, rfl, hxc, fun p ys H3 S3 hp hys => ?_⟩
      have hl3 := S3 _ _ hl
      refine ⟨.int (ns[i] : Int), (by kernel_rfl), (ns[i] : Int), rfl, _, rfl, ?_⟩
      refine ite_no rfl ?_
      refine ⟨.int (ns[i] : Int), (by kernel_rfl), _, _, rfl, rfl, _, rfl, ?_⟩
      refine ite_no (decide_eq_false (by omega)) ?_
      refine ⟨.int (ns[i] : Int), (by kernel_rfl), .ref p, (by kernel_rfl), p, _, rfl, .inr (SqT.of hp), _, _, rfl, rfl, _, rfl, ?_⟩
      have lys := hys.len
      have tk : ns.take (i + 1) = ns.take i ++ [ns[i]] := by rw [List.take_add_one, List.getElem?_eq_getElem li]; rfl
      have hsn := wayL_snoc (ns.take i) t vs c ns[i] hw
      rw [← tk] at hsn
      have ndt : ns.take (i + 1) ++ ns.drop (i + 1) = ns := List.take_append_drop _ _
      generalize ns[i] = nk at hsn ⊢
      by_cases lk : nk < ys.length
      · refine ite_no (decide_eq_false (by omega)) ?_
        obtain ⟨d, hd, hvd⟩ := hys.at (List.getElem?_eq_getElem lk)
        refine ⟨.ref l, (by kernel_rfl), .inl ⟨rfl, _, SqL.of hl3⟩, .ref p, (by kernel_rfl), .int (nk : Int), (by kernel_rfl), p, ys, (nk : Int), ys[nk], rfl, rfl, SqT.of hp, atI_nat (List.getElem?_eq_getElem lk), ?_⟩
        have lvs : (vs ++ [c]).length ≤ 1000001 := by simp only [List.length_append, List.length_singleton, lv, List.length_take]; omega
        refine ⟨l, _, _, rfl, rfl, hl3, Nat.lt_of_le_of_lt (show (xs' ++ [x]).length ≤ 1000001 by omega) (by decide), ?_⟩
        refine ⟨xs' ++ [x] ++ [ys[nk]], vs ++ [c] ++ [d], _, _, rfl, upd_same, ((hx.same S3).app (.cons hvd .nil)).put hl3 (by intro _ _ z; cases z) (by intro _ z; cases z), same_put (S.trans S3) nlH, ?_⟩
        rw [hsn, hd]
        rfl
      · refine ite_yes (decide_eq_true (by omega)) ?_
        have hnone : c.parts[nk]? = none := List.getElem?_eq_none (by omega)
        rw [hnone] at hsn
        exact kn (by rw [← ndt]; exact wayL_cut _ _ _ hsn) _ (S.trans S3)
    · rintro σ H2 ⟨xs, ws, v3, v4, rfl, hl, hx, S, hw⟩
      have ln : (plV ns).length = ns.length := by simp
      rw [ln, List.take_length] at hw
      exact ⟨.ref l, (by kernel_rfl), ks ws l xs H2 hw S nlH hl hx⟩

abbrev spartat : Stmt := top 10
abbrev Npartat : List Str := ["value", "place", "way"]
abbrev Ppartat : List Str := ["value", "place"]
theorem scpartat : FnScope Npartat Ppartat (defScope spartat) := ⟨rfl, rfl, rfl, by decide +kernel, rfl, by decide +kernel, by decide +kernel⟩

theorem ok_at {f fW fP fI : Addr} {fd fdW fdP fdI : FuncData} (F : Fun K "part_at" "part_at" spartat f fd) (T : VTxt mg) (MT : MadeTxt K mg C fE) (F_parts_of : Fun K "parts_of" "parts_of" spartsof fP fdP) (b_parts_of : Binds K fdP ["value"] []) (g_parts_of : mg "parts_of" = some (.ref fP))
    (F_is_integer : Fun K "is_integer" "is_integer" sisinteger fI fdI) (b_is_integer : Binds K fdI ["value"] []) (g_is_integer : mg "is_integer" = some (.ref fI))
    (F_way_down : Fun K "way_down" "way_down" swaydown fW fdW) (b_way_down : Binds K fdW ["value", "place"] []) (g_way_down : mg "way_down" = some (.ref fW)) : FnOk P w K mg base CX0 3 f fd Ppartat (spAt C) := by
  have G_way_down : FnOk P w K mg base CX0 2 fW fdW Pwaydown (spWay C) := ok_way F_way_down T MT F_parts_of b_parts_of g_parts_of F_is_integer b_is_integer g_is_integer
  refine F.ok scpartat (fun vs H Q E h => ?_) (fun cdv A outer s H vs Q E hr h => ?_)
  · obtain ⟨v, q, t, ns, rfl, _⟩ := h
    rfl
  · obtain ⟨v, q, t, ns, rfl, hv, zt, hq, nl, kn, ks⟩ := h
    have hr1 := hr
    refine ⟨_, (pss_cons (ps_set (i := 2) scpartat.nd rfl (Or.inl rfl) (pe_call G_way_down hr1 rfl g_way_down F_way_down.kp b_way_down .nil pass0 (pa_cons (pv 0) (pa_cons (pv 1) pa_nil))))
      (pss_one (ps_ret (pe_ifExp (pt_cmpR op_isN (pv 2) pe_non (nomark _)) pe_non (pe_ix ix_list (pv 2) (pe_un un_neg pe_int) (fun _ _ => rfl)))))), ?_⟩
    refine ⟨v, (by kernel_rfl), .ref q, (by kernel_rfl), v, q, t, ns, rfl, hv, zt, hq, nl, fun hn H' S => ?_, fun ws l xs H' hw S nL hl hx => ?_⟩
    · refine ⟨.non, (by kernel_rfl), rfl, _, rfl, ?_⟩
      refine ite_yes rfl ?_
      exact kn (wayL_none _ _ hn) H' S
    · refine ⟨.ref l, (by kernel_rfl), rfl, _, rfl, ?_⟩
      refine ite_no rfl ?_
      obtain ⟨vs, c, rfl, hat, _⟩ := wayL_last _ _ _ hw
      rcases hx.snoc with e | ⟨xs', x, ts', t', rfl, e2, hx', hxc⟩
      · subst e
        have z := hx.len
        simp at z
      obtain ⟨rfl, e3⟩ := List.append_inj' e2 rfl
      obtain rfl : c = t' := (List.cons.inj e3).1
      exact ⟨.ref l, (by kernel_rfl), _, rfl, l, _, _, x, rfl, rfl, SqL.of hl, atI_last xs' x, ks c x H' hat S hxc⟩
end
end Nm
namespace Nm
open PySem PySem.Spec PyProof.Rows L2
/-! ### a value with another part -/
def putT : Tr → List Nat → Tr → Tr
  | _, [], c => c
  | .num i, _ :: _, _ => .num i
  | .mk m ts, k :: r, c => match ts[k]? with
    | some d => .mk m (ts.set k (putT d r c))
    | none => .mk m ts
theorem wayL_step : ∀ (ns : List Nat) (t : Tr) (ws : List Tr), wayL t ns = some ws → ws.length = ns.length + 1 ∧ ws[0]? = some t ∧ ∀ (d k : Nat), ns[d]? = some k → ∃ (m : Str) (ts : List Tr) (c : Tr), ws[d]? = some (.mk m ts) ∧ ts[k]? = some c ∧ ws[d + 1]? = some c
  | [], t, ws, h => by
    obtain rfl := Option.some.inj h
    exact ⟨rfl, rfl, fun d k e => by simp at e⟩
  | j :: r, t, ws, h => by
    unfold wayL at h
    cases e : t.parts[j]? with
    | none => rw [e] at h; cases h
    | some c =>
      rw [e] at h
      obtain ⟨us, hu, rfl⟩ := Option.map_eq_some_iff.mp h
      obtain ⟨l, h0, st⟩ := wayL_step r c us hu
      refine ⟨by simp [l], rfl, fun d k ed => ?_⟩
      cases d with
      | zero =>
        obtain rfl : j = k := by simpa using ed
        cases t with
        | num i => simp [Tr.parts] at e
        | mk m ts => exact ⟨m, ts, c, rfl, e, by simpa using h0⟩
      | succ d => simpa using st d k (by simpa using ed)
theorem rCatA_of {K : PySem.W.Frag} {H : Hp} {Q : VK} {a b : Addr} {xs ys : List V} (ha : H a = some (.tup xs)) (hb : H b = some (.tup ys)) (hz : xs.length + ys.length ≤ sizeLine) (k : ∀ (p : Addr) (H' : Hp), Same H H' → H' p = some (.tup (xs ++ ys)) → Q (.ref p) H') : rCatA K (.ref a) (.ref b) H Q :=
  ⟨a, b, xs, ys, rfl, rfl, SqT.of ha, SqT.of hb, hz, fun e => k b H (fun _ _ e => e) (by rw [e]; exact hb), fun _ e => k a H (fun _ _ e => e) (by rw [e, List.append_nil]; exact ha), fun _ _ p np => k p _ (same_new np) upd_same⟩
theorem rSlA_of {K : PySem.W.Frag} {H : Hp} {Q : VK} {a : Addr} {xs : List V} {lo hi : Option Int} (ha : H a = some (.tup xs)) (k : ∀ (p : Addr) (H' : Hp), Same H H' → H' p = some (.tup (cutV xs lo hi)) → Q (.ref p) H') : rSlA K (.ref a) lo hi H Q := by
  refine ⟨a, xs, rfl, SqT.of ha, fun ⟨e1, e2⟩ => k a H (fun _ _ e => e) ?_, fun _ p np => k p _ (same_new np) upd_same⟩
  unfold cutV
  rw [e1, e2, List.drop_zero, Nat.sub_zero, List.take_length]
  exact ha
theorem cut_take {xs : List V} (n : Nat) : cutV xs none (some (n : Int)) = xs.take n := by
  unfold cutV
  rw [show HT.sIx xs.length 0 none = 0 from rfl, HT.sIx_nat]
  simp only [List.drop_zero, Nat.sub_zero]
  exact (List.take_eq_take_min (i := n) (l := xs)).symm
theorem cut_drop {xs : List V} (n : Nat) : cutV xs (some (n : Int)) none = xs.drop n := by
  unfold cutV
  rw [show HT.sIx xs.length xs.length none = xs.length from rfl, HT.sIx_nat]
  rw [List.take_of_length_le (by rw [List.length_drop]; omega)]
  by_cases h : n ≤ xs.length
  · rw [Nat.min_eq_left h]
  · rw [Nat.min_eq_right (by omega), List.drop_of_length_le (Nat.le_refl _), List.drop_of_length_le (by omega)]
theorem VAts.take {C : Addr} {H : Hp} : ∀ {xs : List V} {ts : List Tr} (n : Nat), VAts C H xs ts → VAts C H (xs.take n) (ts.take n)
  | _, _, 0, _ => by simp; exact .nil
  | _, _, _ + 1, .nil => .nil
  | _, _, n + 1, .cons h r => .cons h (r.take n)
theorem VAts.drop {C : Addr} {H : Hp} : ∀ {xs : List V} {ts : List Tr} (n : Nat), VAts C H xs ts → VAts C H (xs.drop n) (ts.drop n)
  | _, _, 0, h => h
  | _, _, _ + 1, .nil => .nil
  | _, _, n + 1, .cons _ r => r.drop n
def spPut (C : Addr) : Sp := fun vs H Q _ => ∃ (v x : V) (q : Addr) (t c : Tr) (ns : List Nat), vs = [v, .ref q, x] ∧ VAt C H v t ∧ t.sz ≤ 1000000 ∧ H q = some (.tup (plV ns)) ∧ ns.length ≤ 1000000 ∧ VAt C H x c ∧ wayL t ns ≠ none ∧
  ∀ (y : V) (H' : Hp), Same H H' → VAt C H' y (putT t ns c) → Q y H'
theorem szL_get : ∀ (ts : List Tr) (k : Nat) (c : Tr), ts[k]? = some c → c.sz ≤ Tr.szL ts
  | [], k, c, e => by simp at e
  | t :: r, 0, c, e => by
    simp at e
    subst e
    simp [Tr.szL]
  | t :: r, k + 1, c, e => by
    have h := szL_get r k c (by simpa using e)
    simp only [Tr.szL]
    omega
theorem wayL_sz : ∀ (ns : List Nat) (t : Tr) (ws : List Tr), wayL t ns = some ws → ∀ w ∈ ws, w.sz ≤ t.sz
  | [], t, ws, h, w, m => by
    obtain rfl := Option.some.inj h
    obtain rfl := List.mem_singleton.mp m
    exact Nat.le_refl _
  | j :: r, t, ws, h, w, m => by
    unfold wayL at h
    cases e : t.parts[j]? with
    | none => rw [e] at h; cases h
    | some c =>
      rw [e] at h
      obtain ⟨us, hu, rfl⟩ := Option.map_eq_some_iff.mp h
      rcases List.mem_cons.mp m with rfl | m
      · exact Nat.le_refl _
      · have h1 := wayL_sz r c us hu w m
        have h2 := szL_get _ _ _ e
        cases t with
        | num i => simp [Tr.parts] at e
        | mk m ts => simp only [Tr.parts] at h2; simp only [Tr.sz]; omega
section
variable {P : Program} {w : World} {K : PySem.W.Frag} {mg : Str → Option Value} {base : Heap} {C fE : Addr}

abbrev svaluewith : Stmt := top 11
abbrev Nvaluewith : List Str := ["value", "place", "part", "way", "new", "depth", "above", "k"]
abbrev Pvaluewith : List Str := ["value", "place", "part"]
theorem scvaluewith : FnScope Nvaluewith Pvaluewith (defScope svaluewith) := ⟨rfl, rfl, rfl, by decide +kernel, rfl, by decide +kernel, by decide +kernel⟩

theorem ok_put {f f0 fW fP fI : Addr} {fd fd0 fdW fdP fdI : FuncData} (F : Fun K "value_with" "value_with" svaluewith f fd) (T : VTxt mg) (MT : MadeTxt K mg C fE) (Mk : Mk K C f0) (F_init : Fun K "__init__" "Made.__init__" sMadeinit f0 fd0) (B_init : Binds K fd0 ["self", "maker", "parts"] [])
    (F_parts_of : Fun K "parts_of" "parts_of" spartsof fP fdP) (b_parts_of : Binds K fdP ["value"] []) (g_parts_of : mg "parts_of" = some (.ref fP))
    (F_is_integer : Fun K "is_integer" "is_integer" sisinteger fI fdI) (b_is_integer : Binds K fdI ["value"] []) (g_is_integer : mg "is_integer" = some (.ref fI))
    (F_way_down : Fun K "way_down" "way_down" swaydown fW fdW) (b_way_down : Binds K fdW ["value", "place"] []) (g_way_down : mg "way_down" = some (.ref fW)) : FnOk P w K mg base CX0 3 f fd Pvaluewith (spPut C) := by
  have G_way_down : FnOk P w K mg base CX0 2 fW fdW Pwaydown (spWay C) := ok_way F_way_down T MT F_parts_of b_parts_of g_parts_of F_is_integer b_is_integer g_is_integer
  have G_init : FnOk P w K mg base CX0 1 f0 fd0 PMadeinit (spInit C) := ok_init F_init T MT
  refine F.ok scvaluewith (fun vs H Q E h => ?_) (fun cdv A outer s H vs Q E hr h => ?_)
  · obtain ⟨v, x, q, t, c, ns, rfl, _⟩ := h
    rfl
  · obtain ⟨v, x, q, t, c, ns, rfl, hv, zt, hq, nl, hx, hne, k⟩ := h
    have hr1 := hr
    refine ⟨_, (pss_cons (ps_set (i := 3) scvaluewith.nd rfl (Or.inl rfl) (pe_call G_way_down hr1 rfl g_way_down F_way_down.kp b_way_down .nil pass0 (pa_cons (pv 0) (pa_cons (pv 1) pa_nil))))
      (pss_cons (ps_if (pt_cmpR op_isN (pv 3) pe_non (nomark _))
      (pss_one (ps_never))
      pss_nil)
      (pss_cons (ps_set (i := 4) scvaluewith.nd rfl (Or.inl rfl) (pv 2))
      (pss_cons (ps_for PassesOwn.never rfl (pi_revR (by rfl) T.reversed (prg_1 (by rfl) T.range (pe_callB call_len_seq (by rfl) T.len PySem.boot_len (pa_cons (pv 1) pa_nil)))) (pg_name (i := 5) scvaluewith.nd rfl (Or.inl rfl))
      (pss_cons (ps_set (i := 6) scvaluewith.nd rfl (Or.inl rfl) (pe_ix ix_list (pv 3) (pv 5) (fun _ _ => rfl)))
      (pss_cons (ps_set (i := 7) scvaluewith.nd rfl (Or.inl rfl) (pe_ix ix_tup (pv 1) (pv 5) (fun _ _ => rfl)))
      (pss_one (ps_set (i := 4) scvaluewith.nd rfl (Or.inl rfl) (pe_make Mk G_init hr1 rfl MT.gM B_init .nil pass0 (pa_cons (pe_fld (pv 6) rfl) (pa_cons (pe_op op_catA (pe_op op_catA (pe_slice sl_tupA (pe_fld (pv 6) rfl) po_none (po_some (pv 7))) (pe_tup (pa_cons (pv 4) pa_nil))) (pe_slice sl_tupA (pe_fld (pv 6) rfl) (po_some (pe_op op_add (pv 7) pe_int)) po_none)) pa_nil))))))))
      (pss_one (ps_ret (pv 4))))))), ?_⟩
    refine ⟨v, (by kernel_rfl), .ref q, (by kernel_rfl), v, q, t, ns, rfl, hv, zt, hq, nl, fun hn H' S => absurd hn hne, fun ws l xs H1 hw S1 nL hl hws => ?_⟩
    refine ⟨.ref l, (by kernel_rfl), rfl, _, rfl, ?_⟩
    refine ite_no rfl ?_
    refine ⟨x, (by kernel_rfl), ?_⟩
    obtain ⟨lw, _, st⟩ := wayL_step _ _ _ hw
    have wz := wayL_sz _ _ _ hw
    have lxs := hws.len
    refine ⟨.ref q, (by kernel_rfl), q, _, rfl, .inr (SqT.of (S1 _ _ hq)), _, rfl, by omega, by omega, by omega, by rw [List.length_map]; omega, ?_⟩
    have en : (((plV ns).length : Int) - 0).toNat = ns.length := by simp
    rw [en]
    refine for_rangeC (fun i σ H' => ∃ (y : V) (v5 v6 v7 : Option V) (u : Tr), σ = [some v, some (.ref q), some x, some (.ref l), some y, v5, v6, v7] ∧ Same H1 H' ∧ VAt C H' y (putT u (ns.drop (ns.length - i)) c) ∧ ws[ns.length - i]? = some u) ?_ ?_ ?_
    · obtain ⟨u, hu⟩ : ∃ u, ws[ns.length - 0]? = some u := ⟨ws[ns.length], by simp [lw]⟩
      refine ⟨x, none, none, none, u, rfl, fun _ _ e => e, ?_, hu⟩
      rw [Nat.sub_zero, List.drop_of_length_le (Nat.le_refl _)]
      exact (show putT u [] c = c from by cases u <;> rfl) ▸ hx.same S1
    · rintro i σ H2 hi ⟨y, v5, v6, v7, u, rfl, S2, hy, hu⟩
      have ld : ns.length - 1 - i < ns.length := by omega
      have ei : (0 : Int) + ((ns.length : Nat) : Int) - 1 + (i : Int) * -1 = ((ns.length - 1 - i : Nat) : Int) := by omega
      rw [ei]
      have e1 : ns.length - i = ns.length - 1 - i + 1 := by omega
      have e2 : ns.length - (i + 1) = ns.length - 1 - i := by omega
      rw [e1] at hy hu
      obtain ⟨m, ts, d, hd, htk, hn⟩ := st (ns.length - 1 - i) ns[ns.length - 1 - i] (List.getElem?_eq_getElem ld)
      rw [hn] at hu
      obtain rfl : d = u := Option.some.inj hu
      have lx : ns.length - 1 - i < xs.length := by omega
      have edrop : ns.drop (ns.length - (i + 1)) = ns[ns.length - 1 - i] :: ns.drop (ns.length - 1 - i + 1) := by rw [e2]; exact List.drop_eq_getElem_cons ld
      have hwd := wz _ (List.mem_of_getElem? hd)
      obtain ⟨tt, htt, hva⟩ := (hws.same S2).at (List.getElem?_eq_getElem lx)
      rw [hd] at htt
      obtain rfl : Tr.mk m ts = tt := Option.some.inj htt
      refine ⟨.ref l, (by kernel_rfl), .int ((ns.length - 1 - i : Nat) : Int), (by kernel_rfl), l, xs, _, xs[ns.length - 1 - i], rfl, rfl, SqL.of (S2 _ _ hl), atI_nat (List.getElem?_eq_getElem lx), ?_⟩
      refine ⟨.ref q, (by kernel_rfl), .int ((ns.length - 1 - i : Nat) : Int), (by kernel_rfl), q, plV ns, _, V.int (ns[ns.length - 1 - i] : Int), rfl, rfl, SqT.of ((S1.trans S2) _ _ hq), atI_nat (by rw [List.getElem?_map, List.getElem?_eq_getElem ld]; rfl), ?_⟩
      generalize ns[ns.length - 1 - i] = kk at htk edrop ⊢
      generalize xs[ns.length - 1 - i] = av at hva ⊢
      cases hva with
      | @mk a dx p _ ys _ ea ep hys =>
      have ly := hys.len
      have lk := (List.getElem?_eq_some_iff.mp htk).1
      have lsz := szL_len ts
      have tsz : (Tr.mk m ts).sz = 1 + Tr.szL ts := by simp [Tr.sz]
      refine ⟨.ref a, (by kernel_rfl), a, C, dx, _, _, rfl, ea, MT.cl, MT.nM, mkF_maker m p, ?_⟩
      refine ⟨.ref a, (by kernel_rfl), a, C, dx, _, _, rfl, ea, MT.cl, MT.nP, mkF_parts m p, .int (kk : Int), (by kernel_rfl), (kk : Int), rfl, rSlA_of ep fun p1 H3 S3 h1 => ?_⟩
      rw [cut_take] at h1
      refine ⟨y, (by kernel_rfl), by show 1 ≤ sizeLine; decide, fun p2 np2 => ?_⟩
      have S4 := S3.trans (same_new (o := .tup [y]) np2)
      have h2 := upd_same (H := H3) (a := p2) (o := .tup [y])
      have h1' := (same_new (o := .tup [y]) np2) _ _ h1
      generalize upd H3 p2 (.tup [y]) = H4 at S4 h2 h1' ⊢
      refine rCatA_of h1' h2 (sz_of (by simp; omega)) fun p3 H5 S5 h3 => ?_
      refine ⟨.ref a, (by kernel_rfl), a, C, dx, _, _, rfl, (S4.trans S5) _ _ ea, MT.cl, MT.nP, mkF_parts m p, .int (kk : Int), (by kernel_rfl), _, _, rfl, rfl, ?_⟩
      refine ⟨(kk : Int) + 1, rfl, ?_⟩
      unfold tNoPart
      refine rSlA_of ((S4.trans S5) _ _ ep) fun p4 H6 S6 h4 => ?_
      rw [show (kk : Int) + 1 = ((kk + 1 : Nat) : Int) from rfl, cut_drop] at h4
      refine rCatA_of (S6 _ _ h3) h4 (sz_of (by simp; omega)) fun p5 H7 S7 h5 => ?_
      have S8 := ((S4.trans S5).trans S6).trans S7
      intro nx dn n1 n2 n3
      have m1 : Same H7 (upd H7 dn (.own nx)) := same_new n2
      have p5x : p5 ≠ nx := fun z => by rw [z, n1] at h5; cases h5
      have m2 : ∀ o, Same H7 (upd (upd H7 dn (.own nx)) nx o) := fun o => same_put m1 n1
      refine ⟨nx, dn, p5, m, _, rfl, upd_same, m2 _ _ _ h5, rfl, ?_⟩
      rw [upd_upd]
      refine ⟨.ref nx, _, _, _, _, rfl, (S2.trans S8).trans (m2 _), ?_, by rw [e2]; exact hd⟩
      have hall : VAts C H7 (ys.take kk ++ [y] ++ ys.drop (kk + 1)) (ts.take kk ++ [putT d (ns.drop (ns.length - 1 - i + 1)) c] ++ ts.drop (kk + 1)) :=
        (((hys.take kk).app (.cons hy .nil)).app (hys.drop (kk + 1))).same S8
      have eset : ts.take kk ++ [putT d (ns.drop (ns.length - 1 - i + 1)) c] ++ ts.drop (kk + 1) = ts.set kk (putT d (ns.drop (ns.length - 1 - i + 1)) c) := by
        rw [List.set_eq_take_append_cons_drop, if_pos lk]
        simp
      rw [eset] at hall
      have ep2 : putT (Tr.mk m ts) (ns.drop (ns.length - (i + 1))) c = .mk m (ts.set kk (putT d (ns.drop (ns.length - 1 - i + 1)) c)) := by
        rw [edrop]
        show (match ts[kk]? with | some d => Tr.mk m (ts.set kk (putT d _ c)) | none => Tr.mk m ts) = _
        rw [htk]
      rw [ep2]
      exact .mk upd_same (m2 _ _ _ h5) (hall.same (m2 _))
    · rintro σ H2 ⟨y, v5, v6, v7, u, rfl, S2, hy, hu⟩
      have z0 : ns.length - ns.length = 0 := Nat.sub_self _
      rw [z0] at hy hu
      obtain ⟨_, w0, _⟩ := wayL_step _ _ _ hw
      rw [w0] at hu
      obtain rfl : t = u := Option.some.inj hu
      exact ⟨y, (by kernel_rfl), k y H2 (S1.trans S2) hy⟩
end
end Nm
namespace Nm
open PySem PySem.Spec PyProof.Rows L2
/-! ### all places, in order -/
mutual
def plT : Tr → List (List Nat)
  | .num _ => [[]]
  | .mk _ ts => [] :: plL 0 ts
def plL : Nat → List Tr → List (List Nat)
  | _, [] => []
  | k, t :: r => (plT t).map (k :: ·) ++ plL (k + 1) r
end
def plF (p : Tr × List Nat) : List (List Nat) := (plT p.1).map (p.2 ++ ·)
def kids : Nat → List Nat → List Tr → List (Tr × List Nat)
  | _, _, [] => []
  | k, pl, t :: r => (t, pl ++ [k]) :: kids (k + 1) pl r
def restP (ws : List (Tr × List Nat)) : List (List Nat) := (ws.reverse.map plF).flatten
theorem kids_flat : ∀ (ts : List Tr) (k : Nat) (pl : List Nat), ((kids k pl ts).map plF).flatten = (plL k ts).map (pl ++ ·)
  | [], _, _ => rfl
  | t :: r, k, pl => by
    show plF (t, pl ++ [k]) ++ ((kids (k + 1) pl r).map plF).flatten = _
    rw [kids_flat r (k + 1) pl]
    simp only [plL, List.map_append, List.map_map]
    unfold plF
    simp [Function.comp_def]
theorem plT_kids (u : Tr) (pl : List Nat) : plF (u, pl) = pl :: ((kids 0 pl u.parts).map plF).flatten := by
  rw [kids_flat]
  unfold plF
  cases u with
  | num i => simp [plT, Tr.parts, plL]
  | mk m ts => simp [plT, Tr.parts]
theorem kids_len : ∀ (ts : List Tr) (k : Nat) (pl : List Nat), (kids k pl ts).length = ts.length
  | [], _, _ => rfl
  | t :: r, k, pl => by simp [kids, kids_len r]
theorem kids_at : ∀ (ts : List Tr) (k : Nat) (pl : List Nat) (j : Nat) (t : Tr), ts[j]? = some t → (kids k pl ts)[j]? = some (t, pl ++ [k + j])
  | [], _, _, _, _, e => by simp at e
  | t :: r, k, pl, 0, _, e => by
    simp at e
    subst e
    rfl
  | t :: r, k, pl, j + 1, t', e => by
    have q := kids_at r (k + 1) pl j t' (by simpa using e)
    simp only [kids, List.getElem?_cons_succ, q]
    have z : k + 1 + j = k + (j + 1) := by omega
    rw [z]
theorem restP_snoc (ws : List (Tr × List Nat)) (p : Tr × List Nat) : restP (ws ++ [p]) = plF p ++ restP ws := by simp [restP]
theorem restP_kids (ws ks : List (Tr × List Nat)) : restP (ws ++ ks.reverse) = (ks.map plF).flatten ++ restP ws := by simp [restP]
/-- what waits: pairs of a value and its place -/
inductive RAt (C : Addr) (H : Hp) : List V → List (Tr × List Nat) → Prop
  | nil : RAt C H [] []
  | cons {T pp : Addr} {x : V} {t : Tr} {pl : List Nat} {xs : List V} {ws : List (Tr × List Nat)} (e : H T = some (.tup [x, .ref pp])) (hx : VAt C H x t) (hp : H pp = some (.tup (plV pl))) (r : RAt C H xs ws) : RAt C H (.ref T :: xs) ((t, pl) :: ws)
theorem RAt.mono {C : Addr} {H H' : Hp} (k1 : ∀ a dx fs, H a = some (.ins C dx fs) → H' a = some (.ins C dx fs)) (k2 : ∀ a xs, H a = some (.tup xs) → H' a = some (.tup xs)) : ∀ {ws : List (Tr × List Nat)} {xs : List V}, RAt C H xs ws → RAt C H' xs ws
  | _, _, .nil => .nil
  | _, _, .cons e hx hp r => .cons (k2 _ _ e) (hx.mono k1 k2) (k2 _ _ hp) (r.mono k1 k2)
theorem RAt.same {C : Addr} {H H' : Hp} {xs : List V} {ws : List (Tr × List Nat)} (h : RAt C H xs ws) (s : Same H H') : RAt C H' xs ws := h.mono (fun a dx fs e => s _ _ e) fun a xs e => s _ _ e
theorem RAt.put {C : Addr} {H : Hp} {xs : List V} {ws : List (Tr × List Nat)} (h : RAt C H xs ws) {p : Addr} {o o' : HO} (e : H p = some o) (n1 : ∀ dx fs, o ≠ .ins C dx fs) (n2 : ∀ xs, o ≠ .tup xs) : RAt C (upd H p o') xs ws :=
  h.mono (fun a dx fs q => by rw [upd_ne (ne_of q e (fun z => n1 _ _ z.symm))]; exact q) fun a xs q => by rw [upd_ne (ne_of q e (fun z => n2 _ z.symm))]; exact q
theorem RAt.len {C : Addr} {H : Hp} : ∀ {xs : List V} {ws : List (Tr × List Nat)}, RAt C H xs ws → xs.length = ws.length
  | _, _, .nil => rfl
  | _, _, .cons _ _ _ r => by simp [RAt.len r]
theorem RAt.app {C : Addr} {H : Hp} : ∀ {xs ys : List V} {ws vs : List (Tr × List Nat)}, RAt C H xs ws → RAt C H ys vs → RAt C H (xs ++ ys) (ws ++ vs)
  | _, _, _, _, .nil, k => k
  | _, _, _, _, .cons e hx hp r, k => .cons e hx hp (RAt.app r k)
theorem RAt.snoc {C : Addr} {H : Hp} : ∀ {ws : List (Tr × List Nat)} {xs : List V}, RAt C H xs ws → xs = [] ∨ ∃ xs' T x pp ws' t pl, xs = xs' ++ [V.ref T] ∧ ws = ws' ++ [(t, pl)] ∧ RAt C H xs' ws' ∧ H T = some (.tup [x, .ref pp]) ∧ VAt C H x t ∧ H pp = some (.tup (plV pl))
  | _, _, .nil => .inl rfl
  | _, _, .cons e hx hp r => by
    rcases r.snoc with q | ⟨xs', T, x, pp, ws', t, u, e1, e2, k⟩
    · subst q
      cases r
      exact .inr ⟨[], _, _, _, [], _, _, rfl, rfl, .nil, e, hx, hp⟩
    · subst e1 e2
      exact .inr ⟨_ :: xs', T, x, pp, _ :: ws', t, u, rfl, rfl, .cons e hx hp k.1, k.2⟩
/-- places, each a tuple of its own -/
def PlsAt (H : Hp) : List V → List (List Nat) → Prop := Paired fun v (pl : List Nat) => ∃ T : Addr, v = .ref T ∧ H T = some (.tup (plV pl))
theorem paired_mono {α β : Type} {F G : α → β → Prop} : ∀ {xs : List α} {ys : List β}, Paired F xs ys → (∀ a b, F a b → G a b) → Paired G xs ys
  | _, _, .nil, _ => .nil
  | _, _, .cons r t, k => .cons (k _ _ r) (paired_mono t k)
theorem paired_snoc {α β : Type} {F : α → β → Prop} {a : α} {b : β} (h : F a b) : ∀ {xs : List α} {ys : List β}, Paired F xs ys → Paired F (xs ++ [a]) (ys ++ [b])
  | _, _, .nil => .cons h .nil
  | _, _, .cons r t => .cons r (paired_snoc h t)
theorem PlsAt.mono {H H' : Hp} {xs : List V} {pls : List (List Nat)} (h : PlsAt H xs pls) (k2 : ∀ a xs, H a = some (.tup xs) → H' a = some (.tup xs)) : PlsAt H' xs pls := paired_mono h fun _ _ ⟨T, e, q⟩ => ⟨T, e, k2 _ _ q⟩
theorem PlsAt.same {H H' : Hp} {xs : List V} {pls : List (List Nat)} (h : PlsAt H xs pls) (s : Same H H') : PlsAt H' xs pls := h.mono fun _ _ e => s _ _ e
theorem PlsAt.put {H : Hp} {xs : List V} {pls : List (List Nat)} (h : PlsAt H xs pls) {p : Addr} {o o' : HO} (e : H p = some o) (n2 : ∀ xs, o ≠ .tup xs) : PlsAt (upd H p o') xs pls :=
  h.mono fun a xs q => by rw [upd_ne (ne_of q e (fun z => n2 _ z.symm))]; exact q
mutual
theorem plT_len : ∀ t : Tr, (plT t).length = t.sz
  | .num _ => rfl
  | .mk _ ts => by
    simp only [plT, List.length_cons, Tr.sz, plL_len 0 ts]
    omega
theorem plL_len : ∀ (k : Nat) (ts : List Tr), (plL k ts).length = Tr.szL ts
  | _, [] => rfl
  | k, t :: r => by simp only [plL, List.length_append, List.length_map, Tr.szL, plT_len t, plL_len (k + 1) r]
end
def szP (ws : List (Tr × List Nat)) : Nat := Tr.szL (ws.map (·.1))
theorem szP_app (a b : List (Tr × List Nat)) : szP (a ++ b) = szP a + szP b := by unfold szP; rw [List.map_append, szL_app]
theorem szP_len (ws : List (Tr × List Nat)) : ws.length ≤ szP ws := by
  have h := szL_len (ws.map (·.1))
  rw [List.length_map] at h
  exact h
theorem szL_rev : ∀ ts : List Tr, Tr.szL ts.reverse = Tr.szL ts
  | [] => rfl
  | t :: r => by rw [List.reverse_cons, szL_app, szL_rev r]; simp only [Tr.szL]; omega
theorem szP_kids (ts : List Tr) (k : Nat) (pl : List Nat) : szP (kids k pl ts).reverse = Tr.szL ts := by
  unfold szP
  rw [List.map_reverse, szL_rev]
  have e : ∀ (ts : List Tr) (k : Nat), (kids k pl ts).map (·.1) = ts := by
    intro ts
    induction ts with
    | nil => intro k; rfl
    | cons t r ih => intro k; simp [kids, ih]
  rw [e]
theorem kids_mem : ∀ (ts : List Tr) (k : Nat) (pl : List Nat) (p : Tr × List Nat), p ∈ kids k pl ts → p.2.length = pl.length + 1 ∧ p.1 ∈ ts
  | [], _, _, _, h => nomatch h
  | t :: r, k, pl, p, h => by
    rcases List.mem_cons.mp h with rfl | h
    · exact ⟨by simp, List.mem_cons_self⟩
    · have q := kids_mem r (k + 1) pl p h
      exact ⟨q.1, List.mem_cons_of_mem _ q.2⟩
theorem szL_mem {ts : List Tr} {c : Tr} (h : c ∈ ts) : c.sz ≤ Tr.szL ts := by
  obtain ⟨k, hk, rfl⟩ := List.getElem_of_mem h
  exact szL_get ts k _ (List.getElem?_eq_getElem hk)
def spPlaces (C : Addr) : Sp := fun vs H Q _ => ∃ (v : V) (t : Tr), vs = [v] ∧ VAt C H v t ∧ t.sz ≤ 1000000 ∧ ∀ (p : Addr) (xs : List V) (H' : Hp), Same H H' → H' p = some (.tup xs) → PlsAt H' xs (plT t) → Q (.ref p) H'
section
variable {P : Program} {w : World} {K : PySem.W.Frag} {mg : Str → Option Value} {base : Heap} {C fE : Addr}

abbrev splacesof : Stmt := top 8
abbrev Nplacesof : List Str := ["value", "places", "waiting", "one", "place", "parts", "k"]
abbrev Pplacesof : List Str := ["value"]
theorem scplacesof : FnScope Nplacesof Pplacesof (defScope splacesof) := ⟨rfl, rfl, rfl, by decide +kernel, rfl, by decide +kernel, by decide +kernel⟩

theorem ok_places {f fP : Addr} {fd fdP : FuncData} (F : Fun K "places_of" "places_of" splacesof f fd) (T : VTxt mg) (MT : MadeTxt K mg C fE) (F_parts_of : Fun K "parts_of" "parts_of" spartsof fP fdP) (b_parts_of : Binds K fdP ["value"] []) (g_parts_of : mg "parts_of" = some (.ref fP)) : FnOk P w K mg base CX0 2 f fd Pplacesof (spPlaces C) := by
  have G_parts_of : FnOk P w K mg base CX0 1 fP fdP Ppartsof (spParts C) := ok_parts F_parts_of T MT
  refine F.ok scplacesof (fun vs H Q E h => ?_) (fun cdv A outer s H vs Q E hr h => ?_)
  · obtain ⟨v, t, rfl, _⟩ := h
    rfl
  · obtain ⟨v, t, rfl, hv, zt, k⟩ := h
    have hr1 := hr
    refine ⟨_, (pss_cons (ps_set (i := 1) scplacesof.nd rfl (Or.inl rfl) (pe_lst pa_nil))
      (pss_cons (ps_set (i := 2) scplacesof.nd rfl (Or.inl rfl) (pe_lst (pa_cons (pe_tup (pa_cons (pv 0) (pa_cons (pe_tup pa_nil) pa_nil))) pa_nil)))
      (pss_cons (ps_while PassesOwn.never (pt_truth (pv 2) (by intro _; rfl))
      (pss_cons (ps_asg (pe_bm0 PySem.F.plainAttrs_list PySem.F.slot_list_pop PySem.F.type_list_pop mt_pop (pv 2)) (pg_tup (by rfl) (pgs_cons (pg_name (i := 3) scplacesof.nd rfl (Or.inl rfl)) (pgs_cons (pg_name (i := 4) scplacesof.nd rfl (Or.inl rfl)) pgs_nil))))
      (pss_cons (ps_expr (pe_bm PySem.F.plainAttrs_list PySem.F.slot_list_append PySem.F.type_list_append mt_append (pv 1) (pa_cons (pv 4) pa_nil)))
      (pss_cons (ps_set (i := 5) scplacesof.nd rfl (Or.inl rfl) (pe_call G_parts_of hr1 rfl g_parts_of F_parts_of.kp b_parts_of .nil pass0 (pa_cons (pv 3) pa_nil)))
      (pss_one (ps_for PassesOwn.never rfl (pi_revR (by rfl) T.reversed (prg_1 (by rfl) T.range (pe_callB call_len_seq (by rfl) T.len PySem.boot_len (pa_cons (pv 5) pa_nil)))) (pg_name (i := 6) scplacesof.nd rfl (Or.inl rfl))
      (pss_one (ps_expr (pe_bm PySem.F.plainAttrs_list PySem.F.slot_list_append PySem.F.type_list_append mt_append (pv 2) (pa_cons (pe_tup (pa_cons (pe_ix ix_tup (pv 5) (pv 6) (fun _ _ => rfl)) (pa_cons (pe_op op_catA (pv 4) (pe_tup (pa_cons (pv 6) pa_nil))) pa_nil))) pa_nil))))))))))
      (pss_one (ps_ret (pe_callTy call_tuple_of (by rfl) T.tuple (by decide +kernel) (pa_cons (pv 1) pa_nil))))))), ?_⟩
    refine ⟨by show 0 ≤ sizeLine; decide, fun dl nd => ?_⟩
    have hd1 := upd_same (H := H) (a := dl) (o := .lst [])
    have S1 := same_new (o := .lst []) nd
    generalize upd H dl (.lst []) = H1 at hd1 S1 ⊢
    refine ⟨v, (by kernel_rfl), by show 0 ≤ sizeLine; decide, fun pp np => ?_⟩
    have hp1 := upd_same (H := H1) (a := pp) (o := .tup [])
    have S2 := S1.trans (same_new (o := .tup []) np)
    have hd2 := (same_new (o := .tup []) np) _ _ hd1
    generalize upd H1 pp (.tup []) = H2 at hp1 S2 hd2 ⊢
    refine ⟨by show 2 ≤ sizeLine; decide, fun T0 nT => ?_⟩
    have s3 := same_new (o := .tup [v, .ref pp]) nT
    have hT := upd_same (H := H2) (a := T0) (o := .tup [v, .ref pp])
    generalize upd H2 T0 (.tup [v, .ref pp]) = H3 at s3 hT ⊢
    refine ⟨by show 1 ≤ sizeLine; decide, fun l nl => ?_⟩
    have s4 := same_new (o := .lst [.ref T0]) nl
    have S4 := (S2.trans s3).trans s4
    have nlH : H l = none := by
      cases e : H l with
      | none => rfl
      | some o => rw [s3 _ _ (S2 _ _ e)] at nl; cases nl
    have ldl : l ≠ dl := fun z => by rw [z, s3 _ _ hd2] at nl; cases nl
    refine ⟨fun m σ H' => ∃ (ds xs : List V) (pls : List (List Nat)) (ws : List (Tr × List Nat)) (v3 v4 v5 v6 : Option V), σ = [some v, some (.ref dl), some (.ref l), v3, v4, v5, v6] ∧ H' dl = some (.lst ds) ∧ H' l = some (.lst xs) ∧ PlsAt H' ds pls ∧ RAt C H' xs ws ∧ Same H H' ∧
        plT t = pls ++ restP ws ∧ (∀ p ∈ ws, p.2.length + p.1.sz ≤ t.sz) ∧ szP ws ≤ t.sz ∧ m = szP ws,
      ⟨_, [], [.ref T0], [], [(t, [])], none, none, none, none, rfl, s4 _ _ (s3 _ _ hd2), upd_same, .nil, .cons (s4 _ _ hT) (hv.same S4) (s4 _ _ (s3 _ _ hp1)) .nil, S4, by simp [restP, plF], fun p m => by obtain rfl := List.mem_singleton.mp m; simp, by simp [szP, Tr.szL], rfl⟩, ?_⟩
    rintro m σ H5 ⟨ds, xs, pls, ws, v3, v4, v5, v6, rfl, hd, hl, hP, hR, S, ep, hb, hz, rfl⟩
    have lpl : pls.length ≤ 1000000 := by
      have q := congrArg List.length ep
      rw [plT_len, List.length_append] at q
      omega
    have lds := Paired.length hP
    refine ⟨.ref l, (by kernel_rfl), !xs.isEmpty, .inl ⟨xs, SqL.of hl, rfl⟩, ?_⟩
    rcases hR.snoc with e | ⟨xs', T1, x, pq, ws', u, pl, rfl, rfl, hR', eT, hx, hq⟩
    · subst e
      cases hR
      refine ite_no rfl ?_
      refine ⟨.ref dl, (by kernel_rfl), dl, ds, rfl, .inl ⟨SqL.of hd, fun r nr => ?_⟩⟩
      have e2 : plT t = pls := by simpa [restP] using ep
      rw [e2] at k
      exact k r ds _ (S.trans (same_new nr)) upd_same (hP.same (same_new nr))
    refine ite_yes (by cases xs' <;> rfl) ?_
    refine ⟨_, fun σ' H' h => h, ?_⟩
    refine ⟨.ref l, (by kernel_rfl), .inl ⟨rfl, _, SqL.of hl⟩, l, _, .ref T1, rfl, rfl, hl, (by simp), ?_⟩
    rw [show (xs' ++ [V.ref T1]).dropLast = xs' from List.dropLast_concat]
    have nA : ∀ (xs : List V) (dx : Addr) (fs : List (Str × V)), HO.lst xs ≠ .ins C dx fs := fun _ _ _ z => by cases z
    have nB : ∀ (xs ys : List V), HO.lst xs ≠ .tup ys := fun _ _ z => by cases z
    have k2 : ∀ a ys, H5 a = some (.tup ys) → upd H5 l (.lst xs') a = some (.tup ys) := fun a ys q => (upd_ne (ne_of q hl (nB _ _).symm)).trans q
    have S6 : Same H (upd H5 l (.lst xs')) := same_put S nlH
    have eT6 := k2 _ _ eT
    have hq6 := k2 _ _ hq
    have hx6 := hx.put (o' := .lst xs') hl (nA _) (nB _)
    have hR6 := hR'.put (o' := .lst xs') hl (nA _) (nB _)
    have hP6 := hP.put (o' := .lst xs') hl (nB _)
    have hd6 : upd H5 l (.lst xs') dl = some (.lst ds) := (upd_ne (Ne.symm ldl)).trans hd
    have hl6 := upd_same (H := H5) (a := l) (o := .lst xs')
    clear k2 hR hR' hP eT hx hq hd hl S
    generalize upd H5 l (.lst xs') = H6 at S6 eT6 hq6 hx6 hR6 hP6 hd6 hl6 ⊢
    refine ⟨T1, [x, .ref pq], rfl, SqT.of eT6, rfl, x, [.ref pq], rfl, .ref pq, [], rfl, rfl, ?_⟩
    -- places.append(place)
    refine ⟨.ref dl, (by kernel_rfl), .inl ⟨rfl, _, SqL.of hd6⟩, .ref pq, (by kernel_rfl), dl, ds, .ref pq, rfl, rfl, hd6, Nat.lt_of_le_of_lt (show ds.length ≤ 1000000 by omega) (by decide), ?_⟩
    have k2 : ∀ a ys, H6 a = some (.tup ys) → upd H6 dl (.lst (ds ++ [V.ref pq])) a = some (.tup ys) := fun a ys q => (upd_ne (ne_of q hd6 (nB _ _).symm)).trans q
    have S7 : Same H (upd H6 dl (.lst (ds ++ [V.ref pq]))) := same_put S6 nd
    have hq7 := k2 _ _ hq6
    have hx7 := hx6.put (o' := .lst (ds ++ [V.ref pq])) hd6 (nA _) (nB _)
    have hR7 := hR6.put (o' := .lst (ds ++ [V.ref pq])) hd6 (nA _) (nB _)
    have hP7 : PlsAt (upd H6 dl (.lst (ds ++ [V.ref pq]))) (ds ++ [V.ref pq]) (pls ++ [pl]) := paired_snoc ⟨pq, rfl, hq7⟩ (hP6.put (o' := .lst (ds ++ [V.ref pq])) hd6 (nB _))
    have hl7 : upd H6 dl (.lst (ds ++ [V.ref pq])) l = some (.lst xs') := (upd_ne ldl).trans hl6
    have hd7 := upd_same (H := H6) (a := dl) (o := .lst (ds ++ [V.ref pq]))
    clear k2 hR6 hP6 eT6 hx6 hq6 hd6 hl6 S6
    generalize upd H6 dl (.lst (ds ++ [V.ref pq])) = H7 at S7 hq7 hx7 hR7 hP7 hl7 hd7 ⊢
    refine ⟨x, (by kernel_rfl), x, u, rfl, hx7, fun p ys H8 S8 hp hys => ?_⟩
    have lys := hys.len
    have hbu := hb (u, pl) (by simp)
    have szu : u.sz = 1 + Tr.szL u.parts := by cases u <;> simp [Tr.sz, Tr.parts, Tr.szL]
    have lpp := szL_len u.parts
    have hbu' : pl.length + u.sz ≤ t.sz := hbu
    refine ⟨.ref p, (by kernel_rfl), p, ys, rfl, .inr (SqT.of hp), _, rfl, by omega, by omega, by omega, by omega, ?_⟩
    rw [show (((ys.length : Nat) : Int) - 0).toNat = ys.length by omega]
    have lk := kids_len u.parts 0 pl
    have lR7 := hR7.len
    have lws := szP_len ws'
    rw [szP_app] at hz
    refine for_rangeC (fun i σ H' => ∃ (xs2 : List V) (v6 : Option V), σ = [some v, some (.ref dl), some (.ref l), some x, some (.ref pq), some (.ref p), v6] ∧ H' dl = some (.lst (ds ++ [V.ref pq])) ∧ H' l = some (.lst xs2) ∧ PlsAt H' (ds ++ [V.ref pq]) (pls ++ [pl]) ∧ RAt C H' xs2 (ws' ++ (kids 0 pl u.parts).reverse.take i) ∧ Same H H' ∧
        H' p = some (.tup ys) ∧ VAts C H' ys u.parts ∧ H' pq = some (.tup (plV pl))) ⟨xs', v6, rfl, S8 _ _ hd7, S8 _ _ hl7, hP7.same S8, (by simpa using hR7.same S8), S7.trans S8, hp, hys, S8 _ _ hq7⟩ ?_ ?_
    · rintro i σ H9 hi ⟨xs2, v6, rfl, hd9, hl9, hP9, hR9, S9, hp9, hys9, hq9⟩
      have ei : (0 : Int) + ((ys.length : Nat) : Int) - 1 + (i : Int) * -1 = ((ys.length - 1 - i : Nat) : Int) := by omega
      rw [ei]
      have lj : ys.length - 1 - i < ys.length := by omega
      obtain ⟨c, hc, hvc⟩ := hys9.at (List.getElem?_eq_getElem lj)
      have hk := kids_at u.parts 0 pl _ c hc
      have etk : (kids 0 pl u.parts).reverse.take (i + 1) = (kids 0 pl u.parts).reverse.take i ++ [(c, pl ++ [ys.length - 1 - i])] := by
        rw [List.take_add_one, List.getElem?_reverse (by omega), lk]
        rw [show u.parts.length - 1 - i = ys.length - 1 - i by omega, hk, Nat.zero_add]
        rfl
      refine ⟨.ref l, (by kernel_rfl), .inl ⟨rfl, _, SqL.of hl9⟩, ?_⟩
      refine ⟨.ref p, (by kernel_rfl), .int ((ys.length - 1 - i : Nat) : Int), (by kernel_rfl), p, ys, _, ys[ys.length - 1 - i], rfl, rfl, SqT.of hp9, atI_nat (List.getElem?_eq_getElem lj), ?_⟩
      refine ⟨.ref pq, (by kernel_rfl), .int ((ys.length - 1 - i : Nat) : Int), (by kernel_rfl), by show 1 ≤ sizeLine; decide, fun t1 nt1 => ?_⟩
      generalize ys[ys.length - 1 - i] = yv at hvc ⊢
      generalize ys.length - 1 - i = kk at etk ⊢
      have sA := same_new (o := .tup [.int (kk : Int)]) nt1
      refine rCatA_of (sA _ _ hq9) upd_same (sz_of (by simp; omega)) fun pn H10 s10 hpn => ?_
      have sB := sA.trans s10
      refine ⟨by show 2 ≤ sizeLine; decide, fun t2 nt2 => ?_⟩
      have s11 := same_new (o := .tup [yv, .ref pn]) nt2
      have sC := sB.trans s11
      have ht2 := upd_same (H := H10) (a := t2) (o := .tup [yv, .ref pn])
      have hpn2 : upd H10 t2 (.tup [yv, .ref pn]) pn = some (.tup (plV (pl ++ [kk]))) := by rw [s11 _ _ hpn]; simp
      clear nt2 hpn s11
      generalize upd H10 t2 (.tup [yv, .ref pn]) = H11 at sC ht2 hpn2 ⊢
      have hl11 := sC _ _ hl9
      have l9 := hR9.len
      have lb : xs2.length ≤ 1000000 := by
        rw [l9, List.length_append, List.length_take]
        have e1 : szP [(u, pl)] = u.sz := by simp [szP, Tr.szL]
        omega
      refine ⟨l, xs2, .ref t2, rfl, rfl, hl11, Nat.lt_of_le_of_lt lb (by decide), ?_⟩
      have k2 : ∀ a zs, H11 a = some (.tup zs) → upd H11 l (.lst (xs2 ++ [.ref t2])) a = some (.tup zs) := fun a zs q => (upd_ne (ne_of q hl11 (nB _ _).symm)).trans q
      refine ⟨xs2 ++ [.ref t2], _, rfl, (upd_ne (Ne.symm ldl)).trans (sC _ _ hd9), upd_same, (hP9.same sC).put hl11 (nB _), ?_, same_put (S9.trans sC) nlH, k2 _ _ (sC _ _ hp9), (hys9.same sC).put hl11 (nA _) (nB _), k2 _ _ (sC _ _ hq9)⟩
      rw [etk, ← List.append_assoc]
      exact ((hR9.same sC).app (.cons ht2 (hvc.same sC) hpn2 .nil)).put hl11 (nA _) (nB _)
    · rintro σ H9 ⟨xs2, v6, rfl, hd9, hl9, hP9, hR9, S9, hp9, hys9, hq9⟩
      rw [List.take_of_length_le (by rw [List.length_reverse]; omega)] at hR9
      have e1 : szP [(u, pl)] = u.sz := by simp [szP, Tr.szL]
      refine ⟨szP (ws' ++ (kids 0 pl u.parts).reverse), by rw [szP_app, szP_app, szP_kids, e1]; omega, ds ++ [.ref pq], xs2, pls ++ [pl], ws' ++ (kids 0 pl u.parts).reverse, _, _, _, _, rfl, hd9, hl9, hP9, hR9, S9, ?_, fun q hq => ?_, by rw [szP_app, szP_kids]; omega, rfl⟩
      · rw [ep, restP_snoc, restP_kids, plT_kids]
        simp
      · rcases List.mem_append.mp hq with h | h
        · exact hb q (List.mem_append_left _ h)
        · have z := kids_mem _ _ _ _ (List.mem_reverse.mp h)
          have z2 := szL_mem z.2
          rw [z.1]
          omega
end
end Nm
namespace Nm
open PySem PySem.Spec PyProof.Rows L2
/-! ### the law's own values: numbers, and pairs of a maker and a list -/
mutual
def Tr.dep : Tr → Nat
  | .num _ => 1
  | .mk _ ps => 1 + Tr.depL ps
def Tr.depL : List Tr → Nat
  | [] => 0
  | t :: r => max t.dep (Tr.depL r)
end
theorem depL_mem : ∀ {ts : List Tr} {c : Tr}, c ∈ ts → c.dep ≤ Tr.depL ts
  | t :: r, c, h => by
    rcases List.mem_cons.mp h with rfl | h
    · exact Nat.le_max_left _ _
    · exact Nat.le_trans (depL_mem h) (Nat.le_max_right _ _)
theorem Tr.dep_pos (t : Tr) : 0 < t.dep := by
  cases t with
  | num i => simp [Tr.dep]
  | mk m ps => simp [Tr.dep]; omega
mutual
inductive OAt (H : Hp) : V → Tr → Prop
  | num (i : Int) : OAt H (.int i) (.num i)
  | mk {T l : Addr} {m : Str} {xs : List V} {ts : List Tr} (eT : H T = some (.tup [.str m, .ref l])) (el : H l = some (.lst xs)) (h : OAts H xs ts) : OAt H (.ref T) (.mk m ts)
inductive OAts (H : Hp) : List V → List Tr → Prop
  | nil : OAts H [] []
  | cons {x : V} {t : Tr} {xs : List V} {ts : List Tr} (h : OAt H x t) (r : OAts H xs ts) : OAts H (x :: xs) (t :: ts)
end
mutual
theorem OAt.mono {H H' : Hp} (k1 : ∀ a xs, H a = some (.lst xs) → H' a = some (.lst xs)) (k2 : ∀ a xs, H a = some (.tup xs) → H' a = some (.tup xs)) : ∀ {t : Tr} {v : V}, OAt H v t → OAt H' v t
  | .num _, _, .num i => .num i
  | .mk _ _, _, .mk ea ep h => .mk (k2 _ _ ea) (k1 _ _ ep) (OAts.mono k1 k2 h)
theorem OAts.mono {H H' : Hp} (k1 : ∀ a xs, H a = some (.lst xs) → H' a = some (.lst xs)) (k2 : ∀ a xs, H a = some (.tup xs) → H' a = some (.tup xs)) : ∀ {ts : List Tr} {xs : List V}, OAts H xs ts → OAts H' xs ts
  | [], _, .nil => .nil
  | _ :: _, _, .cons h r => .cons (OAt.mono k1 k2 h) (OAts.mono k1 k2 r)
end
theorem OAt.same {H H' : Hp} {v : V} {t : Tr} (h : OAt H v t) (s : Same H H') : OAt H' v t := h.mono (fun a xs e => s _ _ e) fun a xs e => s _ _ e
theorem OAts.same {H H' : Hp} {xs : List V} {ts : List Tr} (h : OAts H xs ts) (s : Same H H') : OAts H' xs ts := h.mono (fun a xs e => s _ _ e) fun a xs e => s _ _ e
theorem OAts.len {H : Hp} : ∀ {xs : List V} {ts : List Tr}, OAts H xs ts → xs.length = ts.length
  | _, _, .nil => rfl
  | _, _, .cons _ r => by simp [OAts.len r]
theorem OAts.at {H : Hp} : ∀ {xs : List V} {ts : List Tr} {i : Nat} {x : V}, OAts H xs ts → xs[i]? = some x → ∃ t, ts[i]? = some t ∧ OAt H x t
  | _, _, _, _, .nil, e => by simp at e
  | _, _, 0, _, .cons h _, e => by
    simp at e
    subst e
    exact ⟨_, rfl, h⟩
  | _, _, i + 1, x, .cons _ r, e => by
    obtain ⟨t, h1, h2⟩ := OAts.at (i := i) (x := x) r (by simpa using e)
    exact ⟨t, by simpa using h1, h2⟩
theorem OAts.app {H : Hp} : ∀ {xs : List V} {ts : List Tr} {ys : List V} {us : List Tr}, OAts H xs ts → OAts H ys us → OAts H (xs ++ ys) (ts ++ us)
  | _, _, _, _, .nil, k => k
  | _, _, _, _, .cons h r, k => .cons h (OAts.app r k)
/-- G: what is new in H', seen from H -/
structure New (H G H' : Hp) : Prop where
  in_ : Same G H'
  ap : ∀ a, H a ≠ none → G a = none
theorem new_none {H H' : Hp} : New H (fun _ => Option.none) H' := ⟨(fun _ _ e => by cases e), fun _ _ => rfl⟩
def joinH (G G2 : Hp) : Hp := fun b => match G b with
  | some o => some o
  | none => G2 b
theorem join_l {G G2 : Hp} : Same G (joinH G G2) := fun b o e => by
  unfold joinH
  rw [e]
theorem join_none {G G2 : Hp} {b : Addr} (e : G b = none) : joinH G G2 b = G2 b := by
  unfold joinH
  rw [e]
theorem New.join_r {H G H1 G2 H2 : Hp} (n : New H G H1) (m : New H1 G2 H2) : Same G2 (joinH G G2) := fun b o e => by
  cases g : G b with
  | none => rw [join_none g]; exact e
  | some u =>
    have z := m.ap b (by rw [n.in_ _ _ g]; exact fun z => nomatch z)
    rw [z] at e
    cases e
theorem New.join {H G H1 G2 H2 : Hp} (n : New H G H1) (s : Same H H1) (m : New H1 G2 H2) (s2 : Same H1 H2) : New H (joinH G G2) H2 := by
  refine ⟨fun b o e => ?_, fun a ha => ?_⟩
  · cases g : G b with
    | none => rw [join_none g] at e; exact m.in_ _ _ e
    | some u =>
      rw [join_l _ _ g] at e
      rw [← Option.some.inj e]
      exact s2 _ _ (n.in_ _ _ g)
  · rw [join_none (n.ap a ha)]
    cases e : H a with
    | none => exact absurd e ha
    | some o => exact m.ap a (by rw [s _ _ e]; exact fun z => nomatch z)
/-- a list that is written, and not in it -/
theorem New.put {H G H1 : Hp} {D : Addr} {o : HO} (n : New H G H1) (d : G D = none) : New H G (upd H1 D o) := ⟨fun b u e => by rw [upd_ne (ne_of_none e d)]; exact n.in_ _ _ e, n.ap⟩
theorem New.same {H G H1 H2 : Hp} (n : New H G H1) (s : Same H1 H2) : New H G H2 := ⟨fun b u e => s _ _ (n.in_ _ _ e), n.ap⟩
/-- one more object -/
theorem New.add {H G H1 : Hp} {D : Addr} {o : HO} (n : New H G H1) (d : H D = none) (e : H1 D = some o) : New H (upd G D o) H1 := by
  refine ⟨fun b u q => ?_, fun a ha => ?_⟩
  · by_cases h : b = D
    · subst h
      rw [upd_same] at q
      rw [e, Option.some.inj q]
    · rw [upd_ne h] at q
      exact n.in_ _ _ q
  · rw [upd_ne (fun (z : a = D) => ha (z ▸ d))]
    exact n.ap a ha
def spOwn (C : Addr) (d : Nat) : Sp := fun vs H Q _ => ∃ (v : V) (t : Tr), vs = [v] ∧ VAt C H v t ∧ t.dep ≤ d ∧ t.sz ≤ 1000000 ∧ ∀ (y : V) (H' G : Hp), Same H H' → New H G H' → OAt G y t → Q y H'
def spMade (C : Addr) (d : Nat) : Sp := fun vs H Q _ => ∃ (v : V) (t : Tr), vs = [v] ∧ OAt H v t ∧ t.dep ≤ d ∧ t.sz ≤ 1000000 ∧ ∀ (y : V) (H' : Hp), Same H H' → VAt C H' y t → Q y H'
section
variable {P : Program} {w : World} {K : PySem.W.Frag} {mg : Str → Option Value} {base : Heap} {C fE : Addr}

abbrev sLown : Stmt := top 16
abbrev NLown : List Str := ["_law_value", "_law_part"]
abbrev PLown : List Str := ["_law_value"]
theorem scLown : FnScope NLown PLown (defScope sLown) := ⟨rfl, rfl, rfl, by decide +kernel, rfl, by decide +kernel, by decide +kernel⟩

theorem ok_own {f : Addr} {fd : FuncData} (F_law_own : Fun K "_law_own" "_law_own" sLown f fd) (T : VTxt mg) (MT : MadeTxt K mg C fE) (b_law_own : Binds K fd ["_law_value"] []) (g_law_own : mg "_law_own" = some (.ref f)) : ∀ d : Nat, FnOk P w K mg base CX0 (d + 1) f fd PLown (spOwn C d)
  | 0 => by
    refine F_law_own.ok scLown (fun vs H Q E h => ?_) (fun cdv A outer s H vs Q E hr h => ?_)
    · obtain ⟨v, t, rfl, _⟩ := h
      rfl
    · obtain ⟨v, t, rfl, _, hd, _⟩ := h
      exact absurd t.dep_pos (by omega)
  | d + 1 => by
    have G_law_own := ok_own F_law_own T MT b_law_own g_law_own d
    refine F_law_own.ok scLown (fun vs H Q E h => ?_) (fun cdv A outer s H vs Q E hr h => ?_)
    · obtain ⟨v, t, rfl, _⟩ := h
      rfl
    · obtain ⟨v, t, rfl, hv, hd, hz, k⟩ := h
      have hr1 := hr
      refine ⟨_, (pss_cons (ps_if (pt_val (pe_callB call_isi (by rfl) T.isinstance (by decide +kernel) (pa_cons (pv 0) (pa_cons (pe_bltn (v := .ty "int") (by rfl) T.int (by decide +kernel) rfl) pa_nil))))
      (pss_one (ps_ret (pv 0)))
      pss_nil)
      (pss_one (ps_ret (pe_tup (pa_cons (pe_fld (pv 0) rfl) (pa_cons (pe_lc (own := [("_law_part", 1)]) (g := (gName 1)) rfl scLown.nd (pi_tup (pe_fld (pv 0) rfl)) (blkOk_by (own := [("_law_part", 1)]) (N := NLown) (sc := defScope sLown) (by decide +kernel)) (fun _ _ _ _ _ => (pg_name (i := 1) scLown.nd rfl (Or.inl rfl))) (fun _ _ _ _ _ => pts_nil) (fun _ _ _ _ _ => (pe_call G_law_own hr1 rfl g_law_own F_law_own.kp b_law_own .nil pass0 (pa_cons (pv 1) pa_nil)))) pa_nil)))))), ?_⟩
      cases hv with
      | num i =>
        refine ⟨.int i, (by kernel_rfl), _, _, _, _, true, rfl, .ty "int", .base (.int i), kit_ty (by decide +kernel), _, rfl, ?_⟩
        refine ite_yes rfl ?_
        exact ⟨.int i, (by kernel_rfl), k _ H (fun _ => none) (fun _ _ e => e) new_none (.num i)⟩
      | @mk a dx p m xs ts ea ep hx =>
        refine ⟨.ref a, (by kernel_rfl), _, _, _, _, false, rfl, .ty "int", MT.ins ea, MT.kitN, _, rfl, ?_⟩
        refine ite_no rfl ?_
        refine ⟨.ref a, (by kernel_rfl), a, C, dx, _, _, rfl, ea, MT.cl, MT.nM, mkF_maker m p, ?_⟩
        refine ⟨.ref a, (by kernel_rfl), a, C, dx, _, _, rfl, ea, MT.cl, MT.nP, mkF_parts m p, p, rfl, ⟨_, SqT.of ep⟩, ?_⟩
        intro D nD
        have lx := hx.len
        have szt : (Tr.mk m ts).sz = 1 + Tr.szL ts := by simp [Tr.sz]
        have dpt : (Tr.mk m ts).dep = 1 + Tr.depL ts := by simp [Tr.dep]
        have lts := szL_len ts
        refine lc_tup (K := K) (a := p) (xs := xs) (fun i H' => ∃ (ys : List V) (G : Hp), H' D = some (.lst ys) ∧ OAts G ys (ts.take i) ∧ ys.length = i ∧ Same H H' ∧ New H G H' ∧ G D = none)
          ⟨[], fun _ => none, upd_same, .nil, rfl, same_new nD, new_none, rfl⟩ (fun i H' _ ⟨_, _, _, _, _, S, _, _⟩ => SqT.of (S _ _ ep)) ?_ ?_
        · rintro i x H1 hi ⟨ys, G, hD, hy, ly, S, N, gD⟩
          obtain ⟨u, hu, hxu⟩ := (hx.same S).at hi
          have mu : u ∈ ts := List.mem_of_getElem? hu
          have li := (List.getElem?_eq_some_iff.mp hi).1
          refine ⟨rfl, ?_⟩
          have d1 := depL_mem mu
          have z1 := szL_mem mu
          refine ⟨x, (by kernel_rfl), x, u, rfl, hxu, (by omega), (by omega), fun y H2 G2 S2 N2 hyu => ?_⟩
          have hD2 := S2 _ _ hD
          refine ⟨ys, hD2, Nat.lt_of_le_of_lt (show ys.length ≤ 1000000 by omega) (by decide), ?_⟩
          have g2D : G2 D = none := N2.ap D (by rw [hD]; exact fun z => nomatch z)
          refine ⟨ys ++ [y], joinH G G2, upd_same, ?_, by simp [ly], same_put (S.trans S2) nD, (N.join S N2 S2).put (by rw [join_none gD]; exact g2D), by rw [join_none gD]; exact g2D⟩
          have e1 : ts.take (i + 1) = ts.take i ++ [u] := by rw [List.take_add_one, hu]; rfl
          rw [e1]
          exact (hy.same join_l).app (.cons (hyu.same (N.join_r N2)) .nil)
        · rintro H1 ⟨ys, G, hD, hy, ly, S, N, gD⟩
          rw [lx, List.take_length] at hy
          refine ⟨by show 2 ≤ sizeLine; decide, fun T1 nT1 => ?_⟩
          have nT0 : H T1 = none := by
            cases e : H T1 with
            | none => rfl
            | some o => rw [S _ _ e] at nT1; cases nT1
          have s1 := same_new (o := .tup [.str m, .ref D]) nT1
          have DT : D ≠ T1 := fun z => by rw [z, nT1] at hD; cases hD
          have N1 := ((N.same s1).add nD (s1 _ _ hD)).add nT0 (upd_same (H := H1) (a := T1) (o := .tup [.str m, .ref D]))
          have gT : (upd G D (.lst ys)) T1 = none := by
            rw [upd_ne (Ne.symm DT)]
            cases e : G T1 with
            | none => rfl
            | some o => rw [N.in_ _ _ e] at nT1; cases nT1
          refine k _ _ _ (S.trans s1) N1 (.mk upd_same ?_ (hy.same fun b o e => ?_))
          · rw [upd_ne DT, upd_same]
          · rw [upd_ne (ne_of_none e (by rw [upd_ne (Ne.symm DT)] at gT; exact gT)), upd_ne (ne_of_none e gD)]
            exact e

abbrev sLmade : Stmt := top 17
abbrev NLmade : List Str := ["_law_value", "_law_part"]
abbrev PLmade : List Str := ["_law_value"]
theorem scLmade : FnScope NLmade PLmade (defScope sLmade) := ⟨rfl, rfl, rfl, by decide +kernel, rfl, by decide +kernel, by decide +kernel⟩

theorem ok_made {f f0 : Addr} {fd fd0 : FuncData} (F_law_made : Fun K "_law_made" "_law_made" sLmade f fd) (T : VTxt mg) (MT : MadeTxt K mg C fE) (Mk : Mk K C f0) (F_init : Fun K "__init__" "Made.__init__" sMadeinit f0 fd0) (B_init : Binds K fd0 ["self", "maker", "parts"] [])
    (b_law_made : Binds K fd ["_law_value"] []) (g_law_made : mg "_law_made" = some (.ref f)) : ∀ d : Nat, FnOk P w K mg base CX0 (d + 3) f fd PLmade (spMade C d)
  | 0 => by
    refine F_law_made.ok scLmade (fun vs H Q E h => ?_) (fun cdv A outer s H vs Q E hr h => ?_)
    · obtain ⟨v, t, rfl, _⟩ := h
      rfl
    · obtain ⟨v, t, rfl, _, hd, _⟩ := h
      exact absurd t.dep_pos (by omega)
  | d + 1 => by
    have G_law_made := ok_made F_law_made T MT Mk F_init B_init b_law_made g_law_made d
    have G_init : FnOk P w K mg base CX0 (d + 2) f0 fd0 PMadeinit (spInit C) := (ok_init F_init T MT).mono (by omega)
    refine F_law_made.ok scLmade (fun vs H Q E h => ?_) (fun cdv A outer s H vs Q E hr h => ?_)
    · obtain ⟨v, t, rfl, _⟩ := h
      rfl
    · obtain ⟨v, t, rfl, hv, hd, hz, k⟩ := h
      have hr1 := hr
      refine ⟨_, (pss_one (ps_ret (pe_ifExp (pt_val (pe_callB call_isi (by rfl) T.isinstance (by decide +kernel) (pa_cons (pv 0) (pa_cons (pe_bltn (v := .ty "int") (by rfl) T.int (by decide +kernel) rfl) pa_nil)))) (pv 0) (pe_make Mk G_init hr1 rfl MT.gM B_init .nil pass0 (pa_cons (pe_ix ix_tup (pv 0) pe_int (fun _ _ => rfl)) (pa_cons (pe_callTy call_tuple_of (by rfl) T.tuple (by decide +kernel) (pa_cons (pe_lc (own := [("_law_part", 1)]) (g := (gName 1)) rfl scLmade.nd (pi_list (pe_ix ix_tup (pv 0) pe_int (fun _ _ => rfl))) (blkOk_by (own := [("_law_part", 1)]) (N := NLmade) (sc := defScope sLmade) (by decide +kernel)) (fun _ _ _ _ _ => (pg_name (i := 1) scLmade.nd rfl (Or.inl rfl))) (fun _ _ _ _ _ => pts_nil) (fun _ _ _ _ _ => (pe_call G_law_made hr1 rfl g_law_made F_law_made.kp b_law_made .nil pass0 (pa_cons (pv 1) pa_nil)))) pa_nil)) pa_nil)))))), ?_⟩
      cases hv with
      | num i =>
        refine ⟨.int i, (by kernel_rfl), _, _, _, _, true, rfl, .ty "int", .base (.int i), kit_ty (by decide +kernel), _, rfl, ?_⟩
        refine ite_yes rfl ?_
        exact ⟨.int i, (by kernel_rfl), k _ H (fun _ _ e => e) (.num i)⟩
      | @mk T1 l m xs ts eT el hx =>
        refine ⟨.ref T1, (by kernel_rfl), _, _, _, _, false, rfl, .ty "int", .base (.tup eT), kit_ty (by decide +kernel), _, rfl, ?_⟩
        refine ite_no rfl ?_
        refine ⟨.ref T1, (by kernel_rfl), T1, _, 0, .str m, rfl, rfl, SqT.of eT, rfl, ?_⟩
        refine ⟨.ref T1, (by kernel_rfl), T1, _, 1, .ref l, rfl, rfl, SqT.of eT, rfl, l, rfl, ⟨_, SqL.of el⟩, ?_⟩
        intro D nD
        have lx := hx.len
        have szt : (Tr.mk m ts).sz = 1 + Tr.szL ts := by simp [Tr.sz]
        have dpt : (Tr.mk m ts).dep = 1 + Tr.depL ts := by simp [Tr.dep]
        have lts := szL_len ts
        refine lc_list (K := K) (a := l) (xs := xs) (fun i H' => ∃ ys : List V, H' D = some (.lst ys) ∧ VAts C H' ys (ts.take i) ∧ ys.length = i ∧ Same H H') ⟨[], upd_same, .nil, rfl, same_new nD⟩ (fun i H' _ ⟨_, _, _, _, S⟩ => SqL.of (S _ _ el)) ?_ ?_
        · rintro i x H1 hi ⟨ys, hD, hy, ly, S⟩
          obtain ⟨u, hu, hxu⟩ := (hx.same S).at hi
          have mu : u ∈ ts := List.mem_of_getElem? hu
          have li := (List.getElem?_eq_some_iff.mp hi).1
          refine ⟨rfl, ?_⟩
          have d1 := depL_mem mu
          have z1 := szL_mem mu
          refine ⟨x, (by kernel_rfl), x, u, rfl, hxu, (by omega), (by omega), fun y H2 S2 hyu => ?_⟩
          have hD2 := S2 _ _ hD
          refine ⟨ys, hD2, Nat.lt_of_le_of_lt (show ys.length ≤ 1000000 by omega) (by decide), ?_⟩
          have e1 : ts.take (i + 1) = ts.take i ++ [u] := by rw [List.take_add_one, hu]; rfl
          refine ⟨ys ++ [y], upd_same, ?_, by simp [ly], same_put (S.trans S2) nD⟩
          rw [e1]
          exact ((hy.same S2).app (.cons hyu .nil)).put hD2 (by intro _ _ z; cases z) (by intro _ z; cases z)
        · rintro H1 ⟨ys, hD, hy, ly, S⟩
          rw [lx, List.take_length] at hy
          refine ⟨D, ys, rfl, .inl ⟨SqL.of hD, fun p np => ?_⟩⟩
          have s1 := same_new (o := .tup ys) np
          have hp := upd_same (H := H1) (a := p) (o := .tup ys)
          have hy1 := hy.same s1
          have S1 := S.trans s1
          generalize upd H1 p (.tup ys) = H2 at s1 hp hy1 S1 ⊢
          intro nx dn n1 n2 n3
          have m1 : Same H2 (upd H2 dn (.own nx)) := same_new n2
          have m2 : ∀ o, Same H2 (upd (upd H2 dn (.own nx)) nx o) := fun o => same_put m1 n1
          refine ⟨nx, dn, p, m, ys, rfl, upd_same, m2 _ _ _ hp, rfl, ?_⟩
          rw [upd_upd]
          exact k _ _ (S1.trans (m2 _)) (.mk upd_same (m2 _ _ _ hp) (hy1.same (m2 _)))
end
end Nm
namespace Nm
open PySem PySem.Spec PyProof.Rows L2
abbrev sPen : Stmt := top 13
abbrev sDraw : Stmt := top 14
abbrev sPick : Stmt := top 15
/-! ### the pen: the script's ints, the place, the digits left, the count, the fold -/
structure Pen where
  l : Addr
  ns : List Int
  i : Int
  d : Int
  c : Int
  f : Int
def kCe : Key := .inr "cells"
def kAt : Key := .inr "at"
def kDi : Key := .inr "digits"
def kCo : Key := .inr "count"
def kFo : Key := .inr "fold"
theorem ce_at : ¬ kCe = kAt := by decide +kernel
theorem ce_di : ¬ kCe = kDi := by decide +kernel
theorem ce_co : ¬ kCe = kCo := by decide +kernel
theorem ce_fo : ¬ kCe = kFo := by decide +kernel
theorem at_di : ¬ kAt = kDi := by decide +kernel
theorem at_co : ¬ kAt = kCo := by decide +kernel
theorem at_fo : ¬ kAt = kFo := by decide +kernel
theorem di_co : ¬ kDi = kCo := by decide +kernel
theorem di_fo : ¬ kDi = kFo := by decide +kernel
theorem co_fo : ¬ kCo = kFo := by decide +kernel
def Pen.kvs (z : Pen) : List (Key × V) := [(kCe, .ref z.l), (kAt, .int z.i), (kDi, .int z.d), (kCo, .int z.c), (kFo, .int z.f)]
structure Pen.Ok (z : Pen) : Prop where
  i0 : 0 ≤ z.i
  i1 : z.i ≤ (z.ns.length : Int)
  d0 : 0 ≤ z.d
  c0 : 0 ≤ z.c
  f0 : 0 ≤ z.f
  f1 : z.f < 2147483587
theorem pen_ce (z : Pen) : valV z.kvs kCe = some (.ref z.l) := by unfold Pen.kvs; rw [valV_pos rfl]
theorem pen_at (z : Pen) : valV z.kvs kAt = some (.int z.i) := by unfold Pen.kvs; rw [valV_neg ce_at, valV_pos rfl]
theorem pen_di (z : Pen) : valV z.kvs kDi = some (.int z.d) := by unfold Pen.kvs; rw [valV_neg ce_di, valV_neg at_di, valV_pos rfl]
theorem pen_co (z : Pen) : valV z.kvs kCo = some (.int z.c) := by unfold Pen.kvs; rw [valV_neg ce_co, valV_neg at_co, valV_neg di_co, valV_pos rfl]
theorem pen_fo (z : Pen) : valV z.kvs kFo = some (.int z.f) := by unfold Pen.kvs; rw [valV_neg ce_fo, valV_neg at_fo, valV_neg di_fo, valV_neg co_fo, valV_pos rfl]
section
variable {κ : Type} [DecidableEq κ]
theorem putK_old {kvs : List (κ × V)} {k : κ} {u : V} (v : V) (h : valV kvs k = some u) : putK kvs k v = kvs.map fun kv => if kv.1 = k then (kv.1, v) else kv := by
  unfold putK
  rw [valV_any, h]
  rfl
end
theorem put_at (z : Pen) (v : Int) : putK z.kvs kAt (.int v) = ({ z with i := v } : Pen).kvs := by
  rw [putK_old _ (pen_at z)]
  unfold Pen.kvs
  simp only [List.map_cons, List.map_nil, if_neg ce_at, if_neg (Ne.symm at_di), if_neg (Ne.symm at_co), if_neg (Ne.symm at_fo), if_true]
theorem put_di (z : Pen) (v : Int) : putK z.kvs kDi (.int v) = ({ z with d := v } : Pen).kvs := by
  rw [putK_old _ (pen_di z)]
  unfold Pen.kvs
  simp only [List.map_cons, List.map_nil, if_neg ce_di, if_neg at_di, if_neg (Ne.symm di_co), if_neg (Ne.symm di_fo), if_true]
theorem put_co (z : Pen) (v : Int) : putK z.kvs kCo (.int v) = ({ z with c := v } : Pen).kvs := by
  rw [putK_old _ (pen_co z)]
  unfold Pen.kvs
  simp only [List.map_cons, List.map_nil, if_neg ce_co, if_neg at_co, if_neg di_co, if_neg (Ne.symm co_fo), if_true]
theorem put_fo (z : Pen) (v : Int) : putK z.kvs kFo (.int v) = ({ z with f := v } : Pen).kvs := by
  rw [putK_old _ (pen_fo z)]
  unfold Pen.kvs
  simp only [List.map_cons, List.map_nil, if_neg ce_fo, if_neg at_fo, if_neg di_fo, if_neg co_fo, if_true]
theorem dget {H : Hp} {a : Addr} {kvs : List (Key × V)} {k : Key} {v : V} (e : H a = some (.dK kvs)) (h : valV kvs k = some v) : DGet H a (kV k) (some v) := by
  rw [← h]
  exact DGet.k e
theorem dput {H : Hp} {a : Addr} {kvs kvs' : List (Key × V)} {k : Key} {v : V} (e : H a = some (.dK kvs)) (hl : kvs.length < sizeLine) (h : putK kvs k v = kvs') : DPut H a (kV k) v (upd H a (.dK kvs')) := by
  rw [← h]
  exact DPut.k e hl
theorem pen_len (z : Pen) : z.kvs.length < sizeLine := by
  show 5 < sizeLine
  decide
/-- a pen stands at p -/
structure PenAt (H : Hp) (p : Addr) (z : Pen) : Prop where
  at_ : H p = some (.dK z.kvs)
  cells : H z.l = some (.lst (z.ns.map V.int))
  ok : z.Ok
theorem PenAt.ne {H : Hp} {p : Addr} {z : Pen} (h : PenAt H p z) : z.l ≠ p := ne_of h.cells h.at_ (by intro q; cases q)
theorem PenAt.put {H : Hp} {p : Addr} {z z' : Pen} (h : PenAt H p z) (el : z'.l = z.l) (en : z'.ns = z.ns) (ok : z'.Ok) : PenAt (upd H p (.dK z'.kvs)) p z' :=
  ⟨upd_same, by rw [el, en, upd_ne h.ne]; exact h.cells, ok⟩
/-- a pen through a heap that keeps what was tracked -/
theorem PenAt.same {H H' : Hp} {p : Addr} {z : Pen} (h : PenAt H p z) (s : Same H H') : PenAt H' p z := ⟨s _ _ h.at_, s _ _ h.cells, h.ok⟩
/-- z' is z behind n draws -/
structure Pen.Go (n : Int) (z z' : Pen) : Prop where
  l : z'.l = z.l
  ns : z'.ns = z.ns
  c : z'.c = z.c + n
  ok : z'.Ok
theorem q_back {Q : V → Hp → Prop} {v : V} {H : Hp} {p : Addr} {zz : Pen} (e : H p = some (.dK zz.kvs)) (q : Q v (upd H p (.dK zz.kvs))) : Q v H := by
  have x : upd H p (.dK zz.kvs) = H := by
    funext b
    by_cases h : b = p
    · rw [h, upd_same, e]
    · rw [upd_ne h]
  rw [x] at q
  exact q
theorem atI_nat' {xs : List V} {i : Int} {v : V} (h0 : 0 ≤ i) (h : xs[i.toNat]? = some v) : atI xs i = some v := by
  obtain ⟨n, rfl⟩ := Int.eq_ofNat_of_zero_le h0
  exact atI_nat h

/-! ### the promises -/
def spPen (K : PySem.W.Frag) : Sp := fun vs H Q _ => ∃ (a : Addr) (ns : List Int), vs = [.ref a] ∧ SqL K H a (ns.map V.int) ∧ ns.length ≤ 63 ∧
  ∀ (p : Addr) (z : Pen) (H' : Hp), Same H H' → H p = none → z.c = 0 → PenAt H' p z → Q (.ref p) H'
def spDraw : Sp := fun vs H Q _ => ∃ (p : Addr) (z : Pen) (m : Int), vs = [.ref p, .int m] ∧ PenAt H p z ∧ 0 < m ∧ m < 1073741824 ∧ z.c < 1000000000000 ∧
  ∀ (r : Int) (z' : Pen), 0 ≤ r → r < m → Pen.Go 1 z z' → Q (.int r) (upd H p (.dK z'.kvs))
def spPick (K : PySem.W.Frag) : Sp := fun vs H Q _ => ∃ (p q : Addr) (z : Pen) (xs : List V), vs = [.ref p, .ref q] ∧ PenAt H p z ∧ H q = some (.lst xs) ∧ 0 < xs.length ∧ xs.length < 1073741824 ∧ z.c < 1000000000000 ∧
  ∀ (v : V) (z' : Pen), v ∈ xs → Pen.Go 1 z z' → Q v (upd H p (.dK z'.kvs))
structure PenTxt (mg : Str → Option Value) : Prop where
  int : mg "int" = none
  list : mg "list" = none
  len : mg "len" = none

section
variable {P : Program} {w : World} {K : PySem.W.Frag} {mg : Str → Option Value} {base : Heap}
theorem scPen : FnScope ["_law_script", "_law_fold", "_law_cell"] ["_law_script"] (defScope sPen) := ⟨rfl, rfl, rfl, by decide +kernel, rfl, by decide +kernel, by decide +kernel⟩
theorem int_of {ns : List Int} {i : Nat} {y : V} (hi : (ns.map V.int)[i]? = some y) : ∃ u, ns[i]? = some u ∧ y = V.int u := by
  rw [List.getElem?_map] at hi
  cases e : ns[i]? with
  | none =>
    rw [e] at hi
    cases hi
  | some u =>
    rw [e] at hi
    exact ⟨u, rfl, (Option.some.inj hi).symm⟩
theorem kV_ce : kV kCe = V.str "cells" := rfl
theorem ok_pen {f : Addr} {fd : FuncData} (F : Fun K "_law_pen" "_law_pen" sPen f fd) (T : PenTxt mg) : FnOk P w K mg base CX0 1 f fd ["_law_script"] (spPen K) := by
  refine F.ok scPen (fun vs H Q E h => ?_) (fun cdv A outer s H vs Q E hr h => ?_)
  · obtain ⟨a, ns, rfl, _⟩ := h
    rfl
  · obtain ⟨a, ns, rfl, hS, hlen, k⟩ := h
    have hu := hu_of hr
    refine ⟨_, pss_cons (ps_set (i := 1) scPen.nd rfl (Or.inl rfl) pe_int)
      (pss_cons (ps_for PassesOwn.never rfl (pi_list (pv 0)) (pg_name (i := 2) scPen.nd rfl (Or.inl rfl))
        (pss_one (ps_set (i := 1) scPen.nd rfl (Or.inl rfl) (pe_op op_mod (pe_callTy call_int1 (by rfl) T.int (by decide +kernel) (pa_cons (pe_op op_add (pe_op op_mul (pv 1) pe_int) (pv 2)) pa_nil)) pe_int))))
      (pss_one (ps_ret (pe_disp (pps_cons pe_str (pe_callTy call_list_of (by rfl) T.list (by decide +kernel) (pa_cons (pv 0) pa_nil)) (pps_cons pe_str pe_int (pps_cons pe_str pe_int (pps_cons pe_str pe_int (pps_cons pe_str (pv 1) pps_nil))))) (by rfl) (by rfl) (fun z => by cases z) (by decide))))), ?_⟩
    refine ⟨_, rfl, a, rfl, ⟨_, hS⟩, for_list (K := K) (a := a) (xs := ns.map V.int) (fun i σ H' => ∃ (g : Int) (v : Option V), σ = [some (.ref a), some (.int g), v] ∧ H' = H ∧ 0 ≤ g ∧ g < 1000000007)
      ⟨0, none, rfl, rfl, by decide, by decide⟩ (fun i σ H' _ ⟨_, _, _, e, _⟩ => by rw [e]; exact hS) ?_ ?_⟩
    · rintro i y σ H' hi ⟨g, v, rfl, rfl, g0, g1⟩
      obtain ⟨u, _, rfl⟩ := int_of hi
      refine ⟨_, rfl, _, _, rfl, rfl, .inl ⟨by omega, by omega⟩, _, rfl, _, _, rfl, rfl, .inl ⟨_, rfl, _, _, rfl, rfl, (by show (0 : Int) < 1000000007; decide), ?_⟩⟩
      exact ⟨_, _, rfl, rfl, Int.emod_nonneg _ (by decide), Int.emod_lt_of_pos _ (by decide)⟩
    · rintro σ H' ⟨g, v, rfl, rfl, g0, g1⟩
      intro p hp
      refine ⟨_, rfl, a, _, rfl, .inl ((Same.seq (H := H') (H' := upd H' p (.dK [])) (fun b o e => by rw [upd_ne (ne_of_none e hp)]; exact e)) hS), fun l hl => ?_⟩
      have lp : l ≠ p := fun q => by
        rw [q, upd_same] at hl
        cases hl
      have hl0 : H' l = none := by
        rw [upd_ne lp] at hl
        exact hl
      refine ⟨_, rfl, by rw [upd_ne lp.symm, upd_same], [(kCe, .ref l), (kAt, .int 0), (kDi, .int 0), (kCo, .int 0), (kFo, .int g)], rfl, (by show 5 ≤ 15; decide), ?_⟩
      let z : Pen := ⟨l, ns, 0, 0, 0, g⟩
      have em : mergeK [] [(kCe, V.ref l), (kAt, .int 0), (kDi, .int 0), (kCo, .int 0), (kFo, .int g)] = z.kvs := by
        simp [mergeK, putK, z, Pen.kvs, ce_at, ce_di, ce_co, ce_fo, at_di, at_co, at_fo, di_co, di_fo, co_fo]
      rw [em]
      refine k p z _ (fun b o e => ?_) hp rfl ⟨upd_same, ?_, ⟨Int.le_refl 0, by show (0 : Int) ≤ (ns.length : Int); omega, Int.le_refl 0, Int.le_refl 0, g0, by show g < 2147483587; omega⟩⟩
      · rw [upd_ne (ne_of_none e hp), upd_ne (ne_of_none e hl0), upd_ne (ne_of_none e hp)]
        exact e
      · show upd _ p _ l = _
        rw [upd_ne lp, upd_same]

theorem scDraw : FnScope ["_law_pen_here", "_law_many", "_law_cell", "_law_digit", "_law_mixed"] ["_law_pen_here", "_law_many"] (defScope sDraw) := ⟨rfl, rfl, rfl, by decide +kernel, rfl, by decide +kernel, by decide +kernel⟩
theorem fmod_in {x m : Int} (h : 0 < m) : 0 ≤ x.fmod m ∧ x.fmod m < m := ⟨by rw [Int.fmod_eq_emod_of_nonneg _ (Int.le_of_lt h)]; exact Int.emod_nonneg _ (Int.ne_of_gt h), Int.fmod_lt_of_pos x h⟩
theorem fdiv_nn {x m : Int} (h : 0 ≤ x) (hm : 0 < m) : 0 ≤ x.fdiv m := by
  rw [Int.fdiv_eq_ediv_of_nonneg _ (Int.le_of_lt hm)]
  exact Int.ediv_nonneg h (Int.le_of_lt hm)
theorem ok_draw {f : Addr} {fd : FuncData} (F : Fun K "_law_draw" "_law_draw" sDraw f fd) (T : PenTxt mg) : FnOk P w K mg base CX0 1 f fd ["_law_pen_here", "_law_many"] spDraw := by
  refine F.ok scDraw (fun vs H Q E h => ?_) (fun cdv A outer s H vs Q E hr h => ?_)
  · obtain ⟨p, z, m, rfl, _⟩ := h
    rfl
  · obtain ⟨p, z, m, rfl, Z, m0, m1, hc, k⟩ := h
    have hu := hu_of hr
    refine ⟨_, pss_cons (ps_dput hu (pv 0) pe_str (pe_op op_add (pe_dget hu (pv 0) pe_str (fun _ _ => rfl)) pe_int) rfl)
      (pss_cons (ps_if (PW.pt (pw_and (pt_cmpR op_eq (pe_dget hu (pv 0) pe_str (fun _ _ => rfl)) pe_int (nomark _)) (pw_and1 (pt_cmpR op_lt (pe_dget hu (pv 0) pe_str (fun _ _ => rfl)) (pe_callB call_len_seq (by rfl) T.len PySem.boot_len (pa_cons (pe_dget hu (pv 0) pe_str (fun _ _ => rfl)) pa_nil)) (nomark _)))))
        (pss_cons (ps_set (i := 2) scDraw.nd rfl (Or.inl rfl) (pe_ix ix_list (pe_dget hu (pv 0) pe_str (fun _ _ => rfl)) (pe_dget hu (pv 0) pe_str (fun _ _ => rfl)) (fun _ _ => rfl)))
        (pss_cons (ps_dput hu (pv 0) pe_str (pe_op op_add (pe_dget hu (pv 0) pe_str (fun _ _ => rfl)) pe_int) rfl)
        (pss_one (ps_if (pt_cmpR op_ge (pv 2) (pe_op op_pow pe_int pe_int) (nomark _))
          (pss_one (ps_dput hu (pv 0) pe_str (pe_op op_sub (pv 2) (pe_op op_pow pe_int pe_int)) rfl))
          (pss_one (ps_dput hu (pv 0) pe_str (pe_op op_mod (pe_callTy call_int1 (by rfl) T.int (by decide +kernel) (pa_cons (pe_op op_add (pe_op op_mul (pe_dget hu (pv 0) pe_str (fun _ _ => rfl)) pe_int) (pv 2)) pa_nil)) pe_int) rfl))))))
        pss_nil)
      (pss_cons (ps_if (pt_cmpR op_gt (pe_dget hu (pv 0) pe_str (fun _ _ => rfl)) pe_int (nomark _))
        (pss_cons (ps_set (i := 3) scDraw.nd rfl (Or.inl rfl) (pe_op op_modN (pe_callTy call_int1 (by rfl) T.int (by decide +kernel) (pa_cons (pe_dget hu (pv 0) pe_str (fun _ _ => rfl)) pa_nil)) (pv 1)))
        (pss_cons (ps_dput hu (pv 0) pe_str (pe_op op_fdivN (pe_dget hu (pv 0) pe_str (fun _ _ => rfl)) (pv 1)) rfl)
        (pss_one (ps_ret (pv 3)))))
        pss_nil)
      (pss_cons (ps_set (i := 4) scDraw.nd rfl (Or.inl rfl) (pe_op op_add (pe_op op_add (pe_dget hu (pv 0) pe_str (fun _ _ => rfl)) (pe_op op_mul (pe_dget hu (pv 0) pe_str (fun _ _ => rfl)) pe_int)) pe_int))
      (pss_one (ps_ret (pe_op op_modN (pe_op op_fdiv (pe_callTy call_int1 (by rfl) T.int (by decide +kernel) (pa_cons (pe_op op_mod (pe_op op_pow (pv 4) pe_int) pe_int) pa_nil)) pe_int) (pv 1))))))), ?_⟩
    -- count + 1
    refine ⟨_, rfl, p, _, rfl, dget Z.at_ (pen_co z), _, _, rfl, rfl, _, rfl, p, _, rfl, dput Z.at_ (pen_len z) (put_co z (z.c + 1)), ?_⟩
    have Z1 : PenAt (upd H p (.dK ({ z with c := z.c + 1 } : Pen).kvs)) p { z with c := z.c + 1 } := Z.put rfl rfl ⟨Z.ok.i0, Z.ok.i1, Z.ok.d0, by show (0 : Int) ≤ z.c + 1; have := Z.ok.c0; omega, Z.ok.f0, Z.ok.f1⟩
    have k1 : ∀ (r : Int) (z' : Pen), 0 ≤ r → r < m → Pen.Go 0 { z with c := z.c + 1 } z' → Q (.int r) (upd (upd H p (.dK ({ z with c := z.c + 1 } : Pen).kvs)) p (.dK z'.kvs)) := fun r z' r0 r1 g => by
      rw [upd_upd]
      exact k r z' r0 r1 ⟨g.l, g.ns, by have e : z'.c = (z.c + 1) + 0 := g.c; omega, g.ok⟩
    have hc1 : ({ z with c := z.c + 1 } : Pen).c ≤ 1000000000000 := by show z.c + 1 ≤ _; omega
    generalize ({ z with c := z.c + 1 } : Pen) = z1 at Z1 k1 hc1
    generalize upd H p (.dK z1.kvs) = H1 at Z1 k1
    have step : ∀ (Ha : Hp) (za zb : Pen), PenAt Ha p za → (∀ (r : Int) (z' : Pen), 0 ≤ r → r < m → Pen.Go 0 za z' → Q (.int r) (upd Ha p (.dK z'.kvs))) → za.c ≤ 1000000000000 →
        zb.l = za.l → zb.ns = za.ns → zb.c = za.c → zb.Ok →
        PenAt (upd Ha p (.dK zb.kvs)) p zb ∧ (∀ (r : Int) (z' : Pen), 0 ≤ r → r < m → Pen.Go 0 zb z' → Q (.int r) (upd (upd Ha p (.dK zb.kvs)) p (.dK z'.kvs))) ∧ zb.c ≤ 1000000000000 := fun Ha za zb Za ka ca el en ec ok =>
      ⟨Za.put el en ok, fun r z' r0 r1 g => by
        rw [upd_upd]
        exact ka r z' r0 r1 ⟨g.l.trans el, g.ns.trans en, by rw [g.c, ec], g.ok⟩, by rw [ec]; exact ca⟩
    -- if digits == 0 and at < len(cells)
    refine ⟨_, rfl, p, _, rfl, dget Z1.at_ (pen_di z1), rfl, _, rfl, ?_⟩
    refine ite2 (fun _ => ?_) (fun _ => ?_)
    · refine ⟨_, rfl, p, _, rfl, dget Z1.at_ (pen_at z1), _, rfl, p, _, rfl, dget Z1.at_ (pen_ce z1), z1.l, _, rfl, .inl (SqL.of Z1.cells), _, _, rfl, rfl, _, rfl, ?_⟩
      refine ite2 (fun lt => ?_) (fun _ => ?_)
      · have lt' : z1.i < (z1.ns.length : Int) := by
          have q := of_decide_eq_true lt
          rw [List.length_map] at q
          exact q
        have i0 := Z1.ok.i0
        have hn : z1.i.toNat < z1.ns.length := by omega
        refine ⟨_, rfl, p, _, rfl, dget Z1.at_ (pen_ce z1), _, rfl, p, _, rfl, dget Z1.at_ (pen_at z1), z1.l, _, _, V.int (z1.ns[z1.i.toNat]), rfl, rfl, SqL.of Z1.cells, atI_nat' i0 (by simp [hn]), ?_⟩
        generalize z1.ns[z1.i.toNat] = cell
        refine ⟨_, rfl, p, _, rfl, dget Z1.at_ (pen_at z1), _, _, rfl, rfl, _, rfl, p, _, rfl, dput Z1.at_ (pen_len z1) (put_at z1 (z1.i + 1)), ?_⟩
        obtain ⟨Z2, k2, hc2⟩ := step H1 z1 { z1 with i := z1.i + 1 } Z1 k1 hc1 rfl rfl rfl ⟨by show (0 : Int) ≤ z1.i + 1; omega, by show z1.i + 1 ≤ (z1.ns.length : Int); omega, Z1.ok.d0, Z1.ok.c0, Z1.ok.f0, Z1.ok.f1⟩
        generalize ({ z1 with i := z1.i + 1 } : Pen) = z2 at Z2 k2 hc2
        generalize upd H1 p (.dK z2.kvs) = H2 at Z2 k2
        refine ⟨_, rfl, _, _, rfl, rfl, ⟨by decide, by decide, by decide⟩, _, _, rfl, rfl, _, rfl, ?_⟩
        refine ite2 (fun ge => ?_) (fun _ => ?_)
        · have ge' := of_decide_eq_true ge
          refine ⟨_, rfl, _, _, rfl, rfl, ⟨by decide, by decide, by decide⟩, _, _, rfl, rfl, _, rfl, p, _, rfl, dput Z2.at_ (pen_len z2) (put_di z2 _), ?_⟩
          obtain ⟨Z3, k3, hc3⟩ := step H2 z2 { z2 with d := cell - 10 ^ (18 : Int).toNat } Z2 k2 hc2 rfl rfl rfl ⟨Z2.ok.i0, Z2.ok.i1, Int.sub_nonneg.mpr ge', Z2.ok.c0, Z2.ok.f0, Z2.ok.f1⟩
          generalize ({ z2 with d := cell - 10 ^ (18 : Int).toNat } : Pen) = z3 at Z3 k3 hc3
          generalize upd H2 p (.dK z3.kvs) = H3 at Z3 k3
          refine ⟨_, rfl, p, _, rfl, dget Z3.at_ (pen_di _), _, _, rfl, rfl, _, rfl, ?_⟩
          refine ite2 (fun dg => ?_) (fun _ => ?_)
          · have dg' := of_decide_eq_true dg
            refine ⟨_, rfl, p, _, rfl, dget Z3.at_ (pen_di _), .inl ⟨_, rfl, _, rfl, _, _, rfl, rfl, (by omega), ?_⟩⟩
            refine ⟨_, rfl, p, _, rfl, dget Z3.at_ (pen_di _), _, rfl, _, _, rfl, rfl, ⟨by omega, by omega⟩, _, rfl, p, _, rfl, dput Z3.at_ (pen_len _) (put_di _ _), ?_⟩
            refine ⟨_, rfl, ?_⟩
            exact k3 _ _ (fmod_in m0).1 (fmod_in m0).2 ⟨rfl, rfl, (Int.add_zero _).symm, ⟨Z3.ok.i0, Z3.ok.i1, fdiv_nn Z3.ok.d0 m0, Z3.ok.c0, Z3.ok.f0, Z3.ok.f1⟩⟩
          · have f0 := Z3.ok.f0
            have f1 := Z3.ok.f1
            have c0 := Z3.ok.c0
            refine ⟨_, rfl, p, _, rfl, dget Z3.at_ (pen_fo _), _, rfl, p, _, rfl, dget Z3.at_ (pen_co _), _, _, rfl, rfl, .inl ⟨by omega, by omega⟩, _, _, rfl, rfl, _, _, rfl, rfl, ?_⟩
            refine ⟨_, rfl, _, _, rfl, rfl, ⟨by decide, by decide, by omega⟩, _, _, rfl, rfl, (by show (0 : Int) < 2305843009213693951; decide), .inl ⟨_, rfl, _, _, rfl, rfl, ⟨by decide, by decide⟩, _, rfl, _, _, rfl, rfl, (by omega), ?_⟩⟩
            exact q_back (Q := Q) Z3.at_ (k3 _ _ (fmod_in m0).1 (fmod_in m0).2 ⟨rfl, rfl, (Int.add_zero _).symm, Z3.ok⟩)
        · have f0 := Z2.ok.f0
          have f1 := Z2.ok.f1
          refine ⟨_, rfl, p, _, rfl, dget Z2.at_ (pen_fo z2), _, _, rfl, rfl, .inl ⟨by omega, by omega⟩, _, rfl, _, _, rfl, rfl, .inl ⟨_, rfl, _, _, rfl, rfl, (by show (0 : Int) < 2147483587; decide), ?_⟩⟩
          refine ⟨_, rfl, p, _, rfl, dput Z2.at_ (pen_len z2) (put_fo z2 _), ?_⟩
          obtain ⟨Z3, k3, hc3⟩ := step H2 z2 { z2 with f := (z2.f * 69069 + cell) % 2147483587 } Z2 k2 hc2 rfl rfl rfl ⟨Z2.ok.i0, Z2.ok.i1, Z2.ok.d0, Z2.ok.c0, Int.emod_nonneg _ (by decide), Int.emod_lt_of_pos _ (by decide)⟩
          generalize ({ z2 with f := (z2.f * 69069 + cell) % 2147483587 } : Pen) = z3 at Z3 k3 hc3
          generalize upd H2 p (.dK z3.kvs) = H3 at Z3 k3
          refine ⟨_, rfl, p, _, rfl, dget Z3.at_ (pen_di _), _, _, rfl, rfl, _, rfl, ?_⟩
          refine ite2 (fun dg => ?_) (fun _ => ?_)
          · have dg' := of_decide_eq_true dg
            refine ⟨_, rfl, p, _, rfl, dget Z3.at_ (pen_di _), .inl ⟨_, rfl, _, rfl, _, _, rfl, rfl, (by omega), ?_⟩⟩
            refine ⟨_, rfl, p, _, rfl, dget Z3.at_ (pen_di _), _, rfl, _, _, rfl, rfl, ⟨by omega, by omega⟩, _, rfl, p, _, rfl, dput Z3.at_ (pen_len _) (put_di _ _), ?_⟩
            refine ⟨_, rfl, ?_⟩
            exact k3 _ _ (fmod_in m0).1 (fmod_in m0).2 ⟨rfl, rfl, (Int.add_zero _).symm, ⟨Z3.ok.i0, Z3.ok.i1, fdiv_nn Z3.ok.d0 m0, Z3.ok.c0, Z3.ok.f0, Z3.ok.f1⟩⟩
          · have f0 := Z3.ok.f0
            have f1 := Z3.ok.f1
            have c0 := Z3.ok.c0
            refine ⟨_, rfl, p, _, rfl, dget Z3.at_ (pen_fo _), _, rfl, p, _, rfl, dget Z3.at_ (pen_co _), _, _, rfl, rfl, .inl ⟨by omega, by omega⟩, _, _, rfl, rfl, _, _, rfl, rfl, ?_⟩
            refine ⟨_, rfl, _, _, rfl, rfl, ⟨by decide, by decide, by omega⟩, _, _, rfl, rfl, (by show (0 : Int) < 2305843009213693951; decide), .inl ⟨_, rfl, _, _, rfl, rfl, ⟨by decide, by decide⟩, _, rfl, _, _, rfl, rfl, (by omega), ?_⟩⟩
            exact q_back (Q := Q) Z3.at_ (k3 _ _ (fmod_in m0).1 (fmod_in m0).2 ⟨rfl, rfl, (Int.add_zero _).symm, Z3.ok⟩)
      · have Z3 := Z1
        have k3 := k1
        have hc3 := hc1
        refine ⟨_, rfl, p, _, rfl, dget Z3.at_ (pen_di _), _, _, rfl, rfl, _, rfl, ?_⟩
        refine ite2 (fun dg => ?_) (fun _ => ?_)
        · have dg' := of_decide_eq_true dg
          refine ⟨_, rfl, p, _, rfl, dget Z3.at_ (pen_di _), .inl ⟨_, rfl, _, rfl, _, _, rfl, rfl, (by omega), ?_⟩⟩
          refine ⟨_, rfl, p, _, rfl, dget Z3.at_ (pen_di _), _, rfl, _, _, rfl, rfl, ⟨by omega, by omega⟩, _, rfl, p, _, rfl, dput Z3.at_ (pen_len _) (put_di _ _), ?_⟩
          refine ⟨_, rfl, ?_⟩
          exact k3 _ _ (fmod_in m0).1 (fmod_in m0).2 ⟨rfl, rfl, (Int.add_zero _).symm, ⟨Z3.ok.i0, Z3.ok.i1, fdiv_nn Z3.ok.d0 m0, Z3.ok.c0, Z3.ok.f0, Z3.ok.f1⟩⟩
        · have f0 := Z3.ok.f0
          have f1 := Z3.ok.f1
          have c0 := Z3.ok.c0
          refine ⟨_, rfl, p, _, rfl, dget Z3.at_ (pen_fo _), _, rfl, p, _, rfl, dget Z3.at_ (pen_co _), _, _, rfl, rfl, .inl ⟨by omega, by omega⟩, _, _, rfl, rfl, _, _, rfl, rfl, ?_⟩
          refine ⟨_, rfl, _, _, rfl, rfl, ⟨by decide, by decide, by omega⟩, _, _, rfl, rfl, (by show (0 : Int) < 2305843009213693951; decide), .inl ⟨_, rfl, _, _, rfl, rfl, ⟨by decide, by decide⟩, _, rfl, _, _, rfl, rfl, (by omega), ?_⟩⟩
          exact q_back (Q := Q) Z3.at_ (k3 _ _ (fmod_in m0).1 (fmod_in m0).2 ⟨rfl, rfl, (Int.add_zero _).symm, Z3.ok⟩)
    · have Z3 := Z1
      have k3 := k1
      have hc3 := hc1
      refine ⟨_, rfl, p, _, rfl, dget Z3.at_ (pen_di _), _, _, rfl, rfl, _, rfl, ?_⟩
      refine ite2 (fun dg => ?_) (fun _ => ?_)
      · have dg' := of_decide_eq_true dg
        refine ⟨_, rfl, p, _, rfl, dget Z3.at_ (pen_di _), .inl ⟨_, rfl, _, rfl, _, _, rfl, rfl, (by omega), ?_⟩⟩
        refine ⟨_, rfl, p, _, rfl, dget Z3.at_ (pen_di _), _, rfl, _, _, rfl, rfl, ⟨by omega, by omega⟩, _, rfl, p, _, rfl, dput Z3.at_ (pen_len _) (put_di _ _), ?_⟩
        refine ⟨_, rfl, ?_⟩
        exact k3 _ _ (fmod_in m0).1 (fmod_in m0).2 ⟨rfl, rfl, (Int.add_zero _).symm, ⟨Z3.ok.i0, Z3.ok.i1, fdiv_nn Z3.ok.d0 m0, Z3.ok.c0, Z3.ok.f0, Z3.ok.f1⟩⟩
      · have f0 := Z3.ok.f0
        have f1 := Z3.ok.f1
        have c0 := Z3.ok.c0
        refine ⟨_, rfl, p, _, rfl, dget Z3.at_ (pen_fo _), _, rfl, p, _, rfl, dget Z3.at_ (pen_co _), _, _, rfl, rfl, .inl ⟨by omega, by omega⟩, _, _, rfl, rfl, _, _, rfl, rfl, ?_⟩
        refine ⟨_, rfl, _, _, rfl, rfl, ⟨by decide, by decide, by omega⟩, _, _, rfl, rfl, (by show (0 : Int) < 2305843009213693951; decide), .inl ⟨_, rfl, _, _, rfl, rfl, ⟨by decide, by decide⟩, _, rfl, _, _, rfl, rfl, (by omega), ?_⟩⟩
        exact q_back (Q := Q) Z3.at_ (k3 _ _ (fmod_in m0).1 (fmod_in m0).2 ⟨rfl, rfl, (Int.add_zero _).symm, Z3.ok⟩)

theorem scPick : FnScope ["_law_pen_here", "_law_some"] ["_law_pen_here", "_law_some"] (defScope sPick) := ⟨rfl, rfl, rfl, by decide +kernel, rfl, by decide +kernel, by decide +kernel⟩
theorem ok_pick {f fD : Addr} {fd fdD : FuncData} (F : Fun K "_law_pick" "_law_pick" sPick f fd) (T : PenTxt mg) (FD : Fun K "_law_draw" "_law_draw" sDraw fD fdD) (bD : Binds K fdD ["_law_pen_here", "_law_many"] []) (gD : mg "_law_draw" = some (.ref fD)) :
    FnOk P w K mg base CX0 2 f fd ["_law_pen_here", "_law_some"] (spPick K) := by
  have GD : FnOk P w K mg base CX0 1 fD fdD ["_law_pen_here", "_law_many"] spDraw := ok_draw FD T
  refine F.ok scPick (fun vs H Q E h => ?_) (fun cdv A outer s H vs Q E hr h => ?_)
  · obtain ⟨p, q, z, xs, rfl, _⟩ := h
    rfl
  · obtain ⟨p, q, z, xs, rfl, Z, hq, h0, h1, hc, k⟩ := h
    refine ⟨_, pss_one (ps_ret (pe_ix ix_list (pv 1) (pe_call GD hr rfl gD FD.kp bD .nil pass0 (pa_cons (pv 0) (pa_cons (pe_callB call_len_seq (by rfl) T.len PySem.boot_len (pa_cons (pv 1) pa_nil)) pa_nil))) (fun _ _ => rfl))), ?_⟩
    refine ⟨_, rfl, _, rfl, _, rfl, q, _, rfl, .inl (SqL.of hq), p, z, _, rfl, Z, by omega, by omega, hc, fun r z' r0 r1 g => ?_⟩
    have qp : q ≠ p := ne_of hq Z.at_ (by intro x; cases x)
    have hn : r.toNat < xs.length := by omega
    refine ⟨q, xs, r, xs[r.toNat], rfl, rfl, SqL.of (by rw [upd_ne qp]; exact hq), atI_nat' r0 (by simp [hn]), ?_⟩
    exact k _ z' (List.getElem_mem hn) g
end
end Nm
namespace Nm
open PySem PySem.Spec PyProof.Rows L2
/-! ### any value -/
def CPowW (i j : Int) : Prop := 0 ≤ j ∧ (Builtin.Int.intBits i : Int) * j ≤ 2 ^ 27
theorem op_powW {X : Cx} : OpR X (binaryOp .Pow) (rI CPowW fun i j => .int (i ^ j.toNat)) := opI fun _ _ _ _ _ _ _ hc q => pow_int hc.1 hc.2 q
/-- the pen's heap: all but the pen stays -/
structure PS (H0 : Hp) (p : Addr) (n : Int) (H : Hp) (z : Pen) : Prop where
  pen : PenAt H p z
  c : z.c ≤ n
  keep : ∀ b o, b ≠ p → H0 b = some o → H b = some o
  l : ∀ y, PenAt H0 p y → z.l = y.l
theorem PenAt.one {H : Hp} {p : Addr} {y z : Pen} (a : PenAt H p y) (b : PenAt H p z) : y.l = z.l := by
  have e := a.at_.symm.trans b.at_
  have e2 : y.kvs = z.kvs := by
    have q := Option.some.inj e
    exact HO.dK.inj q
  have e3 := (pen_ce y).symm.trans (e2 ▸ pen_ce z)
  exact V.ref.inj (Option.some.inj e3)
theorem PS.start {H : Hp} {p : Addr} {z : Pen} (h : PenAt H p z) : PS H p z.c H z := ⟨h, Int.le_refl _, fun _ _ _ e => e, fun _ k => h.one k⟩
theorem PS.same {H0 H H' : Hp} {p : Addr} {n : Int} {z : Pen} (h : PS H0 p n H z) (s : Same H H') : PS H0 p n H' z := ⟨h.pen.same s, h.c, fun b o nb e => s _ _ (h.keep b o nb e), h.l⟩
theorem PS.new {H0 H : Hp} {p q : Addr} {n : Int} {z : Pen} {o : HO} (h : PS H0 p n H z) (nq : H q = none) : PS H0 p n (upd H q o) z := h.same (same_new nq)
theorem PS.draw {H0 H : Hp} {p : Addr} {n : Int} {z z' : Pen} (h : PS H0 p n H z) (g : Pen.Go 1 z z') : PS H0 p (n + 1) (upd H p (.dK z'.kvs)) z' :=
  ⟨h.pen.put g.l g.ns g.ok, by have := g.c; have := h.c; omega, fun b o nb e => by rw [upd_ne nb]; exact h.keep b o nb e, fun y k => g.l.trans (h.l y k)⟩
theorem PS.le {H0 H : Hp} {p : Addr} {n m : Int} {z : Pen} (h : PS H0 p n H z) (k : n ≤ m) : PS H0 p m H z := ⟨h.pen, Int.le_trans h.c k, h.keep, h.l⟩
theorem PS.step {H0 H H' : Hp} {p : Addr} {n m : Int} {z z' : Pen} (h : PS H0 p n H z) (k : PS H p m H' z') : PS H0 p m H' z' := ⟨k.pen, k.c, fun b o nb e => k.keep b o nb (h.keep b o nb e), fun y q => (k.l z h.pen).trans (h.l y q)⟩
theorem PS.none {H0 H : Hp} {p a : Addr} {n : Int} {z : Pen} (h : PS H0 p n H z) (hp : H0 p ≠ none) (e : H a = Option.none) : H0 a = Option.none := by
  cases q : H0 a with
  | none => rfl
  | some o =>
    by_cases ap : a = p
    · rw [ap, h.pen.at_] at e
      cases e
    · rw [h.keep a o ap q] at e
      cases e
/-- what is new, through the pen's heap -/
theorem New.ps {H G H1 H2 : Hp} {p : Addr} {n : Int} {z : Pen} (m : New H G H1) (hp : H p ≠ none) (s : PS H1 p n H2 z) : New H G H2 := ⟨fun b o e => s.keep b o (fun q => by rw [q, m.ap p hp] at e; cases e) (m.in_ _ _ e), m.ap⟩
theorem New.dom {H0 H G H1 : Hp} (m : New H G H1) (d : ∀ a, H0 a ≠ none → H a ≠ none) : New H0 G H1 := ⟨m.in_, fun a ha => m.ap a (d a ha)⟩
theorem New.join2 {H G G2 H2 : Hp} (n : New H G H2) (m : New H G2 H2) : New H (joinH G G2) H2 := by
  refine ⟨fun b o e => ?_, fun a ha => by rw [join_none (n.ap a ha)]; exact m.ap a ha⟩
  cases g : G b with
  | none => rw [join_none g] at e; exact m.in_ _ _ e
  | some u =>
    rw [join_l _ _ g] at e
    rw [← Option.some.inj e]
    exact n.in_ _ _ g
mutual
def Tr.ok : Tr → Prop
  | .num _ => True
  | .mk m ps => PyData.strOk m = true ∧ ps.length ≤ 4 ∧ Tr.okL ps
def Tr.okL : List Tr → Prop
  | [] => True
  | t :: r => t.ok ∧ Tr.okL r
end
theorem okL_app : ∀ {a b : List Tr}, Tr.okL a → Tr.okL b → Tr.okL (a ++ b)
  | [], _, _, h => h
  | _ :: _, _, h, k => ⟨h.1, okL_app h.2 k⟩
theorem depL_app : ∀ (a : List Tr) (b : List Tr) (n : Nat), Tr.depL a ≤ n → Tr.depL b ≤ n → Tr.depL (a ++ b) ≤ n
  | [], _, _, _, h => h
  | t :: r, b, n, h, k => by
    simp only [Tr.depL] at h
    have h1 : t.dep ≤ n := by omega
    have h2 : Tr.depL r ≤ n := by omega
    have ih := depL_app r b n h2 k
    show max t.dep (Tr.depL (r ++ b)) ≤ n
    omega
def nD : Nat → Nat
  | 0 => 2
  | d + 1 => 3 + 4 * nD d
def nB : Nat → Nat
  | 0 => 1
  | d + 1 => 1 + 4 * nB d
theorem nD_pos : ∀ d, 2 ≤ nD d
  | 0 => by decide
  | d + 1 => by show 2 ≤ 3 + 4 * nD d; omega
theorem nB_pos : ∀ d, 1 ≤ nB d
  | 0 => by decide
  | d + 1 => by show 1 ≤ 1 + 4 * nB d; omega
def spAny (d : Nat) : Sp := fun vs H Q _ => ∃ (p : Addr) (z : Pen), vs = [.ref p, .int (d : Int)] ∧ PenAt H p z ∧ z.c + nD d ≤ 1000000 ∧
  ∀ (y : V) (t : Tr) (H' G : Hp) (z' : Pen), PS H p (z.c + nD d) H' z' → New H G H' → OAt G y t → t.dep ≤ d + 1 → t.sz ≤ nB d → t.ok → Q y H'
theorem OAt.le {G G' : Hp} {v : V} {t : Tr} (h : OAt G v t) (s : Same G G') : OAt G' v t := h.same s
section
variable {P : Program} {w : World} {K : PySem.W.Frag} {mg : Str → Option Value} {base : Heap} {C fE : Addr}

abbrev sLanyvalue : Stmt := top 18
abbrev NLanyvalue : List Str := ["_law_pen_here", "_law_depth", "_law_way", "_law_parts", "_law_k"]
abbrev PLanyvalue : List Str := ["_law_pen_here", "_law_depth"]
theorem scLanyvalue : FnScope NLanyvalue PLanyvalue (defScope sLanyvalue) := ⟨rfl, rfl, rfl, by decide +kernel, rfl, by decide +kernel, by decide +kernel⟩

theorem leaves {K : PySem.W.Frag} {H0 H : Hp} {p : Addr} {z : Pen} {n : Int} {d : Nat} {Q : VK} (S : PS H0 p n H z) (hp : H0 p ≠ none) (hc : z.c ≤ 1000000)
    (k : ∀ (y : V) (t : Tr) (H' G : Hp) (z' : Pen), PS H0 p (n + 1) H' z' → New H0 G H' → OAt G y t → t.dep ≤ d + 1 → t.sz ≤ nB d → t.ok → Q y H') (i1 i2 i3 i4 i5 : Int) (E : XK) :
    tLst (tCons (tC (.int i1)) (tCons (tC (.int i2)) (tCons (tC (.int i3)) (tCons (tC (.int i4)) (tCons (tC (.int i5)) (tCons (tTup (tCons (tC (.str "Nil")) (tCons (tLst tNil) tNil))) (tCons (tTup (tCons (tC (.str "X_1")) (tCons (tLst tNil) tNil))) tNil))))))) [] H fun v H1 => spPick K [.ref p, v] H1 Q E := by
  have bound := nB_pos d
  refine ⟨by show 0 ≤ sizeLine; decide, fun l1 nl1 => ⟨by show 2 ≤ sizeLine; decide, fun t1 nt1 => ⟨by show 0 ≤ sizeLine; decide, fun l2 nl2 => ⟨by show 2 ≤ sizeLine; decide, fun t2 nt2 => ⟨by show 7 ≤ sizeLine; decide, fun q nq => ?_⟩⟩⟩⟩⟩
  have n1 := S.none hp nl1
  have S1 := S.new (o := .lst []) nl1
  have e1 := upd_same (H := H) (a := l1) (o := .lst [])
  generalize upd H l1 (.lst []) = H1 at S1 e1 nt1 nl2 nt2 nq ⊢
  have m1 := S1.none hp nt1
  have S2 := S1.new (o := .tup [.str "Nil", .ref l1]) nt1
  have e2 := upd_same (H := H1) (a := t1) (o := .tup [.str "Nil", .ref l1])
  replace e1 := (same_new (o := .tup [.str "Nil", .ref l1]) nt1) _ _ e1
  have d1 : l1 ≠ t1 := ne_of e1 e2 (by intro z; cases z)
  generalize upd H1 t1 (.tup [.str "Nil", .ref l1]) = H2 at S2 e1 e2 nl2 nt2 nq ⊢
  have n2 := S2.none hp nl2
  have S3 := S2.new (o := .lst []) nl2
  have e3 := upd_same (H := H2) (a := l2) (o := .lst [])
  have s3 := same_new (o := .lst []) nl2
  replace e1 := s3 _ _ e1
  replace e2 := s3 _ _ e2
  generalize upd H2 l2 (.lst []) = H3 at S3 e1 e2 e3 nt2 nq ⊢
  have m2 := S3.none hp nt2
  have S4 := S3.new (o := .tup [.str "X_1", .ref l2]) nt2
  have e4 := upd_same (H := H3) (a := t2) (o := .tup [.str "X_1", .ref l2])
  have s4 := same_new (o := .tup [.str "X_1", .ref l2]) nt2
  replace e1 := s4 _ _ e1
  replace e2 := s4 _ _ e2
  replace e3 := s4 _ _ e3
  have d2 : l2 ≠ t2 := ne_of e3 e4 (by intro z; cases z)
  generalize upd H3 t2 (.tup [.str "X_1", .ref l2]) = H4 at S4 e1 e2 e3 e4 nq ⊢
  have S5 := S4.new (o := .lst [.int i1, .int i2, .int i3, .int i4, .int i5, .ref t1, .ref t2]) nq
  have s5 := same_new (o := .lst [.int i1, .int i2, .int i3, .int i4, .int i5, .ref t1, .ref t2]) nq
  refine ⟨p, q, z, _, rfl, S5.pen, upd_same, by show 0 < 7; decide, by show 7 < 1073741824; decide, by omega, fun v z' hv g => ?_⟩
  have S6 := S5.draw g
  have num : ∀ i : Int, Q (.int i) (upd (upd H4 q (.lst [.int i1, .int i2, .int i3, .int i4, .int i5, .ref t1, .ref t2])) p (.dK z'.kvs)) := fun i =>
    k (.int i) (.num i) _ (fun _ => Option.none) z' S6 new_none (.num i) (by show 1 ≤ d + 1; omega) (by show 1 ≤ nB d; omega) trivial
  have mk : ∀ (l t : Addr) (m : Str), H0 l = Option.none → H0 t = Option.none → l ≠ t → H4 l = some (.lst []) → H4 t = some (.tup [.str m, .ref l]) → PyData.strOk m = true → Q (.ref t) (upd (upd H4 q (.lst [.int i1, .int i2, .int i3, .int i4, .int i5, .ref t1, .ref t2])) p (.dK z'.kvs)) := fun l t m hl ht lt el et ok => by
    have lp : ∀ a, H0 a = Option.none → a ≠ p := fun a ha q => hp (q ▸ ha)
    have el' : upd (upd H4 q (.lst [.int i1, .int i2, .int i3, .int i4, .int i5, .ref t1, .ref t2])) p (.dK z'.kvs) l = some (.lst []) := by rw [upd_ne (lp l hl)]; exact s5 _ _ el
    have et' : upd (upd H4 q (.lst [.int i1, .int i2, .int i3, .int i4, .int i5, .ref t1, .ref t2])) p (.dK z'.kvs) t = some (.tup [.str m, .ref l]) := by rw [upd_ne (lp t ht)]; exact s5 _ _ et
    refine k (.ref t) (.mk m []) _ _ z' S6 ((new_none.add hl el').add ht et') (.mk upd_same (by rw [upd_ne lt, upd_same]) .nil) (by show 1 + 0 ≤ d + 1; omega) (by show 1 + 0 ≤ nB d; omega) ⟨ok, Nat.zero_le _, trivial⟩
  simp only [List.mem_cons, List.not_mem_nil, or_false] at hv
  rcases hv with rfl | rfl | rfl | rfl | rfl | rfl | rfl
  · exact num _
  · exact num _
  · exact num _
  · exact num _
  · exact num _
  · exact mk l1 t1 "Nil" n1 m1 d1 e1 e2 (by decide +kernel)
  · exact mk l2 t2 "X_1" n2 m2 d2 e3 e4 (by decide +kernel)

def spAnyN (n : Nat) : Sp := fun vs H Q E => ∃ d : Nat, d < n ∧ spAny d vs H Q E
theorem ok_any {f fD fQ : Addr} {fd fdD fdQ : FuncData} (F_law_any_value : Fun K "_law_any_value" "_law_any_value" sLanyvalue f fd) (T : VTxt mg) (PT : PenTxt mg)
    (F_law_draw : Fun K "_law_draw" "_law_draw" sDraw fD fdD) (b_law_draw : Binds K fdD ["_law_pen_here", "_law_many"] []) (g_law_draw : mg "_law_draw" = some (.ref fD))
    (F_law_pick : Fun K "_law_pick" "_law_pick" sPick fQ fdQ) (b_law_pick : Binds K fdQ ["_law_pen_here", "_law_some"] []) (g_law_pick : mg "_law_pick" = some (.ref fQ))
    (b_law_any_value : Binds K fd ["_law_pen_here", "_law_depth"] []) (g_law_any_value : mg "_law_any_value" = some (.ref f)) : ∀ n : Nat, FnOk P w K mg base CX0 (n + 3) f fd PLanyvalue (spAnyN n)
  | 0 => by
    refine F_law_any_value.ok scLanyvalue (fun vs H Q E h => ?_) (fun cdv A outer s H vs Q E hr h => ?_)
    · obtain ⟨d, hd, _⟩ := h
      exact absurd hd (Nat.not_lt_zero _)
    · obtain ⟨d, hd, _⟩ := h
      exact absurd hd (Nat.not_lt_zero _)
  | n + 1 => by
    have G_law_any_value := ok_any F_law_any_value T PT F_law_draw b_law_draw g_law_draw F_law_pick b_law_pick g_law_pick b_law_any_value g_law_any_value n
    have G_law_draw : FnOk P w K mg base CX0 (n + 3) fD fdD ["_law_pen_here", "_law_many"] spDraw := (ok_draw F_law_draw PT).mono (by omega)
    have G_law_pick : FnOk P w K mg base CX0 (n + 3) fQ fdQ ["_law_pen_here", "_law_some"] (spPick K) := (ok_pick F_law_pick PT F_law_draw b_law_draw g_law_draw).mono (by omega)
    refine F_law_any_value.ok scLanyvalue (fun vs H Q E h => ?_) (fun cdv A outer s H vs Q E hr h => ?_)
    · obtain ⟨d, hd, p, z, rfl, _⟩ := h
      rfl
    · obtain ⟨d, hd, p, z, rfl, Z, hc, k⟩ := h
      have hr1 := hr
      have hp : H p ≠ Option.none := by rw [Z.at_]; exact fun z => nomatch z
      have z0 := Z.ok.c0
      refine ⟨_, (pss_cons (ps_set (i := 2) scLanyvalue.nd rfl (Or.inl rfl) (pe_call G_law_draw hr1 rfl g_law_draw F_law_draw.kp b_law_draw .nil pass0 (pa_cons (pv 0) (pa_cons pe_int pa_nil))))
      (pss_cons (ps_if (PW.pt (pw_or (pt_cmpR op_eq (pv 1) pe_int (nomark _)) (pw_or1 (pt_cmpR op_eq (pv 2) pe_int (nomark _)))))
      (pss_one (ps_ret (pe_call G_law_pick hr1 rfl g_law_pick F_law_pick.kp b_law_pick .nil pass0 (pa_cons (pv 0) (pa_cons (pe_lst (pa_cons pe_int (pa_cons (pe_un un_neg pe_int) (pa_cons pe_int (pa_cons (pe_op op_sub (pe_op op_powW (pe_op op_pow pe_int pe_int) pe_int) pe_int) (pa_cons (pe_op op_sub pe_int (pe_op op_pow pe_int pe_int)) (pa_cons (pe_tup (pa_cons pe_str (pa_cons (pe_lst pa_nil) pa_nil))) (pa_cons (pe_tup (pa_cons pe_str (pa_cons (pe_lst pa_nil) pa_nil))) pa_nil)))))))) pa_nil)))))
      pss_nil)
      (pss_cons (ps_setLc (i := 3) (own := [("_law_k", 4)]) (g := (gName 4)) rfl scLanyvalue.nd rfl rfl (sw_true rfl rfl rfl (by decide +kernel)) (pi_range1 rfl T.range (pa_cons (pe_call G_law_pick hr1 rfl g_law_pick F_law_pick.kp b_law_pick .nil pass0 (pa_cons (pv 0) (pa_cons (pe_lst (pa_cons pe_int (pa_cons pe_int (pa_cons pe_int (pa_cons pe_int pa_nil))))) pa_nil))) pa_nil)) (blkOk_by (own := [("_law_k", 4)]) (N := NLanyvalue) (sc := defScope sLanyvalue) (by decide +kernel)) (fun _ _ _ _ _ => (pg_name (i := 4) scLanyvalue.nd rfl (Or.inl rfl))) (fun _ _ _ _ _ => pts_nil) (fun _ _ _ _ _ => (pe_call G_law_any_value hr1 rfl g_law_any_value F_law_any_value.kp b_law_any_value .nil pass0 (pa_cons (pv 0) (pa_cons (pe_op op_sub (pv 1) pe_int) pa_nil)))))
      (pss_one (ps_ret (pe_tup (pa_cons (pe_call G_law_pick hr1 rfl g_law_pick F_law_pick.kp b_law_pick .nil pass0 (pa_cons (pv 0) (pa_cons (pe_lst (pa_cons pe_str (pa_cons pe_str (pa_cons pe_str pa_nil)))) pa_nil))) (pa_cons (pv 3) pa_nil)))))))), ?_⟩
      have S0 := PS.start Z
      refine ⟨.ref p, (by kernel_rfl), p, z, 4, rfl, Z, by decide, by decide, by omega, fun way z1 _ _ g1 => ?_⟩
      have S1 := S0.draw g1
      generalize upd H p (.dK z1.kvs) = H1 at S1 ⊢
      have c1 := S1.c
      have leaf : ∀ (n' : Int), n' + 1 ≤ z.c + nD d → PS H p n' H1 z1 → ∀ (y : V) (t : Tr) (H' G : Hp) (z' : Pen), PS H p (n' + 1) H' z' → New H G H' → OAt G y t → t.dep ≤ d + 1 → t.sz ≤ nB d → t.ok → Q y H' := fun n' hn _ y t H' G z' S N o a b c => k y t H' G z' (S.le hn) N o a b c
      have pos := nD_pos d
      refine ⟨.int (d : Int), (by kernel_rfl), rfl, _, rfl, ?_⟩
      have LF : ∀ E', tLst (tCons (tC (.int 0)) (tCons (tC (.int (-1))) (tCons (tC (.int 5)) (tCons (tC (.int ((10 ^ (60 : Int).toNat) ^ (15 : Int).toNat - 1))) (tCons (tC (.int (0 - 10 ^ (30 : Int).toNat))) (tCons (tTup (tCons (tC (.str "Nil")) (tCons (tLst tNil) tNil))) (tCons (tTup (tCons (tC (.str "X_1")) (tCons (tLst tNil) tNil))) tNil))))))) [] H1 fun v H2 => spPick K [.ref p, v] H2 Q E' :=
        fun E' => leaves S1 hp (by omega) (leaf _ (by omega) S1) _ _ _ _ _ E'
      cases d with
      | zero =>
        refine ite_yes rfl ?_
        refine ite_yes rfl ?_
        refine ⟨.ref p, (by kernel_rfl), 1, rfl, _, _, rfl, rfl, ⟨by decide, by decide, by decide⟩, _, _, rfl, rfl, ⟨by decide, by decide +kernel⟩, _, _, rfl, rfl, _, _, rfl, rfl, ⟨by decide, by decide, by decide⟩, _, _, rfl, rfl, ?_⟩
        exact LF E0
      | succ d =>
        refine ite_no (decide_eq_false fun z => by have q := V.int.inj z; omega) ?_
        refine ⟨.int way, (by kernel_rfl), rfl, _, rfl, ?_⟩
        refine ite2 (fun _ => ?_) (fun _ => ?_)
        · refine ⟨.ref p, (by kernel_rfl), 1, rfl, _, _, rfl, rfl, ⟨by decide, by decide, by decide⟩, _, _, rfl, rfl, ⟨by decide, by decide +kernel⟩, _, _, rfl, rfl, _, _, rfl, rfl, ⟨by decide, by decide, by decide⟩, _, _, rfl, rfl, ?_⟩
          exact LF E0
        have eN : nD (d + 1) = 3 + 4 * nD d := rfl
        have eB : nB (d + 1) = 1 + 4 * nB d := rfl
        refine ⟨.ref p, (by kernel_rfl), by show 4 ≤ sizeLine; decide, fun q nq => ?_⟩
        have S2 := S1.new (o := .lst [.int 0, .int 1, .int 2, .int 4]) nq
        refine ⟨p, q, z1, _, rfl, S2.pen, upd_same, by show 0 < 4; decide, by show 4 < 1073741824; decide, by omega, fun v z3 hv g3 => ?_⟩
        have S3 := S2.draw g3
        generalize upd (upd H1 q (.lst [.int 0, .int 1, .int 2, .int 4])) p (.dK z3.kvs) = H3 at S3 ⊢
        obtain ⟨m, hm, rfl⟩ : ∃ m : Nat, m ≤ 4 ∧ v = .int (m : Int) := by
          simp only [List.mem_cons, List.not_mem_nil, or_false] at hv
          rcases hv with rfl | rfl | rfl | rfl
          · exact ⟨0, by decide, rfl⟩
          · exact ⟨1, by decide, rfl⟩
          · exact ⟨2, by decide, rfl⟩
          · exact ⟨4, by decide, rfl⟩
        clear hv
        have c3 := S3.c
        refine ⟨(m : Int), rfl, by omega, by omega, ?_⟩
        rw [Int.toNat_natCast]
        intro D nD'
        have nDH := S3.none hp nD'
        have Dp : D ≠ p := fun q => hp (q ▸ nDH)
        refine lc_range (lo := 0) (n := m) (fun i H' => ∃ (ys : List V) (G : Hp) (z' : Pen) (us : List Tr), H' D = some (.lst ys) ∧ OAts G ys us ∧ us.length = i ∧ PS H p (z.c + 2 + ((i * nD d : Nat) : Int)) H' z' ∧ New H G H' ∧ G D = Option.none ∧ Tr.depL us ≤ d + 1 ∧ Tr.szL us ≤ i * nB d ∧ Tr.okL us)
          ⟨[], fun _ => Option.none, z3, [], upd_same, .nil, rfl, (S3.new nD').le (by omega), new_none, rfl, Nat.zero_le _, Nat.zero_le _, trivial⟩ ?_ ?_
        · rintro i H4 hi ⟨ys, G, z4, us, hD, hy, lu, S4, N4, gD, hdp, hsz, hok⟩
          refine ⟨rfl, ?_⟩
          have c4 := S4.c
          have i4 : i * nD d ≤ 3 * nD d := Nat.mul_le_mul_right _ (by omega)
          refine ⟨.ref p, (by kernel_rfl), .int ((d + 1 : Nat) : Int), (by kernel_rfl), _, _, rfl, rfl, d, by omega, p, z4, (by show [V.ref p, V.int (((d + 1 : Nat) : Int) - 1)] = [V.ref p, V.int (d : Int)]; rw [show ((d + 1 : Nat) : Int) - 1 = (d : Int) by omega]), S4.pen, by omega, fun y t H5 G2 z5 S5 N5 o5 dp5 sz5 ok5 => ?_⟩
          have hD5 : H5 D = some (.lst ys) := S5.keep _ _ Dp hD
          have ly := hy.len
          have hp4 : H4 p ≠ Option.none := by rw [S4.pen.at_]; exact fun z => nomatch z
          have g2D : G2 D = Option.none := N5.ap D (by rw [hD]; exact fun z => nomatch z)
          have N4' : New H G H5 := N4.ps hp S5
          have dom : ∀ a, H a ≠ Option.none → H4 a ≠ Option.none := fun a ha e => ha (S4.none hp e)
          have N5' : New H G2 H5 := N5.dom dom
          have jr : Same G2 (joinH G G2) := fun b o e => by
            cases g : G b with
            | none => rw [join_none g]; exact e
            | some u =>
              have z := N5.ap b (by rw [N4.in_ _ _ g]; exact fun z => nomatch z)
              rw [z] at e
              cases e
          refine ⟨ys, hD5, Nat.lt_of_le_of_lt (show ys.length ≤ 1000000 by omega) (by decide), ?_⟩
          have mul1 : (i + 1) * nD d = i * nD d + nD d := Nat.succ_mul _ _
          have mul2 : (i + 1) * nB d = i * nB d + nB d := Nat.succ_mul _ _
          refine ⟨ys ++ [y], joinH G G2, z5, us ++ [t], upd_same, (hy.same join_l).app (.cons (o5.same jr) .nil), by simp [lu], ?_, (N4'.join2 N5').put (by rw [join_none gD]; exact g2D), by rw [join_none gD]; exact g2D, depL_app us [t] (d + 1) hdp (by show max t.dep 0 ≤ d + 1; omega), ?_, okL_app hok ⟨ok5, trivial⟩⟩
          · have S6 := S4.step S5
            have nl : z5.l ≠ D := fun q => by
              have e := S6.l z Z
              have c := Z.cells
              rw [← e, q, nDH] at c
              cases c
            refine ⟨⟨by rw [upd_ne (Ne.symm Dp)]; exact S6.pen.at_, by rw [upd_ne nl]; exact S6.pen.cells, S6.pen.ok⟩, by have := S6.c; rw [mul1]; omega, fun b o nb e => by rw [upd_ne (fun q => by rw [q, nDH] at e; cases e)]; exact S6.keep b o nb e, S6.l⟩
          · rw [szL_app, mul2]
            show Tr.szL us + (t.sz + 0) ≤ _
            omega
        · rintro H4 ⟨ys, G, z4, us, hD, hy, lu, S4, N4, gD, hdp, hsz, hok⟩
          have mm : m * nD d ≤ 4 * nD d := Nat.mul_le_mul_right _ hm
          have mb : m * nB d ≤ 4 * nB d := Nat.mul_le_mul_right _ hm
          have c4 := S4.c
          refine ⟨.ref p, (by kernel_rfl), by show 3 ≤ sizeLine; decide, fun q nq => ?_⟩
          refine ⟨p, q, z4, (["Cons", "A", "B"] : List Str).map V.str, rfl, (S4.pen.same (same_new nq)), upd_same, by decide, by decide, by omega, fun v z6 hv g6 => ?_⟩
          obtain ⟨m', hm', rfl⟩ := List.mem_map.mp hv
          have ok' : PyData.strOk m' = true := by
            simp only [List.mem_cons, List.not_mem_nil, or_false] at hm'
            rcases hm' with rfl | rfl | rfl <;> decide +kernel
          have R : PS H4 p (z4.c + 1) (upd (upd H4 q (.lst ((["Cons", "A", "B"] : List Str).map V.str))) p (.dK z6.kvs)) z6 := ((PS.start S4.pen).new nq).draw g6
          have S6 := S4.step R
          have N6 := N4.ps hp R
          have hD6 := R.keep D _ Dp hD
          clear hv g6 nq
          replace S6 : PS H p (z4.c + 1) (upd (upd H4 q (.lst [.str "Cons", .str "A", .str "B"])) p (.dK z6.kvs)) z6 := S6
          replace N6 : New H G (upd (upd H4 q (.lst [.str "Cons", .str "A", .str "B"])) p (.dK z6.kvs)) := N6
          replace hD6 : (upd (upd H4 q (.lst [.str "Cons", .str "A", .str "B"])) p (.dK z6.kvs)) D = some (.lst ys) := hD6
          clear R
          generalize upd (upd H4 q (.lst [.str "Cons", .str "A", .str "B"])) p (.dK z6.kvs) = H6 at S6 N6 hD6 ⊢
          refine ⟨.ref D, (by kernel_rfl), by show 2 ≤ sizeLine; decide, fun T1 nT1 => ?_⟩
          have nT0 := S6.none hp nT1
          have s1 := same_new (o := .tup [.str m', .ref D]) nT1
          have DT : D ≠ T1 := fun z => by rw [z, nT1] at hD6; cases hD6
          have N7 := ((N6.same s1).add nDH (s1 _ _ hD6)).add nT0 (upd_same (H := H6) (a := T1) (o := .tup [.str m', .ref D]))
          have gT : G T1 = Option.none := by
            cases e : G T1 with
            | none => rfl
            | some o => rw [N6.in_ _ _ e] at nT1; cases nT1
          refine k (.ref T1) (.mk m' us) _ _ z6 ((S6.same s1).le (by omega)) N7 (.mk upd_same (by rw [upd_ne DT, upd_same]) (hy.same fun b o e => ?_)) (by show 1 + Tr.depL us ≤ d + 1 + 1; omega) (by rw [eB]; show 1 + Tr.szL us ≤ _; omega) ⟨ok', by omega, hok⟩
          rw [upd_ne (ne_of_none e gT), upd_ne (ne_of_none e gD)]
          exact e
end
end Nm
namespace Nm
open PySem PySem.Spec PyProof.Rows L2
/-! ### all cells, with their places -/
mutual
def cellsT : Tr → List (List Nat × Tr)
  | .num i => [([], .num i)]
  | .mk m ts => ([], .mk m ts) :: cellsL 0 ts
def cellsL : Nat → List Tr → List (List Nat × Tr)
  | _, [] => []
  | k, t :: r => (cellsT t).map (fun c => (k :: c.1, c.2)) ++ cellsL (k + 1) r
end
mutual
theorem cells_places : ∀ t : Tr, (cellsT t).map (·.1) = plT t
  | .num _ => rfl
  | .mk _ ts => by
    show [] :: (cellsL 0 ts).map (·.1) = [] :: plL 0 ts
    rw [cellsL_places 0 ts]
theorem cellsL_places : ∀ (k : Nat) (ts : List Tr), (cellsL k ts).map (·.1) = plL k ts
  | _, [] => rfl
  | k, t :: r => by
    simp only [cellsL, plL, List.map_append, List.map_map, cellsL_places (k + 1) r]
    rw [← cells_places t, List.map_map]
    rfl
end
mutual
theorem cells_at : ∀ (t : Tr) (c : List Nat × Tr), c ∈ cellsT t → atT t c.1 = some c.2
  | .num i, c, h => by
    obtain rfl := List.mem_singleton.mp h
    rfl
  | .mk m ts, c, h => by
    rcases List.mem_cons.mp h with rfl | h
    · rfl
    · obtain ⟨j, r, e, _, t, ht, hr⟩ := cellsL_at 0 ts c h
      rw [e]
      show (match ts[j]? with | some d => atT d r | none => none) = _
      rw [show j = 0 + (j - 0) by omega] at *
      have z := ht
      simp only [Nat.zero_add, Nat.sub_zero] at z ⊢
      rw [z]
      exact hr
theorem cellsL_at : ∀ (k : Nat) (ts : List Tr) (c : List Nat × Tr), c ∈ cellsL k ts → ∃ (j : Nat) (r : List Nat), c.1 = j :: r ∧ k ≤ j ∧ ∃ t, ts[j - k]? = some t ∧ atT t r = some c.2
  | _, [], c, h => nomatch h
  | k, t :: r, c, h => by
    rcases List.mem_append.mp h with h | h
    · obtain ⟨d, hd, rfl⟩ := List.mem_map.mp h
      exact ⟨k, d.1, rfl, Nat.le_refl _, t, by simp, cells_at t d hd⟩
    · obtain ⟨j, rr, e, lt, u, hu, hr⟩ := cellsL_at (k + 1) r c h
      refine ⟨j, rr, e, by omega, u, ?_, hr⟩
      rw [show j - k = (j - (k + 1)) + 1 by omega]
      simpa using hu
end
mutual
theorem cells_plen : ∀ (t : Tr) (c : List Nat × Tr), c ∈ cellsT t → c.1.length < t.sz
  | .num i, c, h => by
    obtain rfl := List.mem_singleton.mp h
    exact Nat.zero_lt_one
  | .mk m ts, c, h => by
    simp only [Tr.sz]
    rcases List.mem_cons.mp h with rfl | h
    · show 0 < _
      omega
    · have q := cellsL_plen 0 ts c h
      omega
theorem cellsL_plen : ∀ (k : Nat) (ts : List Tr) (c : List Nat × Tr), c ∈ cellsL k ts → c.1.length ≤ Tr.szL ts
  | _, [], c, h => nomatch h
  | k, t :: r, c, h => by
    simp only [Tr.szL]
    rcases List.mem_append.mp h with h | h
    · obtain ⟨d, hd, rfl⟩ := List.mem_map.mp h
      have q := cells_plen t d hd
      simp only [List.length_cons]
      omega
    · have q := cellsL_plen (k + 1) r c h
      omega
end
theorem cellsL_len (k : Nat) (ts : List Tr) : (cellsL k ts).length = Tr.szL ts := by
  rw [← plL_len k ts, ← cellsL_places k ts, List.length_map]
/-- all but one object -/
def hide (H : Hp) (D : Addr) : Hp := fun b => if b = D then none else H b
theorem hide_same {H G : Hp} {D : Addr} (s : Same G H) (n : G D = none) : Same G (hide H D) := fun b o e => by
  unfold hide
  rw [if_neg (ne_of_none e n)]
  exact s _ _ e
theorem hide_ne {H : Hp} {D b : Addr} (n : b ≠ D) : hide H D b = H b := if_neg n
theorem hide_upd {H : Hp} {D : Addr} {o : HO} : Same (hide H D) (upd H D o) := fun b u e => by
  unfold hide at e
  by_cases h : b = D
  · rw [if_pos h] at e
    cases e
  · rw [if_neg h] at e
    rw [upd_ne h]
    exact e
theorem cells_len (t : Tr) : (cellsT t).length = t.sz := by
  rw [← plT_len t, ← cells_places t, List.length_map]
/-- cells: pairs of a place and a value -/
def CAt (H : Hp) : List V → List (List Nat × Tr) → Prop := Paired fun v (c : List Nat × Tr) => ∃ (T pp : Addr) (y : V), v = .ref T ∧ H T = some (.tup [.ref pp, y]) ∧ H pp = some (.tup (plV c.1)) ∧ OAt H y c.2
theorem CAt.same {H H' : Hp} {xs : List V} {cs : List (List Nat × Tr)} (h : CAt H xs cs) (s : Same H H') : CAt H' xs cs := paired_mono h fun _ _ ⟨T, pp, y, e, q1, q2, o⟩ => ⟨T, pp, y, e, s _ _ q1, s _ _ q2, o.same s⟩
theorem paired_app {α β : Type} {F : α → β → Prop} : ∀ {xs xs' : List α} {ys ys' : List β}, Paired F xs ys → Paired F xs' ys' → Paired F (xs ++ xs') (ys ++ ys')
  | _, _, _, _, .nil, h => h
  | _, _, _, _, .cons r t, h => .cons r (paired_app t h)
theorem paired_at {α β : Type} {F : α → β → Prop} : ∀ {xs : List α} {ys : List β} {i : Nat} {x : α}, Paired F xs ys → xs[i]? = some x → ∃ y, ys[i]? = some y ∧ F x y
  | _, _, _, _, .nil, e => by simp at e
  | _, _, 0, _, .cons r _, e => by
    simp at e
    subst e
    exact ⟨_, rfl, r⟩
  | _, _, i + 1, x, .cons _ t, e => by
    obtain ⟨y, h1, h2⟩ := paired_at (i := i) (x := x) t (by simpa using e)
    exact ⟨y, by simpa using h1, h2⟩
theorem cellsL_snoc : ∀ (ts : List Tr) (k : Nat) (u : Tr), cellsL k (ts ++ [u]) = cellsL k ts ++ (cellsT u).map (fun c => ((k + ts.length) :: c.1, c.2))
  | [], k, u => by simp [cellsL]
  | t :: r, k, u => by
    simp only [List.cons_append, cellsL, cellsL_snoc r (k + 1) u, List.append_assoc, List.length_cons]
    rw [show k + 1 + r.length = k + (r.length + 1) by omega]
/-- for .. in enumerate(xs): an invariant over the turn, the slots, the heap -/
theorem for_enumL {K : PySem.W.Frag} {a : Addr} {xs : List V} {g : TG} {tb : TS} {D : Ends} {σ : L2.St} {H : Hp} (Pv : Nat → L2.St → Hp → Prop) (h0 : Pv 0 σ H) (hl : ∀ i σ H, i ≤ xs.length → Pv i σ H → SqL K H a xs)
    (hs : ∀ i x T σ H, xs[i]? = some x → Pv i σ H → H T = none → g (.ref T) σ (upd H T (.tup [.int (i : Nat), x])) fun σ2 H2 => tb { D with nx := Pv (i + 1), ct := Pv (i + 1), bk := D.nx } σ2 H2) (hd : ∀ σ H, Pv xs.length σ H → D.nx σ H) :
    ∃ W : Nat → Nat → L2.St → Hp → Prop, (∃ m, W 0 m σ H) ∧ ∀ i m σ H, W i m σ H →
      ((Ite K a).stop i H ∧ D.nx σ H) ∨ ((Ite K a).go i H ∧ ∃ N : L2.St → Hp → Prop, (∀ σ' H', N σ' H' → ∃ m', m' < m ∧ W (i + 1) m' σ' H') ∧ ∀ x H', (Ite K a).yld i H x H' → g x σ H' fun σ2 H2 => tb { D with nx := N, ct := N, bk := D.nx } σ2 H2) := by
  refine ⟨fun i m σ H => m + i = xs.length ∧ Pv i σ H, ⟨xs.length, rfl, h0⟩, ?_⟩
  rintro i m σ H ⟨hm, p⟩
  have q := hl i σ H (by omega) p
  cases m with
  | zero =>
    have e : i = xs.length := by omega
    subst e
    exact .inl ⟨⟨xs, q, Nat.le_refl _⟩, hd σ H p⟩
  | succ m =>
    have lt : i < xs.length := by omega
    refine .inr ⟨⟨xs, xs[i], q, by simp [lt]⟩, Pv (i + 1), fun σ' H' p' => ⟨m, Nat.lt_succ_self m, by omega, p'⟩, ?_⟩
    rintro v H' ⟨T, x, rfl, nT, rfl, hx⟩
    exact hs i x T σ H (hx xs q) p nT
theorem op_catAK {X : Cx} {K : PySem.W.Frag} (h : X.K = K) : OpR X (binaryOp .Add) (rCatA K) := by
  subst h
  exact op_catA
def spCells (d : Nat) : Sp := fun vs H Q _ => ∃ (v : V) (t : Tr), vs = [v] ∧ OAt H v t ∧ t.dep ≤ d ∧ t.sz ≤ 100000 ∧ ∀ (p : Addr) (xs : List V) (H' : Hp), Same H H' → H p = none → H' p = some (.lst xs) → CAt H' xs (cellsT t) → Q (.ref p) H'
section
variable {P : Program} {w : World} {K : PySem.W.Frag} {mg : Str → Option Value} {base : Heap} {C fE : Addr}

abbrev sLcells : Stmt := top 19
abbrev NLcells : List Str := ["_law_value", "_law_found", "_law_k", "_law_part", "_law_place", "_law_one"]
abbrev PLcells : List Str := ["_law_value"]
theorem scLcells : FnScope NLcells PLcells (defScope sLcells) := ⟨rfl, rfl, rfl, by decide +kernel, rfl, by decide +kernel, by decide +kernel⟩

theorem ok_cells {f : Addr} {fd : FuncData} (F_law_cells : Fun K "_law_cells" "_law_cells" sLcells f fd) (T : VTxt mg) (hen : mg "enumerate" = none) (b_law_cells : Binds K fd ["_law_value"] []) (g_law_cells : mg "_law_cells" = some (.ref f)) : ∀ d : Nat, FnOk P w K mg base CX0 (d + 1) f fd PLcells (spCells d)
  | 0 => by
    refine F_law_cells.ok scLcells (fun vs H Q E h => ?_) (fun cdv A outer s H vs Q E hr h => ?_)
    · obtain ⟨v, t, rfl, _⟩ := h
      rfl
    · obtain ⟨v, t, rfl, _, hd, _⟩ := h
      exact absurd t.dep_pos (by omega)
  | d + 1 => by
    have G_law_cells := ok_cells F_law_cells T hen b_law_cells g_law_cells d
    refine F_law_cells.ok scLcells (fun vs H Q E h => ?_) (fun cdv A outer s H vs Q E hr h => ?_)
    · obtain ⟨v, t, rfl, _⟩ := h
      rfl
    · obtain ⟨v, t, rfl, hv, hd, hz, k⟩ := h
      have hr1 := hr
      refine ⟨_, (pss_cons (ps_set (i := 1) scLcells.nd rfl (Or.inl rfl) (pe_lst (pa_cons (pe_tup (pa_cons (pe_tup pa_nil) (pa_cons (pv 0) pa_nil))) pa_nil)))
      (pss_cons (ps_if (pt_not (pt_val (pe_callB call_isi (by rfl) T.isinstance (by decide +kernel) (pa_cons (pv 0) (pa_cons (pe_bltn (v := .ty "int") (by rfl) T.int (by decide +kernel) rfl) pa_nil)))))
      (pss_one (ps_for PassesOwn.never rfl (pi_enum (by rfl) hen (pa_cons (pe_ix ix_tup (pv 0) pe_int (fun _ _ => rfl)) pa_nil)) (pg_tup (by rfl) (pgs_cons (pg_name (i := 2) scLcells.nd rfl (Or.inr rfl)) (pgs_cons (pg_name (i := 3) scLcells.nd rfl (Or.inl rfl)) pgs_nil)))
      (pss_one (ps_set (i := 1) scLcells.nd rfl (Or.inl rfl) (pe_op op_cat (pv 1) (pe_lc (own := [("_law_place", 4), ("_law_one", 5)]) (g := (gTup K 2 (gCons (gName 4) (gCons (gName 5) gNil)))) rfl scLcells.nd (pi_list (pe_call G_law_cells hr1 rfl g_law_cells F_law_cells.kp b_law_cells .nil pass0 (pa_cons (pv 3) pa_nil))) (blkOk_by (own := [("_law_place", 4), ("_law_one", 5)]) (N := NLcells) (sc := defScope sLcells) (by decide +kernel)) (fun _ _ _ _ _ => (pg_tup (by rfl) (pgs_cons (pg_name (i := 4) scLcells.nd rfl (Or.inl rfl)) (pgs_cons (pg_name (i := 5) scLcells.nd rfl (Or.inl rfl)) pgs_nil)))) (fun _ _ _ _ _ => pts_nil) (fun _ _ _ _ _ => (pe_tup (pa_cons (pe_op (op_catAK (K := K) rfl) (pe_tup (pa_cons (pv 2) pa_nil)) (pv 4)) (pa_cons (pv 5) pa_nil))))))))))
      pss_nil)
      (pss_one (ps_ret (pv 1))))), ?_⟩
      refine ⟨by show 0 ≤ sizeLine; decide, fun pp np => ⟨v, (by kernel_rfl), by show 2 ≤ sizeLine; decide, fun T0 nT0 => ⟨by show 1 ≤ sizeLine; decide, fun l nl => ?_⟩⟩⟩
      have s1 := same_new (o := .tup []) np
      have e1 := upd_same (H := H) (a := pp) (o := .tup [])
      generalize upd H pp (.tup []) = H1 at s1 e1 nT0 nl ⊢
      have s2 := same_new (o := .tup [.ref pp, v]) nT0
      have e2 := upd_same (H := H1) (a := T0) (o := .tup [.ref pp, v])
      replace e1 := s2 _ _ e1
      have S2 := s1.trans s2
      generalize upd H1 T0 (.tup [.ref pp, v]) = H2 at S2 e1 e2 nl ⊢
      have nlH : H l = none := by
        cases e : H l with
        | none => rfl
        | some o => rw [S2 _ _ e] at nl; cases nl
      have s3 := same_new (o := .lst [.ref T0]) nl
      have e3 := upd_same (H := H2) (a := l) (o := .lst [.ref T0])
      replace e1 := s3 _ _ e1
      replace e2 := s3 _ _ e2
      have S3 := S2.trans s3
      generalize upd H2 l (.lst [.ref T0]) = H3 at S3 e1 e2 e3 ⊢
      have c0 : CAt H3 [.ref T0] [([], t)] := .cons ⟨T0, pp, v, rfl, e2, e1, hv.same S3⟩ .nil
      cases hv with
      | num i =>
        refine ⟨.int i, (by kernel_rfl), _, _, _, _, true, rfl, .ty "int", .base (.int i), kit_ty (by decide +kernel), _, rfl, ?_⟩
        refine ite_no rfl ?_
        exact ⟨.ref l, (by kernel_rfl), k l _ H3 S3 nlH e3 c0⟩
      | @mk T1 lx m xs ts eT el hx =>
        refine ⟨.ref T1, (by kernel_rfl), _, _, _, _, false, rfl, .ty "int", .base (.tup (S3 _ _ eT)), kit_ty (by decide +kernel), _, rfl, ?_⟩
        refine ite_yes rfl ?_
        refine ⟨.ref T1, (by kernel_rfl), T1, _, 1, .ref lx, rfl, rfl, SqT.of (S3 _ _ eT), rfl, lx, xs, rfl, SqL.of (S3 _ _ el), ?_⟩
        have lxs := hx.len
        have szt : (Tr.mk m ts).sz = 1 + Tr.szL ts := by simp [Tr.sz]
        have dpt : (Tr.mk m ts).dep = 1 + Tr.depL ts := by simp [Tr.dep]
        refine for_enumL (K := K) (a := lx) (xs := xs) (fun i σ H' => ∃ (l1 : Addr) (fs : List V) (v2 v3 : Option V), σ = [some (.ref T1), some (.ref l1), v2, v3, none, none] ∧ H l1 = none ∧ H' l1 = some (.lst fs) ∧ CAt H' fs (([], Tr.mk m ts) :: cellsL 0 (ts.take i)) ∧ Same H H')
          ⟨l, _, none, none, rfl, nlH, e3, c0, S3⟩ (fun i σ H' _ ⟨_, _, _, _, _, _, _, _, S⟩ => SqL.of (S _ _ el)) ?_ ?_
        · rintro i x Tn σ H4 hi ⟨l1, fs, v2, v3, rfl, nl1, hl1, hc, S⟩ nTn
          have s4 := same_new (o := .tup [.int (i : Nat), x]) nTn
          have e4 := upd_same (H := H4) (a := Tn) (o := .tup [.int (i : Nat), x])
          have S4 := S.trans s4
          replace hl1 := s4 _ _ hl1
          replace hc := hc.same s4
          generalize upd H4 Tn (.tup [.int (i : Nat), x]) = H5 at S4 e4 hl1 hc ⊢
          obtain ⟨u, hu, hxu⟩ := (hx.same S4).at hi
          have mu : u ∈ ts := List.mem_of_getElem? hu
          have d1 := depL_mem mu
          have z1 := szL_mem mu
          refine ⟨Tn, [.int (i : Nat), x], rfl, SqT.of e4, rfl, .int (i : Nat), [x], rfl, x, [], rfl, rfl, ?_⟩
          refine ⟨.ref l1, (by kernel_rfl), x, (by kernel_rfl), x, u, rfl, hxu, by omega, by omega, fun p ys H6 S6 np' hp hcs => ?_⟩
          refine ⟨p, rfl, ⟨_, SqL.of hp⟩, ?_⟩
          intro D nD
          have lcs := Paired.length hcs
          rw [cells_len] at lcs
          refine lc_list (K := K) (a := p) (xs := ys) (fun j H' => ∃ gs : List V, H' D = some (.lst gs) ∧ (∃ G : Hp, Same H6 G ∧ G D = none ∧ Same G H' ∧ CAt G gs (((cellsT u).take j).map fun c => (i :: c.1, c.2)))) ⟨[], upd_same, H6, fun _ _ e => e, nD, same_new nD, .nil⟩ (fun j H' _ ⟨_, _, G, s, _, s', _⟩ => SqL.of (s' _ _ (s _ _ hp))) ?_ ?_
          · rintro j y H7 hj ⟨gs, hD, G, s6, gD, s7, hgs⟩
            obtain ⟨c, hc', Tc, pc, yc, rfl, eTc, epc, ho⟩ := paired_at hcs hj
            have lj := (List.getElem?_eq_some_iff.mp hj).1
            have e67 := s6.trans s7
            refine ⟨Tc, [.ref pc, yc], rfl, SqT.of (e67 _ _ eTc), rfl, .ref pc, [yc], rfl, yc, [], rfl, rfl, rfl, ?_⟩
            refine ⟨.int (i : Nat), (by kernel_rfl), by show 1 ≤ sizeLine; decide, fun t1 nt1 => ?_⟩
            have sA := same_new (o := .tup [.int (i : Nat)]) nt1
            have mc := List.mem_of_getElem? hc'
            have lc := cells_plen u c mc
            have lpl : (plV c.1).length ≤ 100000 := by rw [List.length_map]; omega
            refine ⟨.ref pc, (by kernel_rfl), rCatA_of upd_same (sA _ _ (e67 _ _ epc)) (sz_of (by simp only [List.length_singleton]; omega)) fun pn H8 s8 hpn => ?_⟩
            refine ⟨yc, (by kernel_rfl), by show 2 ≤ sizeLine; decide, fun t2 nt2 => ?_⟩
            have s9 := same_new (o := .tup [.ref pn, yc]) nt2
            have e9 := upd_same (H := H8) (a := t2) (o := .tup [.ref pn, yc])
            have s79 := (sA.trans s8).trans s9
            have hpn9 : upd H8 t2 (.tup [.ref pn, yc]) pn = some (.tup (plV (i :: c.1))) := s9 _ _ hpn
            clear hpn s8 nt2 s9 sA nt1
            generalize upd H8 t2 (.tup [.ref pn, yc]) = H9 at e9 s79 hpn9 ⊢
            have hD9 := s79 _ _ hD
            have lg := Paired.length hgs
            rw [List.length_map, List.length_take] at lg
            refine ⟨gs, hD9, Nat.lt_of_le_of_lt (show gs.length ≤ 1000000 by omega) (by decide), ?_⟩
            have sG := hide_same (s7.trans s79) gD
            refine ⟨gs ++ [.ref t2], upd_same, hide H9 D, s6.trans sG, if_pos rfl, hide_upd, ?_⟩
            have e1 : ((cellsT u).take (j + 1)).map (fun c => (i :: c.1, c.2)) = ((cellsT u).take j).map (fun c => (i :: c.1, c.2)) ++ [(i :: c.1, c.2)] := by
              rw [List.take_add_one, hc', List.map_append]
              rfl
            rw [e1]
            exact paired_snoc ⟨t2, pn, yc, rfl, (hide_ne (ne_of e9 hD9 (by intro z; cases z))).trans e9, (hide_ne (ne_of hpn9 hD9 (by intro z; cases z))).trans hpn9, ho.same (s6.trans sG)⟩ (hgs.same sG)
          · rintro H7 ⟨gs, hD, G, s6, gD, s7, hgs⟩
            rw [lcs, ← cells_len u, List.take_length] at hgs
            have e67 := s6.trans s7
            have hl7 := e67 _ _ (S6 _ _ hl1)
            have lf := Paired.length hc
            have lg := Paired.length hgs
            rw [List.length_cons, cellsL_len] at lf
            rw [List.length_map, cells_len] at lg
            have ltk : Tr.szL (ts.take i) ≤ Tr.szL ts := by
              have q := szL_app (ts.take i) (ts.drop i)
              rw [List.take_append_drop] at q
              omega
            refine ⟨l1, D, fs, gs, rfl, rfl, hl7, hD, sz_of (by omega), fun r nr => ?_⟩
            have S7 := (S4.trans S6).trans e67
            have nrH : H r = none := by
              cases e : H r with
              | none => rfl
              | some o => rw [S7 _ _ e] at nr; cases nr
            have li := (List.getElem?_eq_some_iff.mp hu).1
            have e1 : ts.take (i + 1) = ts.take i ++ [u] := by rw [List.take_add_one, hu]; rfl
            refine ⟨r, fs ++ gs, _, _, rfl, nrH, upd_same, ?_, S7.trans (same_new nr)⟩
            rw [e1, cellsL_snoc, List.length_take, Nat.min_eq_left (by omega), Nat.zero_add, ← List.cons_append]
            exact CAt.same (H := H7) (paired_app ((hc.same S6).same e67) (hgs.same s7)) (same_new nr)
        · rintro σ H4 ⟨l1, fs, v2, v3, rfl, nl1, hl1, hc, S⟩
          rw [lxs, List.take_length] at hc
          exact ⟨.ref l1, (by kernel_rfl), k l1 fs H4 S nl1 hl1 hc⟩
end
end Nm
namespace Nm
open PySem PySem.Spec PyProof.Rows L2
/-! ### the law's own value with another part -/
theorem dpAll_ints {K : PySem.W.Frag} {H : Hp} : ∀ ns : List Nat, DpAll K H (plV ns) (ns.map fun (n : Nat) => PyData.int (n : Int))
  | [] => .nil
  | n :: r => .cons (.int _) (dpAll_ints r)
theorem canLay_ints : ∀ ns : List Nat, PyData.canLayAll0 (ns.map fun (n : Nat) => PyData.int (n : Int)) = true ∧ PyData.depthAll (ns.map fun (n : Nat) => PyData.int (n : Int)) = 0
  | [] => ⟨rfl, rfl⟩
  | n :: r => by
    obtain ⟨h1, h2⟩ := canLay_ints r
    exact ⟨by simp [PyData.canLayAll0, PyData.canLay0, h1], by simp [PyData.depthAll, PyData.depth, h2]⟩
def dPl (ns : List Nat) : PyData := .tuple (ns.map fun (n : Nat) => PyData.int (n : Int))
theorem dp_pl {K : PySem.W.Frag} {H : Hp} {q : Addr} {ns : List Nat} (h : H q = some (.tup (plV ns))) : Dp K H (.ref q) (dPl ns) := .tup (SqT.of h) (dpAll_ints ns)
theorem shaped_pl (ns : List Nat) : SeqAt.shaped (dPl ns) = true := by
  obtain ⟨h1, h2⟩ := canLay_ints ns
  simp [dPl, SeqAt.shaped, PyData.canLay0, PyData.depth, h1, h2]
theorem OAts.set {H : Hp} : ∀ {xs : List V} {ts : List Tr} (k : Nat) {y : V} {u : Tr}, OAts H xs ts → OAt H y u → OAts H (xs.set k y) (ts.set k u)
  | _, _, _, _, _, .nil, _ => .nil
  | _, _, 0, _, _, .cons _ r, h => .cons h r
  | _, _, k + 1, _, _, .cons h0 r, h => .cons h0 (OAts.set k r h)
theorem atI0 {α : Type} {c : α} {r : List α} : atI (c :: r) 0 = some c := atI_nat (by rfl)
def spLput (n : Nat) : Sp := fun vs H Q _ => ∃ (v x : V) (q : Addr) (t c : Tr) (ns : List Nat) (B : Hp), vs = [v, .ref q, x] ∧ Same B H ∧ H q = some (.tup (plV ns)) ∧ OAt B v t ∧ OAt B x c ∧ wayL t ns ≠ none ∧ ns.length < n ∧
  ∀ (y : V) (H' G : Hp), Same H H' → Same B G → Same G H' → (∀ a, B a = none → H a ≠ none → G a = none) → OAt G y (putT t ns c) → Q y H'
section
variable {P : Program} {w : World} {K : PySem.W.Frag} {mg : Str → Option Value} {base : Heap} {C fE : Addr}

abbrev sLput : Stmt := top 20
abbrev NLput : List Str := ["_law_value", "_law_place", "_law_part", "_law_parts"]
abbrev PLput : List Str := ["_law_value", "_law_place", "_law_part"]
theorem scLput : FnScope NLput PLput (defScope sLput) := ⟨rfl, rfl, rfl, by decide +kernel, rfl, by decide +kernel, by decide +kernel⟩

theorem ok_lput {f : Addr} {fd : FuncData} (F_law_put : Fun K "_law_put" "_law_put" sLput f fd) (T : VTxt mg) (b_law_put : Binds K fd ["_law_value", "_law_place", "_law_part"] []) (g_law_put : mg "_law_put" = some (.ref f)) : ∀ n : Nat, FnOk P w K mg base CX0 (n + 1) f fd PLput (spLput n)
  | 0 => by
    refine F_law_put.ok scLput (fun vs H Q E h => ?_) (fun cdv A outer s H vs Q E hr h => ?_)
    · obtain ⟨v, x, q, t, c, ns, B, rfl, _⟩ := h
      rfl
    · obtain ⟨v, x, q, t, c, ns, B, rfl, _, _, _, _, _, hn, _⟩ := h
      exact absurd hn (Nat.not_lt_zero _)
  | n + 1 => by
    have G_law_put := ok_lput F_law_put T b_law_put g_law_put n
    refine F_law_put.ok scLput (fun vs H Q E h => ?_) (fun cdv A outer s H vs Q E hr h => ?_)
    · obtain ⟨v, x, q, t, c, ns, B, rfl, _⟩ := h
      rfl
    · obtain ⟨v, x, q, t, c, ns, B, rfl, SB, hq, hv, hx, hw, hn, k⟩ := h
      have hr1 := hr
      refine ⟨_, (pss_cons (ps_if (pt_cmpR (op_eqD hr.units) (pv 1) (pe_tup pa_nil) (nomark _))
      (pss_one (ps_ret (pv 2)))
      pss_nil)
      (pss_cons (ps_set (i := 3) scLput.nd rfl (Or.inl rfl) (pe_callTy call_list_of (by rfl) T.list (by decide +kernel) (pa_cons (pe_ix ix_tup (pv 0) pe_int (fun _ _ => rfl)) pa_nil)))
      (pss_cons (ps_asg (pe_call G_law_put hr1 rfl g_law_put F_law_put.kp b_law_put .nil pass0 (pa_cons (pe_ix ix_list (pv 3) (pe_ix ix_tup (pv 1) pe_int (fun _ _ => rfl)) (fun _ _ => rfl)) (pa_cons (pe_slice sl_tupA (pv 1) (po_some pe_int) po_none) (pa_cons (pv 2) pa_nil)))) (pg_sub (pv 3) (pe_ix ix_tup (pv 1) pe_int (fun _ _ => rfl)) set_list))
      (pss_one (ps_ret (pe_tup (pa_cons (pe_ix ix_tup (pv 0) pe_int (fun _ _ => rfl)) (pa_cons (pv 3) pa_nil)))))))), ?_⟩
      refine ⟨.ref q, (by kernel_rfl), by show 0 ≤ sizeLine; decide, fun e0 ne0 => ?_⟩
      have s0 := same_new (o := .tup []) ne0
      refine ⟨dPl ns, .tuple [], dp_pl (s0 _ _ hq), .tup (SqT.of upd_same) .nil, shaped_pl ns, by decide +kernel, _, rfl, ?_⟩
      generalize upd H e0 (.tup []) = H1 at s0 ⊢
      cases ns with
      | nil =>
        refine ite_yes rfl ?_
        refine ⟨x, (by kernel_rfl), k x H1 B s0 (fun _ _ e => e) (fun _ _ e => s0 _ _ (SB _ _ e)) (fun a e _ => e) ?_⟩
        exact (show putT t [] c = c from by cases t <;> rfl) ▸ hx
      | cons j r =>
        refine ite_no (by simp [dPl, PyData.eqv, PyData.eqvAll]) ?_
        cases hv with
        | num i => exact absurd (show wayL (.num i) (j :: r) = none from rfl) hw
        | @mk T1 l0 m xs ts eT el hxs =>
          cases etk : ts[j]? with
          | none => exact absurd (show (match ts[j]? with | some c => (wayL c r).map (Tr.mk m ts :: ·) | none => none) = none by rw [etk]) hw
          | some d =>
          have hw2 : wayL d r ≠ none := fun z => hw (show (match ts[j]? with | some c => (wayL c r).map (Tr.mk m ts :: ·) | none => none) = none by rw [etk]; show (wayL d r).map _ = none; rw [z]; rfl)
          have SB1 : Same B H1 := fun _ _ e => s0 _ _ (SB _ _ e)
          refine ⟨.ref T1, (by kernel_rfl), T1, _, 1, .ref l0, rfl, rfl, SqT.of (SB1 _ _ eT), rfl, l0, xs, rfl, .inl (SqL.of (SB1 _ _ el)), fun l nl => ?_⟩
          have s2 := same_new (o := .lst xs) nl
          have e2 := upd_same (H := H1) (a := l) (o := .lst xs)
          have nlB : B l = none := by
            cases e : B l with
            | none => rfl
            | some o => rw [SB1 _ _ e] at nl; cases nl
          have nlH : H l = none := by
            cases e : H l with
            | none => rfl
            | some o => rw [s0 _ _ e] at nl; cases nl
          generalize upd H1 l (.lst xs) = H2 at s2 e2 ⊢
          have hq2 := s2 _ _ (s0 _ _ hq)
          have lx := hxs.len
          have lj := (List.getElem?_eq_some_iff.mp etk).1
          obtain ⟨d', hd', hxd⟩ := hxs.at (List.getElem?_eq_getElem (show j < xs.length by omega))
          obtain rfl : d = d' := Option.some.inj (etk.symm.trans hd')
          have gx := List.getElem?_eq_getElem (show j < xs.length by omega)
          generalize xs[j] = xv at hxd gx
          refine ⟨.ref l, (by kernel_rfl), .ref q, (by kernel_rfl), q, _, 0, .int (j : Int), rfl, rfl, SqT.of hq2, atI0, l, xs, (j : Int), xv, rfl, rfl, SqL.of e2, atI_nat gx, ?_⟩
          refine ⟨.ref q, (by kernel_rfl), 1, rfl, ?_⟩
          unfold tNoPart
          refine rSlA_of hq2 fun p3 H3 s3 h3 => ?_
          rw [show (1 : Int) = ((1 : Nat) : Int) from rfl, cut_drop] at h3
          have S3 := (s0.trans s2).trans s3
          refine ⟨x, (by kernel_rfl), xv, x, p3, d, c, r, B, rfl, fun _ _ e => S3 _ _ (SB _ _ e), h3, hxd, hx, hw2, by simp only [List.length_cons] at hn; omega, fun y H4 G s4 sBG sG ap hy => ?_⟩
          have S4 := S3.trans s4
          have hl4 := s4 _ _ (s3 _ _ e2)
          refine ⟨.ref l, (by kernel_rfl), .ref q, (by kernel_rfl), q, _, 0, .int (j : Int), rfl, rfl, SqT.of (S4 _ _ hq), atI0, l, xs, (j : Int), j, rfl, rfl, hl4, ?_, ?_⟩
          · unfold ixN
            rw [if_pos (by omega), if_pos (by omega)]
            rfl
          have gl : G l = none := ap l nlB (by rw [s3 _ _ e2]; exact fun z => nomatch z)
          have S5 : Same H (upd H4 l (.lst (xs.set j y))) := same_put S4 nlH
          have sG5 : Same G (upd H4 l (.lst (xs.set j y))) := same_put sG gl
          have e5 := upd_same (H := H4) (a := l) (o := .lst (xs.set j y))
          generalize upd H4 l (.lst (xs.set j y)) = H5 at S5 sG5 e5 ⊢
          refine ⟨.ref T1, (by kernel_rfl), T1, _, 0, .str m, rfl, rfl, SqT.of (sG5 _ _ (sBG _ _ eT)), rfl, .ref l, (by kernel_rfl), by show 2 ≤ sizeLine; decide, fun T2 nT2 => ?_⟩
          have fr : ∀ {X : Hp}, Same X H5 → X T2 = none := fun {X} s => by
            cases e : X T2 with
            | none => rfl
            | some o => rw [s _ _ e] at nT2; cases nT2
          have s6 := same_new (o := .tup [.str m, .ref l]) nT2
          have gT := fr sG5
          have lT : l ≠ T2 := fun z => by rw [z, nT2] at e5; cases e5
          have g1 : Same G (upd (upd G l (.lst (xs.set j y))) T2 (.tup [.str m, .ref l])) := fun b o e => by
            rw [upd_ne (ne_of_none e gT), upd_ne (ne_of_none e gl)]
            exact e
          have ep : putT (Tr.mk m ts) (j :: r) c = .mk m (ts.set j (putT d r c)) := by
            show (match ts[j]? with | some d => Tr.mk m (ts.set j (putT d r c)) | none => Tr.mk m ts) = _
            rw [etk]
          rw [ep] at k
          refine k _ _ _ (S5.trans s6) (fun b o e => g1 _ _ (sBG _ _ e)) (fun b o e => ?_) (fun a hB hH => ?_) (.mk upd_same (by rw [upd_ne lT, upd_same]) ((((hxs.same sBG).set j hy)).same g1))
          · by_cases q1 : b = T2
            · rw [q1, upd_same] at e
              rw [q1, upd_same, Option.some.inj e]
            · rw [upd_ne q1] at e
              rw [upd_ne q1]
              by_cases q2 : b = l
              · rw [q2, upd_same] at e
                rw [q2, e5, Option.some.inj e]
              · rw [upd_ne q2] at e
                exact sG5 _ _ e
          · rw [upd_ne (fun (z : a = T2) => hH (z ▸ fr S5)), upd_ne (fun (z : a = l) => hH (z ▸ nlH))]
            refine ap a hB fun z => hH ?_
            cases e : H a with
            | none => rfl
            | some o => rw [S3 _ _ e] at z; cases z
end
end Nm
namespace Nm
open PySem PySem.Spec PyProof.Rows L2
/-! ### the law's own values as data -/
mutual
def dOf : Tr → PyData
  | .num i => .int i
  | .mk m ts => .tuple [.str m, .list (dOfs ts)]
def dOfs : List Tr → List PyData
  | [] => []
  | t :: r => dOf t :: dOfs r
end
mutual
theorem dp_own {K : PySem.W.Frag} {H : Hp} : ∀ {t : Tr} {v : V}, OAt H v t → Dp K H v (dOf t)
  | .num _, _, .num i => .int i
  | .mk _ _, _, .mk eT el h => .tup (SqT.of eT) (.cons (.str _) (.cons (.lst (SqL.of el) (dps_own h)) .nil))
theorem dps_own {K : PySem.W.Frag} {H : Hp} : ∀ {ts : List Tr} {xs : List V}, OAts H xs ts → DpAll K H xs (dOfs ts)
  | [], _, .nil => .nil
  | _ :: _, _, .cons h r => .cons (dp_own h) (dps_own r)
end
mutual
theorem canLay_own : ∀ t : Tr, t.ok → (dOf t).canLay0 = true ∧ (dOf t).depth ≤ 2 * t.dep
  | .num _, _ => ⟨rfl, Nat.zero_le _⟩
  | .mk m ts, h => by
    obtain ⟨h1, h2⟩ := canLay_owns ts h.2.2
    have h0 := h.1
    refine ⟨by simp [dOf, PyData.canLay0, PyData.canLayAll0, h0, h1], ?_⟩
    simp only [dOf, PyData.depth, PyData.depthAll, Tr.dep]
    omega
theorem canLay_owns : ∀ ts : List Tr, Tr.okL ts → PyData.canLayAll0 (dOfs ts) = true ∧ PyData.depthAll (dOfs ts) ≤ 2 * Tr.depL ts
  | [], _ => ⟨rfl, Nat.zero_le _⟩
  | t :: r, h => by
    obtain ⟨h1, h2⟩ := canLay_own t h.1
    obtain ⟨h3, h4⟩ := canLay_owns r h.2
    refine ⟨by simp [dOfs, PyData.canLayAll0, h1, h3], ?_⟩
    simp only [dOfs, PyData.depthAll, Tr.depL]
    omega
end
theorem shaped_own {t : Tr} (h : t.ok) (d : t.dep ≤ 30) : SeqAt.shaped (dOf t) = true := by
  obtain ⟨h1, h2⟩ := canLay_own t h
  unfold SeqAt.shaped
  rw [h1, decide_eq_true (by omega)]
  rfl
mutual
theorem eqv_own : ∀ t u : Tr, PyData.eqv (dOf t) (dOf u) = decide (t = u)
  | .num i, .num j => by
    show (i == j) = _
    by_cases h : i = j
    · rw [h, decide_eq_true rfl]
      simp
    · rw [decide_eq_false (fun z => h (Tr.num.inj z))]
      simp [h]
  | .num _, .mk _ _ => by
    rw [decide_eq_false (by intro z; cases z)]
    simp [dOf, PyData.eqv]
  | .mk _ _, .num _ => by
    rw [decide_eq_false (by intro z; cases z)]
    simp [dOf, PyData.eqv]
  | .mk m ts, .mk m' us => by
    have ih := eqvs_own ts us
    by_cases h : m = m'
    · by_cases h2 : ts = us
      · rw [decide_eq_true (by rw [h, h2])]
        rw [decide_eq_true h2] at ih
        simp [dOf, PyData.eqv, PyData.eqvAll, h, ih]
      · rw [decide_eq_false (fun z => h2 (Tr.mk.inj z).2)]
        rw [decide_eq_false h2] at ih
        simp [dOf, PyData.eqv, PyData.eqvAll, ih]
    · rw [decide_eq_false (fun z => h (Tr.mk.inj z).1)]
      simp [dOf, PyData.eqv, PyData.eqvAll, h]
theorem eqvs_own : ∀ ts us : List Tr, PyData.eqvAll (dOfs ts) (dOfs us) = decide (ts = us)
  | [], [] => by simp [dOfs, PyData.eqvAll]
  | [], _ :: _ => by simp [dOfs, PyData.eqvAll]
  | _ :: _, [] => by simp [dOfs, PyData.eqvAll]
  | t :: r, u :: s => by
    have h1 := eqv_own t u
    have h2 := eqvs_own r s
    simp only [dOfs, PyData.eqvAll, h1, h2]
    by_cases e1 : t = u
    · by_cases e2 : r = s
      · simp [e1, e2]
      · simp [e1, e2]
    · simp [e1]
end
end Nm
namespace Nm
open PySem PySem.Spec PyProof.Rows L2
/-! ### before the law: parts and changes of a tree -/
theorem depL_get {ts : List Tr} {k : Nat} {c : Tr} (e : ts[k]? = some c) : c.dep ≤ Tr.depL ts := depL_mem (List.mem_of_getElem? e)
theorem okL_get : ∀ {ts : List Tr} {k : Nat} {c : Tr}, ts[k]? = some c → Tr.okL ts → c.ok
  | [], _, _, e, _ => by simp at e
  | t :: r, 0, c, e, h => by
    simp at e
    subst e
    exact h.1
  | t :: r, k + 1, c, e, h => okL_get (k := k) (by simpa using e) h.2
theorem at_sub : ∀ (ns : List Nat) (t c : Tr), atT t ns = some c → c.dep ≤ t.dep ∧ c.sz ≤ t.sz ∧ (t.ok → c.ok)
  | [], t, c, h => by
    obtain rfl := Option.some.inj h
    exact ⟨Nat.le_refl _, Nat.le_refl _, id⟩
  | k :: r, t, c, h => by
    unfold atT at h
    cases e : t.parts[k]? with
    | none => rw [e] at h; cases h
    | some d =>
      rw [e] at h
      obtain ⟨h1, h2, h3⟩ := at_sub r d c h
      cases t with
      | num i => simp [Tr.parts] at e
      | mk m ts =>
        have e' : ts[k]? = some d := e
        have d1 := depL_get e'
        have z1 := szL_get _ _ _ e'
        refine ⟨?_, ?_, fun ok => h3 (okL_get e' ok.2.2)⟩
        · simp only [Tr.dep]; omega
        · simp only [Tr.sz]; omega
theorem way_of_at : ∀ (ns : List Nat) (t c : Tr), atT t ns = some c → ∃ ws, wayL t ns = some ws := fun ns t c h => by
  cases e : wayL t ns with
  | none => rw [wayL_none _ _ e] at h; cases h
  | some ws => exact ⟨ws, rfl⟩
theorem way_off {ns : List Nat} {t c : Tr} {k : Nat} (h : atT t ns = some c) (e : c.parts[k]? = none) (r : List Nat) : wayL t (ns ++ k :: r) = none := by
  obtain ⟨ws, hw⟩ := way_of_at _ _ _ h
  obtain ⟨vs, d, rfl, hd, _⟩ := wayL_last _ _ _ hw
  obtain rfl : c = d := Option.some.inj (h.symm.trans hd)
  have q := wayL_snoc ns t vs c k hw
  rw [e] at q
  have z := wayL_cut (ns ++ [k]) r t q
  rw [List.append_assoc] at z
  exact z
theorem depL_set : ∀ (ts : List Tr) (k : Nat) (u : Tr) (n : Nat), Tr.depL ts ≤ n → u.dep ≤ n → Tr.depL (ts.set k u) ≤ n
  | [], _, _, _, h, _ => h
  | t :: r, 0, u, n, h, k => by
    simp only [Tr.depL] at h
    show max u.dep (Tr.depL r) ≤ n
    omega
  | t :: r, j + 1, u, n, h, k => by
    simp only [Tr.depL] at h
    have ih := depL_set r j u n (by omega) k
    show max t.dep (Tr.depL (r.set j u)) ≤ n
    omega
theorem szL_set : ∀ (ts : List Tr) (k : Nat) (c u : Tr), ts[k]? = some c → Tr.szL (ts.set k u) + c.sz = Tr.szL ts + u.sz
  | [], _, _, _, e => by simp at e
  | t :: r, 0, c, u, e => by
    simp at e
    subst e
    show u.sz + Tr.szL r + t.sz = t.sz + Tr.szL r + u.sz
    omega
  | t :: r, k + 1, c, u, e => by
    have ih := szL_set r k c u (by simpa using e)
    show t.sz + Tr.szL (r.set k u) + c.sz = t.sz + Tr.szL r + u.sz
    omega
theorem okL_set : ∀ (ts : List Tr) (k : Nat) (u : Tr), Tr.okL ts → u.ok → Tr.okL (ts.set k u)
  | [], _, _, h, _ => h
  | _ :: _, 0, _, h, k => ⟨k, h.2⟩
  | _ :: r, j + 1, u, h, k => ⟨h.1, okL_set r j u h.2 k⟩
theorem put_le : ∀ (ns : List Nat) (t c : Tr), (putT t ns c).dep ≤ t.dep + c.dep ∧ (putT t ns c).sz ≤ t.sz + c.sz ∧ (t.ok → c.ok → (putT t ns c).ok)
  | [], t, c => by
    have e : putT t [] c = c := by cases t <;> rfl
    rw [e]
    exact ⟨by omega, by omega, fun _ k => k⟩
  | k :: r, .num i, c => ⟨by show 1 ≤ _; simp [Tr.dep], by show 1 ≤ _; simp [Tr.sz], fun h _ => h⟩
  | k :: r, .mk m ts, c => by
    cases e : ts[k]? with
    | none =>
      have q : putT (.mk m ts) (k :: r) c = .mk m ts := by
        show (match ts[k]? with | some d => Tr.mk m (ts.set k (putT d r c)) | none => Tr.mk m ts) = _
        rw [e]
      rw [q]
      exact ⟨by omega, by omega, fun h _ => h⟩
    | some d =>
      have q : putT (.mk m ts) (k :: r) c = .mk m (ts.set k (putT d r c)) := by
        show (match ts[k]? with | some d => Tr.mk m (ts.set k (putT d r c)) | none => Tr.mk m ts) = _
        rw [e]
      rw [q]
      obtain ⟨h1, h2, h3⟩ := put_le r d c
      have d1 := depL_get e
      have d2 := depL_set ts k (putT d r c) (Tr.depL ts + c.dep) (by omega) (by omega)
      have z1 := szL_set ts k d (putT d r c) e
      refine ⟨by simp only [Tr.dep]; omega, by simp only [Tr.sz]; omega, fun h kc => ⟨h.1, by rw [List.length_set]; exact h.2.1, okL_set _ _ _ h.2.2 (h3 (okL_get e h.2.2) kc)⟩⟩
/-- many places, as data -/
theorem dpAll_pls {K : PySem.W.Frag} {H : Hp} : ∀ {pls : List (List Nat)} {xs : List V}, PlsAt H xs pls → DpAll K H xs (pls.map dPl)
  | _, _, .nil => .nil
  | _, _, .cons ⟨T, e, q⟩ t => by
    subst e
    exact .cons (dp_pl q) (dpAll_pls t)
theorem canLay_pls : ∀ pls : List (List Nat), PyData.canLayAll0 (pls.map dPl) = true ∧ PyData.depthAll (pls.map dPl) ≤ 2
  | [] => ⟨rfl, by decide⟩
  | ns :: r => by
    obtain ⟨h1, h2⟩ := canLay_pls r
    obtain ⟨g1, g2⟩ := canLay_ints ns
    have e : (dPl ns).depth ≤ 1 := by
      unfold dPl
      simp only [PyData.depth, g2]
      omega
    refine ⟨by simp [PyData.canLayAll0, dPl, PyData.canLay0, g1]; exact h1, ?_⟩
    show max (dPl ns).depth (PyData.depthAll (r.map dPl)) ≤ 2
    omega
theorem shaped_pls (pls : List (List Nat)) : SeqAt.shaped (.tuple (pls.map dPl)) = true := by
  obtain ⟨h1, h2⟩ := canLay_pls pls
  have e : (PyData.tuple (pls.map dPl)).depth ≤ 64 := by
    simp only [PyData.depth]
    omega
  show (PyData.canLayAll0 (pls.map dPl) && decide _) = true
  rw [h1, decide_eq_true e]
  rfl
/-- what stands, through the pen's heap -/
theorem PS.v {H0 H : Hp} {p C : Addr} {n : Int} {z y : Pen} {v : V} {t : Tr} (s : PS H0 p n H z) (hp : PenAt H0 p y) (h : VAt C H0 v t) : VAt C H v t :=
  h.mono (fun a dx fs q => s.keep _ _ (ne_of q hp.at_ (by intro z; cases z)) q) fun a xs q => s.keep _ _ (ne_of q hp.at_ (by intro z; cases z)) q
theorem PS.o {H0 H : Hp} {p : Addr} {n : Int} {z y : Pen} {v : V} {t : Tr} (s : PS H0 p n H z) (hp : PenAt H0 p y) (h : OAt H0 v t) : OAt H v t :=
  h.mono (fun a xs q => s.keep _ _ (ne_of q hp.at_ (by intro z; cases z)) q) fun a xs q => s.keep _ _ (ne_of q hp.at_ (by intro z; cases z)) q
end Nm
namespace Nm
open PySem PySem.Spec PyProof.Rows L2
/-! ### the chain of two thousand cells -/
def chainT (b : Tr) : Nat → Tr
  | 0 => b
  | n + 1 => .mk "Cons" [.num (n : Int), chainT b n]
abbrev ones (n : Nat) : List Nat := List.replicate n 1
theorem chain_sz (b : Tr) : ∀ n, (chainT b n).sz = 2 * n + b.sz
  | 0 => by simp [chainT]
  | n + 1 => by
    have ih := chain_sz b n
    simp only [chainT, Tr.sz, Tr.szL, ih]
    omega
theorem chain_at (b : Tr) (m : Nat) : ∀ n, atT (chainT b (m + n)) (ones n) = some (chainT b m)
  | 0 => rfl
  | n + 1 => chain_at b m n
theorem chain_at0 (b : Tr) (n : Nat) : atT (chainT b n) (ones n) = some b := by
  have h := chain_at b 0 n
  rw [Nat.zero_add] at h
  exact h
theorem chain_off (b : Tr) (hb : b.parts = []) : ∀ n, atT (chainT b n) (ones n ++ [0]) = none
  | 0 => by
    show (match b.parts[0]? with | some c => atT c [] | none => none) = none
    rw [hb]
    rfl
  | n + 1 => chain_off b hb n
theorem chain_way (b : Tr) : ∀ n, wayL (chainT b n) (ones n) ≠ none
  | 0 => by intro z; cases z
  | n + 1 => by
    intro z
    have h : (wayL (chainT b n) (ones n)).map (chainT b (n + 1) :: ·) = none := z
    exact chain_way b n (Option.map_eq_none_iff.mp h)
theorem chain_put (b c : Tr) : ∀ n, putT (chainT b n) (ones n) c = chainT c n
  | 0 => by show putT b [] c = c; cases b <;> rfl
  | n + 1 => by
    show Tr.mk "Cons" (([.num (n : Int), chainT b n] : List Tr).set 1 (putT (chainT b n) (ones n) c)) = _
    rw [chain_put b c n]
    rfl
theorem chain_inj (b c : Tr) : ∀ n, chainT b n = chainT c n → b = c
  | 0, h => h
  | n + 1, h => chain_inj b c n (by
      have z := (Tr.mk.inj h).2
      exact (List.cons.inj (List.cons.inj z).2).1)
theorem chain_pl (b : Tr) (n : Nat) : plT (chainT b (n + 1)) = [] :: [0] :: (plT (chainT b n)).map (1 :: ·) := by
  simp [chainT, plT, plL]
theorem chain_last (b : Tr) (hb : plT b = [[]]) : ∀ n, ∃ vs, plT (chainT b n) = vs ++ [ones n]
  | 0 => ⟨[], hb⟩
  | n + 1 => by
    obtain ⟨vs, e⟩ := chain_last b hb n
    refine ⟨[] :: [0] :: vs.map (1 :: ·), ?_⟩
    rw [chain_pl, e]
    simp [List.replicate_succ]
def spChain : Sp := fun vs H Q _ => ∃ (p : Addr) (z : Pen), vs = [.ref p] ∧ PenAt H p z ∧ z.c ≤ 1000000 ∧ ∀ H', Q (.bl true) H'
section
variable {P : Program} {w : World} {K : PySem.W.Frag} {mg : Str → Option Value} {base : Heap} {C fE : Addr}

abbrev sLchainright : Stmt := top 22
abbrev NLchainright : List Str := ["_law_pen_here", "_law_many", "_law_value", "_law_place", "_law_last", "_law_k", "_law_other", "_law_told"]
abbrev PLchainright : List Str := ["_law_pen_here"]
theorem scLchainright : FnScope NLchainright PLchainright (defScope sLchainright) := ⟨rfl, rfl, rfl, by decide +kernel, rfl, by decide +kernel, by decide +kernel⟩

theorem ok_chain {f f0 fS fA fV fL fQ fD fW fP fI : Addr} {fd fd0 fdE fdS fdA fdV fdL fdQ fdD fdW fdP fdI : FuncData} (F : Fun K "_law_chain_right" "_law_chain_right" sLchainright f fd) (T : VTxt mg) (PT : PenTxt mg) (MT : MadeTxt K mg C fE) (sO : PySem.W.subIn K (.ref C) (.type "object") = some true) (Mk : Mk K C f0) (F_init : Fun K "__init__" "Made.__init__" sMadeinit f0 fd0) (B_init : Binds K fd0 ["self", "maker", "parts"] [])
    (F_eq : Fun K "__eq__" "Made.__eq__" sMadeeq fE fdE) (B_eq : Binds K fdE ["self", "other"] [])
    (F_parts_of : Fun K "parts_of" "parts_of" spartsof fP fdP) (b_parts_of : Binds K fdP ["value"] []) (g_parts_of : mg "parts_of" = some (.ref fP))
    (F_is_integer : Fun K "is_integer" "is_integer" sisinteger fI fdI) (b_is_integer : Binds K fdI ["value"] []) (g_is_integer : mg "is_integer" = some (.ref fI))
    (F_way_down : Fun K "way_down" "way_down" swaydown fW fdW) (b_way_down : Binds K fdW ["value", "place"] []) (g_way_down : mg "way_down" = some (.ref fW))
    (F_size_of : Fun K "size_of" "size_of" ssizeof fS fdS) (b_size_of : Binds K fdS ["value"] []) (g_size_of : mg "size_of" = some (.ref fS))
    (F_places_of : Fun K "places_of" "places_of" splacesof fL fdL) (b_places_of : Binds K fdL ["value"] []) (g_places_of : mg "places_of" = some (.ref fL))
    (F_part_at : Fun K "part_at" "part_at" spartat fA fdA) (b_part_at : Binds K fdA ["value", "place"] []) (g_part_at : mg "part_at" = some (.ref fA))
    (F_value_with : Fun K "value_with" "value_with" svaluewith fV fdV) (b_value_with : Binds K fdV ["value", "place", "part"] []) (g_value_with : mg "value_with" = some (.ref fV))
    (F_law_draw : Fun K "_law_draw" "_law_draw" sDraw fD fdD) (b_law_draw : Binds K fdD ["_law_pen_here", "_law_many"] []) (g_law_draw : mg "_law_draw" = some (.ref fD))
    (F_law_pick : Fun K "_law_pick" "_law_pick" sPick fQ fdQ) (b_law_pick : Binds K fdQ ["_law_pen_here", "_law_some"] []) (g_law_pick : mg "_law_pick" = some (.ref fQ)) :
    FnOk P w K mg base CX0 4 f fd PLchainright spChain := by
  have G_init : FnOk P w K mg base CX0 2 f0 fd0 PMadeinit (spInit C) := (ok_init F_init T MT).mono (by decide)
  have G_eq : FnOk P w K mg base CX0 1 fE fdE ["self", "other"] (spEqM C) := ok_eq F_eq T MT
  have G_size_of : FnOk P w K mg base CX0 3 fS fdS Psizeof (spSize C) := (ok_size F_size_of T MT F_parts_of b_parts_of g_parts_of).mono (by decide)
  have G_places_of : FnOk P w K mg base CX0 3 fL fdL Pplacesof (spPlaces C) := (ok_places F_places_of T MT F_parts_of b_parts_of g_parts_of).mono (by decide)
  have G_part_at : FnOk P w K mg base CX0 3 fA fdA Ppartat (spAt C) := ok_at F_part_at T MT F_parts_of b_parts_of g_parts_of F_is_integer b_is_integer g_is_integer F_way_down b_way_down g_way_down
  have G_value_with : FnOk P w K mg base CX0 3 fV fdV Pvaluewith (spPut C) := ok_put F_value_with T MT Mk F_init B_init F_parts_of b_parts_of g_parts_of F_is_integer b_is_integer g_is_integer F_way_down b_way_down g_way_down
  have G_law_pick : FnOk P w K mg base CX0 3 fQ fdQ ["_law_pen_here", "_law_some"] (spPick K) := (ok_pick F_law_pick PT F_law_draw b_law_draw g_law_draw).mono (by decide)
  refine F.ok scLchainright (fun vs H Q E h => ?_) (fun cdv A outer s H vs Q E hr h => ?_)
  · obtain ⟨p, z, rfl, _⟩ := h
    rfl
  · obtain ⟨p, z, rfl, Z, hc, k⟩ := h
    have hr1 := hr
    have hrq : Room 1 _ := hr.mono (by decide)
    have hr2 : Room 2 _ := hr.mono (by decide)
    refine ⟨_, (pss_cons (ps_par3 (i := 1) (j := 2) (l := 3) rfl scLchainright.nd rfl rfl rfl (by decide) (by decide) (by decide) rfl rfl rfl (pa_cons pe_int (pa_cons (pe_call G_law_pick hr1 rfl g_law_pick F_law_pick.kp b_law_pick .nil pass0 (pa_cons (pv 0) (pa_cons (pe_lst (pa_cons pe_int (pa_cons (pe_make Mk G_init hr1 rfl MT.gM B_init .nil pass0 (pa_cons pe_str (pa_cons (pe_tup pa_nil) pa_nil))) pa_nil))) pa_nil))) (pa_cons (pe_tup pa_nil) pa_nil))) (by rfl))
      (pss_cons (ps_set (i := 4) scLchainright.nd rfl (Or.inl rfl) (pv 2))
      (pss_cons (ps_for PassesOwn.never rfl (pi_range1 rfl T.range (pa_cons (pv 1) pa_nil)) (pg_name (i := 5) scLchainright.nd rfl (Or.inl rfl))
      (pss_cons (ps_set (i := 2) scLchainright.nd rfl (Or.inl rfl) (pe_make Mk G_init hr1 rfl MT.gM B_init .nil pass0 (pa_cons pe_str (pa_cons (pe_tup (pa_cons (pv 5) (pa_cons (pv 2) pa_nil))) pa_nil))))
      (pss_one (ps_set (i := 3) scLchainright.nd rfl (Or.inl rfl) (pe_op op_catA (pv 3) (pe_tup (pa_cons pe_int pa_nil)))))))
      (pss_cons (ps_if (PW.pt (pw_or (pt_cmpR op_ne (pe_call G_size_of hr1 rfl g_size_of F_size_of.kp b_size_of .nil pass0 (pa_cons (pv 2) pa_nil)) (pe_op op_add (pe_op op_mul pe_int (pv 1)) pe_int) (nomark _)) (pw_or (pt_cmpR (op_neM G_eq B_eq MT sO hr2) (pe_call G_part_at hr1 rfl g_part_at F_part_at.kp b_part_at .nil pass0 (pa_cons (pv 2) (pa_cons (pv 3) pa_nil))) (pv 4) (nomark _)) (pw_or1 (pt_cmpR op_notN (pe_call G_part_at hr1 rfl g_part_at F_part_at.kp b_part_at .nil pass0 (pa_cons (pv 2) (pa_cons (pe_op op_catA (pv 3) (pe_tup (pa_cons pe_int pa_nil))) pa_nil))) pe_non (nomark _))))))
      (pss_one (ps_ret pe_bl))
      pss_nil)
      (pss_cons (ps_set (i := 6) scLchainright.nd rfl (Or.inl rfl) (pe_call G_value_with hr1 rfl g_value_with F_value_with.kp b_value_with .nil pass0 (pa_cons (pv 2) (pa_cons (pv 3) (pa_cons pe_int pa_nil)))))
      (pss_cons (ps_if (PW.pt (pw_or (pt_cmpR (op_neM G_eq B_eq MT sO hr2) (pe_call G_part_at hr1 rfl g_part_at F_part_at.kp b_part_at .nil pass0 (pa_cons (pv 6) (pa_cons (pv 3) pa_nil))) pe_int (nomark _)) (pw_or (pt_cmpR (op_eqM G_eq B_eq MT hrq) (pv 6) (pv 2) (nomark _)) (pw_or1 (pt_cmpR (op_neM G_eq B_eq MT sO hr2) (pe_call G_value_with hr1 rfl g_value_with F_value_with.kp b_value_with .nil pass0 (pa_cons (pv 6) (pa_cons (pv 3) (pa_cons (pv 4) pa_nil)))) (pv 2) (nomark _))))))
      (pss_one (ps_ret pe_bl))
      pss_nil)
      (pss_cons (ps_set (i := 7) scLchainright.nd rfl (Or.inl rfl) (pe_call G_places_of hr1 rfl g_places_of F_places_of.kp b_places_of .nil pass0 (pa_cons (pe_call G_part_at hr1 rfl g_part_at F_part_at.kp b_part_at .nil pass0 (pa_cons (pv 2) (pa_cons (pe_slice sl_tupA (pv 3) po_none (po_some pe_int)) pa_nil))) pa_nil)))
      (pss_one (ps_ret (pe_and (pe_cmpR op_eq (pe_callB call_len_seq (by rfl) T.len PySem.boot_len (pa_cons (pv 7) pa_nil)) pe_int (nomark _)) (pe_and (pe_cmpR (op_eqD hr.units) (pe_ix ix_tup (pv 7) (pe_un un_neg pe_int) (fun _ _ => rfl)) (pe_slice sl_tupA (pv 3) po_none (po_some pe_int)) (nomark _)) (pe_one (pe_cmpR (op_eqD hr.units) (pe_ix ix_tup (pv 7) pe_int (fun _ _ => rfl)) (pe_tup (pa_cons pe_int pa_nil)) (nomark _)))))))))))))), ?_⟩
    -- 2000, the last value, ()
    have start : ∀ (b : Tr) (v : V) (H' : Hp) (e : Addr), VAt C H' v b → b.sz = 1 → b.parts = [] → plT b = [[]] → H' e = some (.tup []) → True := fun _ _ _ _ _ _ _ _ _ => trivial
    refine ⟨.ref p, (by kernel_rfl), ?_⟩
    refine ⟨by show 0 ≤ sizeLine; decide, fun e0 ne0 => ?_⟩
    have s0 := same_new (o := .tup []) ne0
    have h0 := upd_same (H := H) (a := e0) (o := .tup [])
    generalize upd H e0 (.tup []) = H1 at s0 h0 ⊢
    intro x dx n1 n2 n3
    have m1 : Same H1 (upd H1 dx (.own x)) := same_new n2
    have m2 : ∀ o, Same H1 (upd (upd H1 dx (.own x)) x o) := fun o => same_put m1 n1
    refine ⟨x, dx, e0, "Nil", [], rfl, upd_same, m2 _ _ _ h0, rfl, ?_⟩
    rw [upd_upd]
    have hN : VAt C (upd (upd H1 dx (.own x)) x (.ins C dx (mkF "Nil" e0))) (.ref x) (.mk "Nil" []) := .mk upd_same (m2 _ _ _ h0) .nil
    have S2 := s0.trans (m2 (.ins C dx (mkF "Nil" e0)))
    generalize upd (upd H1 dx (.own x)) x (.ins C dx (mkF "Nil" e0)) = H2 at hN S2 ⊢
    refine ⟨by show 2 ≤ sizeLine; decide, fun q nq => ?_⟩
    have s3 := same_new (o := .lst [.int 0, .ref x]) nq
    refine ⟨p, q, z, _, rfl, Z.same (S2.trans s3), upd_same, by show 0 < 2; decide, by show 2 < 1073741824; decide, by omega, fun v z' hv g => ?_⟩
    have hN3 := (hN.same s3).put (o' := .dK z'.kvs) (Z.same (S2.trans s3)).at_ (by intro _ _ z; cases z) (by intro _ z; cases z)
    generalize upd (upd H2 q (.lst [.int 0, .ref x])) p (.dK z'.kvs) = H3 at hN3 ⊢
    obtain ⟨b, hvb, zb, pb, plb, kb⟩ : ∃ b : Tr, VAt C H3 v b ∧ b.sz = 1 ∧ b.parts = [] ∧ plT b = [[]] ∧ b ≠ .num 7 := by
      simp only [List.mem_cons, List.not_mem_nil, or_false] at hv
      rcases hv with rfl | rfl
      · exact ⟨.num 0, .num 0, rfl, rfl, rfl, fun z => by have q := Tr.num.inj z; omega⟩
      · exact ⟨.mk "Nil" [], hN3, rfl, rfl, rfl, by intro z; cases z⟩
    clear hv g hN3 hN S2 s3 Z hc
    refine ⟨by show 0 ≤ sizeLine; decide, fun e1 ne1 => ?_⟩
    have s4 := same_new (o := .tup []) ne1
    have h4 := upd_same (H := H3) (a := e1) (o := .tup [])
    have hv4 := hvb.same s4
    generalize upd H3 e1 (.tup []) = H4 at h4 hv4 ⊢
    refine ⟨.int 2000, v, .ref e1, rfl, ?_⟩
    refine ⟨v, (by kernel_rfl), ?_⟩
    -- the chain
    refine ⟨.int 2000, (by kernel_rfl), 2000, rfl, by decide, by decide, ?_⟩
    refine for_range (fun i σ H' => ∃ (y : V) (qp : Addr) (v5 : Option V), σ = [some (.ref p), some (.int 2000), some y, some (.ref qp), some v, v5, none, none] ∧ VAt C H' y (chainT b i) ∧ H' qp = some (.tup (plV (ones i))) ∧ VAt C H' v b) ⟨v, e1, none, rfl, hv4, h4, hv4⟩ ?_ ?_
    · rintro i σ H5 hi ⟨y, qp, v5, rfl, hy, hq, hv5⟩
      rw [Int.zero_add]
      have li : i < 2000 := hi
      refine ⟨.int (i : Int), (by kernel_rfl), y, (by kernel_rfl), by show 2 ≤ sizeLine; decide, fun t nt => ?_⟩
      have s6 := same_new (o := .tup [.int (i : Int), y]) nt
      have h6 := upd_same (H := H5) (a := t) (o := .tup [.int (i : Int), y])
      generalize upd H5 t (.tup [.int (i : Int), y]) = H6 at s6 h6 ⊢
      intro x dx n1 n2 n3
      have m1 : Same H6 (upd H6 dx (.own x)) := same_new n2
      have m2 : ∀ o, Same H6 (upd (upd H6 dx (.own x)) x o) := fun o => same_put m1 n1
      refine ⟨x, dx, t, "Cons", _, rfl, upd_same, m2 _ _ _ h6, rfl, ?_⟩
      rw [upd_upd]
      have hC : VAt C (upd (upd H6 dx (.own x)) x (.ins C dx (mkF "Cons" t))) (.ref x) (chainT b (i + 1)) := .mk upd_same (m2 _ _ _ h6) (.cons (.num _) (.cons (hy.same (s6.trans (m2 _))) .nil))
      have S7 := s6.trans (m2 (.ins C dx (mkF "Cons" t)))
      generalize upd (upd H6 dx (.own x)) x (.ins C dx (mkF "Cons" t)) = H7 at hC S7 ⊢
      refine ⟨.ref qp, (by kernel_rfl), by show 1 ≤ sizeLine; decide, fun t1 nt1 => ?_⟩
      have s8 := same_new (o := .tup [.int 1]) nt1
      refine rCatA_of (s8 _ _ (S7 _ _ hq)) upd_same (sz_of (by simp; omega)) fun qn H9 s9 h9 => ?_
      refine ⟨.ref x, qn, _, rfl, hC.same (s8.trans s9), ?_, hv5.same ((S7.trans s8).trans s9)⟩
      rw [h9]
      have e : plV (ones i) ++ [V.int 1] = plV (ones (i + 1)) := by
        show _ = plV (List.replicate (i + 1) 1)
        rw [List.replicate_succ']
        simp [plV]
      rw [e]
    · rintro σ H5 ⟨y, qp, v5, rfl, hy, hq, hv5⟩
      rw [show (2000 : Int).toNat = 2000 from rfl] at hy hq
      have csz := chain_sz b 2000
      have cwy := chain_way b 2000
      have cat := chain_at0 b 2000
      have cof := chain_off b pb 2000
      have lns : (ones 2000).length = 2000 := List.length_replicate
      have hd0 : ∀ c : Tr, ∃ m ts, chainT c 2000 = .mk m ts := fun c => ⟨_, _, rfl⟩
      have c300 := chain_at b 300 1700
      rw [show 300 + 1700 = 2000 from rfl] at c300
      have cput := chain_put b (.num 7) 2000
      have cpu2 := chain_put (.num 7) b 2000
      have cwy7 := chain_way (.num 7) 2000
      have cat7 := chain_at0 (.num 7) 2000
      have csz7 := chain_sz (.num 7) 2000
      have s300 := chain_sz b 300
      have inj : chainT (.num 7) 2000 ≠ chainT b 2000 := fun z => kb (chain_inj _ _ _ z).symm
      have hone : ones 2000 = List.replicate 2000 1 := rfl
      have tk1 : (ones 2000).take 1700 = ones 1700 := by rw [hone, List.take_replicate]; rfl
      have tk3 : (ones 2000).take 300 = ones 300 := by rw [hone, List.take_replicate]; rfl
      obtain ⟨mm, tts, hmk⟩ := hd0 b
      have sz7 : (Tr.num 7).sz = 1 := rfl
      generalize hn : ones 2000 = pl at hq cwy cat cof lns c300 cput cpu2 cwy7 cat7 tk1 tk3 ⊢
      generalize ht : chainT b 2000 = t at hy csz cwy cat cof c300 cput cpu2 inj hmk ⊢
      generalize ht7 : chainT (.num 7) 2000 = t7 at cput cpu2 cwy7 cat7 csz7 inj ⊢
      -- its size
      refine ⟨y, (by kernel_rfl), y, t, rfl, hy, by omega, fun H6 S6 => ?_⟩
      refine ⟨.int 2000, (by kernel_rfl), _, _, rfl, rfl, .inl ⟨by decide, by decide⟩, _, _, rfl, rfl, rfl, _, rfl, ?_⟩
      refine ite_no (by rw [csz, zb]; decide +kernel) ?_
      -- the part at its end
      refine ⟨y, (by kernel_rfl), .ref qp, (by kernel_rfl), y, qp, t, pl, rfl, hy.same S6, by omega, S6 _ _ hq, by omega, fun z => (by rw [cat] at z; cases z), fun c x H7 hc S7 hx => ?_⟩
      obtain rfl : b = c := Option.some.inj (cat.symm.trans hc)
      have S67 := S6.trans S7
      refine ⟨v, (by kernel_rfl), b, b, hx, hv5.same S67, by omega, by omega, ?_, fun H8 S8 => ?_⟩
      · cases b with
        | num i => exact .inl ⟨i, i, rfl, rfl⟩
        | mk m ts => exact .inr ⟨m, ts, m, ts, rfl, rfl⟩
      refine ⟨_, rfl, ite_no (by rw [decide_eq_true rfl]; rfl) ?_⟩
      have S68 := S67.trans S8
      -- no part there
      refine ⟨y, (by kernel_rfl), .ref qp, (by kernel_rfl), by show 1 ≤ sizeLine; decide, fun t1 nt1 => ?_⟩
      have s9 := same_new (o := .tup [.int 0]) nt1
      refine rCatA_of (s9 _ _ (S68 _ _ hq)) upd_same (sz_of (by simp [lns])) fun q2 H9 s10 h9 => ?_
      have S9 := (S68.trans s9).trans s10
      refine ⟨y, q2, t, pl ++ [0], rfl, hy.same S9, by omega, ?_, by simp [lns], fun _ H10 S10 => ?_, fun c x H10 hc => (by rw [cof] at hc; cases hc)⟩
      · rw [h9]
        show some (HO.tup (plV pl ++ [V.int 0])) = some (HO.tup (plV (pl ++ [0])))
        rw [show plV (pl ++ [0]) = plV pl ++ [V.int 0] from List.map_append]
      refine ⟨rfl, _, rfl, ite_no rfl ?_⟩
      have S10' := S9.trans S10
      -- another end
      refine ⟨y, (by kernel_rfl), .ref qp, (by kernel_rfl), y, .int 7, qp, t, .num 7, pl, rfl, hy.same S10', by omega, S10' _ _ hq, by omega, .num 7, cwy, fun yo H11 S11 ho => ?_⟩
      rw [cput] at ho
      have S12 := S10'.trans S11
      refine ⟨yo, (by kernel_rfl), .ref qp, (by kernel_rfl), yo, qp, t7, pl, rfl, ho, by omega, S12 _ _ hq, by omega, fun z => (by rw [cat7] at z; cases z), fun c x H13 hc S13 hx => ?_⟩
      obtain rfl : Tr.num 7 = c := Option.some.inj (cat7.symm.trans hc)
      refine ⟨.num 7, .num 7, hx, .num 7, by omega, by omega, .inl ⟨7, 7, rfl, rfl⟩, fun H14 S14 => ?_⟩
      refine ⟨_, rfl, ite_no (by rw [decide_eq_true rfl]; rfl) ?_⟩
      have T14 := (S12.trans S13).trans S14
      have ho14 := (ho.same S13).same S14
      refine ⟨yo, (by kernel_rfl), y, (by kernel_rfl), t7, t, ho14, hy.same T14, by omega, by omega, fun H15 S15 => ?_⟩
      refine ⟨_, rfl, ite_no (decide_eq_false inj) ?_⟩
      have T15 := T14.trans S15
      have ho15 := ho14.same S15
      refine ⟨yo, (by kernel_rfl), .ref qp, (by kernel_rfl), v, (by kernel_rfl), yo, v, qp, t7, b, pl, rfl, ho15, by omega, T15 _ _ hq, by omega, hv5.same T15, cwy7, fun yb H16 S16 hyb => ?_⟩
      rw [cpu2] at hyb
      have T16 := T15.trans S16
      refine ⟨y, (by kernel_rfl), t, t, hyb, hy.same T16, by omega, by omega, .inr ⟨mm, tts, mm, tts, hmk, hmk⟩, fun H17 S17 => ?_⟩
      refine ⟨_, rfl, ite_no (by rw [decide_eq_true rfl]; rfl) ?_⟩
      have T17 := T16.trans S17
      -- the places of the last part of it
      refine ⟨y, (by kernel_rfl), .ref qp, (by kernel_rfl), 1700, rfl, rSlA_of (T17 _ _ hq) fun q3 H18 S18 h18 => ?_⟩
      have T18 := T17.trans S18
      have e1700 : cutV (plV pl) none (some 1700) = plV (ones 1700) := by
        rw [show (1700 : Int) = ((1700 : Nat) : Int) from rfl, cut_take, ← List.map_take, tk1]
      rw [e1700] at h18
      have l17 : (ones 1700).length = 1700 := List.length_replicate
      refine ⟨y, q3, t, ones 1700, rfl, hy.same T18, by omega, h18, by omega, fun z => (by rw [c300] at z; cases z), fun c x H19 hc S19 hx => ?_⟩
      obtain rfl : chainT b 300 = c := Option.some.inj (c300.symm.trans hc)
      have T19 := T18.trans S19
      refine ⟨x, _, rfl, hx, by omega, fun pp xs H20 S20 hpp hpl => ?_⟩
      have T20 := T19.trans S20
      have lxs := Paired.length hpl
      rw [plT_len, s300, zb] at lxs
      refine ⟨.ref pp, (by kernel_rfl), pp, xs, rfl, .inr (SqT.of hpp), rfl, _, rfl, ?_⟩
      refine ite_yes (decide_eq_true (by rw [lxs]; rfl)) ?_
      obtain ⟨vs, elast⟩ := chain_last b plb 300
      have hsnoc : ∀ {ps : List (List Nat)} {l : List Nat} {xs : List V}, PlsAt H20 xs (ps ++ [l]) → ∃ xs' T, xs = xs' ++ [V.ref T] ∧ H20 T = some (.tup (plV l)) := by
        intro ps l
        induction ps with
        | nil =>
          intro xs h
          cases h with
          | cons r t =>
            cases t
            obtain ⟨T, rfl, e⟩ := r
            exact ⟨[], T, rfl, e⟩
        | cons a ps ih =>
          intro xs h
          cases h with
          | cons r t =>
            obtain ⟨xs', T, rfl, e⟩ := ih t
            exact ⟨_ :: xs', T, rfl, e⟩
      rw [elast] at hpl
      obtain ⟨xs', TL, exs, eTL⟩ := hsnoc hpl
      rw [← elast] at hpl
      refine ⟨.ref pp, (by kernel_rfl), 1, rfl, pp, xs, _, .ref TL, rfl, rfl, SqT.of hpp, (by rw [exs]; exact atI_last xs' _), ?_⟩
      refine ⟨.ref qp, (by kernel_rfl), 300, rfl, rSlA_of (T20 _ _ hq) fun q4 H21 S21 h21 => ?_⟩
      have e300 : cutV (plV pl) none (some 300) = plV (ones 300) := by
        rw [show (300 : Int) = ((300 : Nat) : Int) from rfl, cut_take, ← List.map_take, tk3]
      rw [e300] at h21
      refine ⟨dPl (ones 300), dPl (ones 300), dp_pl (S21 _ _ eTL), dp_pl h21, shaped_pl _, shaped_pl _, _, rfl, ?_⟩
      refine ite_yes (SeqAt.eqv_refl _ (SeqAt.canLay_of_shaped (shaped_pl _))) ?_
      rw [show plT (chainT b 300) = [] :: [0] :: (plT (chainT b 299)).map (1 :: ·) from chain_pl b 299] at hpl
      cases hpl with
      | @cons x0 _ xr _ r0 tt =>
      cases tt with
      | @cons x1 _ xr' _ r1 tt' =>
      obtain ⟨T1, rfl, eT1⟩ := r1
      refine ⟨.ref pp, (by kernel_rfl), pp, x0 :: .ref T1 :: xr', 1, .ref T1, rfl, rfl, SqT.of (S21 _ _ hpp), (show atI (x0 :: V.ref T1 :: xr') ((1 : Nat) : Int) = some (V.ref T1) from atI_nat (by rfl)), ?_⟩
      refine ⟨by show 1 ≤ sizeLine; decide, fun t2 nt2 => ?_⟩
      refine ⟨dPl [0], dPl [0], dp_pl ((S21.trans (same_new nt2)) _ _ eT1), dp_pl upd_same, shaped_pl _, shaped_pl _, ?_⟩
      rw [show PyData.eqv (dPl [0]) (dPl [0]) = true from SeqAt.eqv_refl _ (SeqAt.canLay_of_shaped (shaped_pl _))]
      exact k _
end
end Nm
namespace PySem
namespace NoNX
open PySem.W PySem.Calls PyProof.Rows PySem.HandSPX
/-! ### the text of __init__ -/
def iA (p1 p2 : Pos) : Arguments := { posonlyargs := [], args := [{ arg := "self", annotation := none, pos := p1 }, { arg := "name", annotation := none, pos := p2 }], vararg := none, kwonlyargs := [], kw_defaults := [], kwarg := none, defaults := [] }
def iB (q1 q2 q3 q4 : Pos) : List Stmt := [.Assign [.Attribute (.Name "self" q1) "name" q2] (.Name "name" q3) q4]
def iS : Scope := { kind := .function, names := [(PySem.Str.ofString "self", .local), (PySem.Str.ofString "name", .local)], isGenerator := false, isCoroutine := false, more := [] }
/-- what the written part says of NoName, at C, and of its __init__, at fI -/
structure NoNTxt (K : Frag) (mg : Str → Option Value) (C fI : Addr) : Prop where
  gC : mg "NoName" = some (.ref C)
  cls : ∃ nm q N bs bm sn sub ab col dd k0 k1 k2 k3 k5, K.lookup C = some (excClassObj nm q C N bs bm true sn sub ab col dd k0 k1 k2 k3 k5 "ValueError.__new__") ∧ refsVE bm = true
  sa : findIn K (.ref C) "__setattr__" = some (some (.builtin "object.__setattr__"))
  ga : findIn K (.ref C) "__getattribute__" = some (some (.builtin "BaseException.__getattribute__"))
  gg : findIn K (.ref C) "__getattr__" = some none
  noN : findIn K (.ref C) "name" = some none
  iC : findIn K (.ref C) "__init__" = some (some (.ref fI))
  tC : typeIn K (.ref fI) = some (.type "function")
  kC : keepIn K (.ref C) = true
  exC : subIn K (.ref C) (.type "BaseException") = some true
  tyC : typeIn K (.ref C) = some (.type "type")
  hdC : hasDictIn K C = true
  te : exmOne K (.ref C) (.ref C) = some true
  fn : ∃ (oc : Value) (od : Option Addr) (doc pm : Value) (an : Option Addr) (cdv ct : Value) (osl : Array (Option Value)) (p1 p2 q1 q2 q3 q4 : Pos),
    K.lookup fI = some ⟨oc, od, .func (fnOf "__init__" "NoName.__init__" (iA p1 p2) (iB q1 q2 q3 q4) iS .none .none doc pm an cdv ct), osl⟩ ∧ codeIn K cdv "NoName.__init__" = true
theorem one_size (v : Value) : [v].length ≤ sizeLine := by
  rw [sizeLine_eq]
  exact (by decide : 1 ≤ 16777216)
theorem kept_but {K : Frag} {h h' : Heap} {x : Addr} (X : K.In h) (hx : K.lookup x = none) (k : ∀ b o, b ≠ x → h.get? b = some o → h'.get? b = some o) : K.In h' := fun a o e =>
  k a o (fun z => by rw [z, hx] at e; cases e) (X a o e)
theorem ldC {M : Model} {s : Shared} {name : Str} {scope : Scope} {L a : Addr} {cd : Value} {m : Str → Option Value} {x : Str} {pos : Pos} {v : Value} {Q : Value → Shared → Prop} {A : Around} {E : Value → Shared → Prop} (hn : s.heap.Ns L m) (hv : m x = some v) (h : Q v s)
    (hk : scope.kind = .function := by rfl) (hl : (envOfC name scope L a cd).kindOf x = some .local := by rfl) (hd : (x == ("__debug__" : Str)) = false := by decide) :
    wpAny M A (eval (.Name x pos) (envOfC name scope L a cd)) Q E s := wpAny_Name (wpAny_loadName_local hk hl hn hv h) hd
/-- what __init__ leaves of a fresh exception at x -/
structure InitEnd (h h' : Heap) (x C dx t1 : Addr) (v : Value) : Prop where
  keep : ∀ b o, b ≠ x → h.get? b = some o → h'.get? b = some o
  obj : h'.get? x = some { cls := .ref C, dict := some dx, data := .fields #[.ref t1, .none, .none, .none, .bool false, .none] }
  dbig : h.objs.size ≤ dx
  dne : dx ≠ x
  ns : h'.Ns1 dx (fun y => if y = "name" then some v else none)
/-- a made NoName -/
structure OwnMade (h h' : Heap) (e C d : Addr) (v : Value) : Prop where
  keep : ∀ b o, h.get? b = some o → h'.get? b = some o
  new : h.objs.size ≤ e
  obj : ∃ oe vs, h'.get? e = some oe ∧ oe.cls = .ref C ∧ oe.dict = some d ∧ oe.data = .fields vs ∧ vs[1]? = some .none
  dbig : h.objs.size ≤ d
  dne : d ≠ e
  ns : h'.Ns1 d (fun y => if y = "name" then some v else none)
section
variable {prog : Program} {w : World} {A : Around} {E : Value → Shared → Prop} {R : Result → Shared → Prop} {s : Shared} {K : Frag} {mg : Str → Option Value} {C fI : Addr}
theorem low_init (T : NoNTxt K mg C fI) {x t0 : Addr} {v : Value} (X : K.In s.heap) (hlim : s.heap.NoLimit) (hx : s.heap.get? x = some (excO C t0)) (hnx : K.lookup x = none) (hroom : A.depth < recursionLimit)
    (hq : ∀ h' tk dx, InitEnd s.heap h' x C dx t0 v → R (.ok (.ret .none)) { s with heap := h', toks := tk }) :
    codeAny (model prog w) A (.call (.ref fI) ⟨[.ref x, v], []⟩) R s := by
  obtain ⟨oc, od, doc, pm, an, cdv, ct, osl, p1, p2, q1, q2, q3, q4, ho, hcd⟩ := T.fn
  obtain ⟨nm, q, N, bs, bm, sn, sub, ab, col, dd, k0, k1, k2, k3, k5, hC, hbm⟩ := T.cls
  have hcl : clsIn K C = some { name := nm, bases := bs, mro := .ref C :: bm, ns := N, qualname := q, hasDict := true, slotNames := sn, subclasses := sub, abstract := ab, collection := col, hasDel := false } := by unfold clsIn; rw [hC] <;> rfl
  refine Att.call_fn (binds := [("self", .ref x), ("name", v)]) X hlim ho hcd hroom (BindsTo.of_eq (by first | rfl | with_unfolding_all rfl)) (by first | rfl | decide | with_unfolding_all rfl) (fun s₁ IC => ?_) rfl rfl rfl
  obtain ⟨h₁, tk₁, rfl⟩ := IC.toInCall.same
  have k : ∀ b o, s.heap.get? b = some o → h₁.get? b = some o := IC.toInCall.keep
  have hn := IC.toInCall.ns
  have hxL : s.heap.objs.size ≠ x := Nat.ne_of_gt (Heap.lt_size hx)
  have X₁ : K.In h₁ := X.keeps k
  have hx₁ := k _ _ hx
  -- self.by = by
  show wpAny _ _ (execs _ _) _ _ _
  refine wpAny_execs_cons (plainObj_wpAny_Assign_Attribute ?_)
  refine ldC (v := v) hn (by first | rfl | with_unfolding_all rfl | kernel_rfl) (ldC (v := .ref x) hn (by first | rfl | with_unfolding_all rfl | kernel_rfl) ?_)
  refine set_plain X₁ (ox := excO C t0) (od := none) ⟨hx₁, rfl, rfl, trivial⟩ T.sa ?_
  refine exc_osa X₁ hx₁ hcl (show refsVE (.ref C :: bm) = true from hbm) rfl T.noN (fun h₃ tk₃ dx k₃ dn dne hx₃ hn₃ => ?_)
  show wpAny _ _ (execs _ _) _ _ _
  have z : s.heap.objs.size < h₁.objs.size := hn.lt
  exact wpAny_execs_nil (hq h₃ tk₃ dx ⟨fun b o hb e => k₃ b o hb (k b o e), hx₃, Nat.le_of_lt (Nat.lt_of_lt_of_le z dn), dne, hn₃⟩)
theorem low_made (T : NoNTxt K mg C fI) {v : Value} (X : K.In s.heap) (hlim : s.heap.NoLimit) (hroom : A.depth + 1 < recursionLimit)
    (hq : ∀ h' tk e d, OwnMade s.heap h' e C d v → R (.ok (.ret (.ref e))) { s with heap := h', toks := tk }) :
    codeAny (model prog w) A (.call (.ref C) ⟨[v], []⟩) R s := by
  obtain ⟨nm, q, N, bs, bm, sn, sub, ab, col, dd, k0, k1, k2, k3, k5, hC, hbm⟩ := T.cls
  obtain ⟨hp, g, dr, tk, os⟩ := s
  have k : ∀ b o, hp.get? b = some o → ((hp.push (kdv_tup [v])).push (excO C hp.objs.size)).get? b = some o := fun b o e => Heap.get?_push_of_some _ (Heap.get?_push_of_some _ e)
  have hget : ((hp.push (kdv_tup [v])).push (excO C hp.objs.size)).get? (hp.objs.size + 1) = some (excO C hp.objs.size) := by heap_get
  have hnx : K.lookup (hp.objs.size + 1) = none := by
    cases e : K.lookup (hp.objs.size + 1) with
    | none => rfl
    | some o =>
      have z : hp.get? (hp.objs.size + 1) = some o := X _ _ e
      exact absurd (Nat.lt_of_succ_lt (Heap.lt_size z)) (Nat.lt_irrefl _)
  refine call_own F.excBase_ValueError (fun X => refsVE_contains X bm hbm) (X _ _ hC) (looks_findIn X T.iC) (fun self => bind_fn X self T.tC) (one_size v) ?_
  refine low_init (s := ⟨(hp.push (kdv_tup [v])).push (excO C hp.objs.size), g, dr, tk, os⟩) T (X.keeps k) (hlim.keeps k) hget hnx ?_ fun h' tk' dx ⟨k', hx, dn, dne, hns⟩ => ?_
  · show A.depth + 1 < recursionLimit
    exact hroom
  · have old : ∀ b o, hp.get? b = some o → h'.get? b = some o := fun b o e => k' b o (Nat.ne_of_lt (Nat.lt_succ_of_lt (Heap.lt_size e))) (k b o e)
    have z : hp.objs.size + 1 + 1 ≤ dx := by
      first
        | (simpa only [Heap.size_push] using dn)
        | exact dn
        | (have q := dn; rw [Heap.size_push, Heap.size_push] at q; exact q)
    exact ⟨rfl, hq h' tk' (hp.objs.size + 1) dx ⟨old, Nat.le_succ _, ⟨_, _, hx, rfl, rfl, rfl, rfl⟩, Nat.le_trans (Nat.le_trans (Nat.le_succ _) (Nat.le_succ _)) z, dne, hns⟩⟩
end
end NoNX
end PySem
namespace L2
open PySem PySem.Spec PyProof.Rows
theorem relO_low {v : V} {v' : Value} (r : RelV v v') (f : Str) : RelO (List.lookup f [(("name" : Str), v)]) (if f = "name" then some v' else none) := by
  by_cases hw : f = "name"
  · subst hw
    rw [if_pos rfl]
    have q : List.lookup ("name" : Str) [(("name" : Str), v)] = some v := by simp [List.lookup]
    rw [q]
    exact r
  · rw [if_neg hw]
    have qw : (f == ("name" : Str)) = false := by simpa using hw
    have q2 : List.lookup f [(("name" : Str), v)] = none := by simp [List.lookup, qw]
    rw [q2]
    trivial
section
variable {X : Cx} {C fI : Addr}
/-- NoName(e) -/
def tMkLow (C : Addr) (ta : TA) : St → Hp → XK → Prop := fun σ H Q => ta σ H fun vs H1 => ∃ v, vs = [v] ∧ ∀ d, H1 d = none → Q (.ref C) (some d) (upd H1 d (.xd [(("name" : Str), v)]))
theorem pmk_low {a : Expr} {ta : TA} {p pos : Pos} {k : Nat} (T : PySem.NoNX.NoNTxt X.K X.mg C fI) (hr : Room k X.A) (ha : PA X [a] ta) (hg : Gl X "NoName" := by rfl)
    (he : starEach (a :: []) X.env = (false, eval a X.env) :: starEach [] X.env := by rfl) (hpl : (backTo pos (starEach [] X.env)).any (·.1) = false := by rfl) :
    PMk X (.Call (.Name "NoName" p) [a] [] pos) (tMkLow C ta) := by
  intro pins s σ H Q I h
  refine wpAny_Call_Name_kw (ld_glob I hg T.gC ?_)
  refine PySem.W.callWith_K (h₀ := X.base) I.ok.mod.kin T.kC (thn (ha.run pos pins s σ H _ I h) fun us s1 hh => ?_) he hpl
  obtain ⟨vs, H1, I1, r1, v, ev, q1⟩ := hh
  subst ev
  refine ⟨I1.kIn, ?_⟩
  cases r1 with
  | cons rv rn =>
    rename_i v' us'
    cases rn
    show wpAny _ _ (call (.ref C) [v']) _ _ _
    have hlim := I1.nolimit
    obtain ⟨hp, g, dr, tk, os⟩ := s1
    refine wpAny_call (PySem.NoNX.low_made T I1.kIn hlim (by have := hr.dp; omega) fun h' tk' e d M => ?_)
    show MkP X pins σ Q (.ref e) ⟨h', g, dr, tk', os⟩
    obtain ⟨oe, fv, hoe, hc, hd, hdat, h1⟩ := M.obj
    have hns := M.ns
    obtain ⟨G', g1, g2⟩ := restrict h' fun b => decide (b ≠ e)
    have gk : ∀ b, b ≠ e → G'.get? b = h'.get? b := fun b hb => g1 b (decide_eq_true hb)
    have ge : G'.get? e = none := g2 e (by simp)
    have old : ∀ b o, hp.get? b = some o → G'.get? b = some o := fun b o q => (gk b (Nat.ne_of_lt (Nat.lt_of_lt_of_le (Heap.lt_size q) M.new))).trans (M.keep b o q)
    have ob : ObjOk X.prog X.w (upd H1 d (.xd [(("name" : Str), v)])) G' d (.xd [(("name" : Str), v)]) :=
      ⟨_, hns.at (fun o q => (gk d M.dne).trans q), fun f => relO_low rv f⟩
    have J : Inv X pins σ (upd H1 d (.xd [(("name" : Str), v)])) ⟨G', g, dr, tk', os⟩ := I1.laid (t' := tk') old M.dbig ob
    refine ⟨e, oe, fv, ⟨G', g, dr, tk', os⟩, _, .ref C, some d, rfl, J, fun b o q => ?_, ge, hoe, ⟨hc, hd⟩, hdat, h1, ?_, rfl, I1.bare, raises_own T.exC T.tyC, q1 d (I1.hok.fresh M.dbig)⟩
    · by_cases hb : b = e
      · have q' : G'.get? b = some o := q
        rw [hb, ge] at q'; cases q'
      · exact (gk b hb).symm.trans q
    · rw [upd_ne (Ne.symm M.dne)]
      exact I1.hok.fresh M.new
/-- raise NoName(e) -/
def tRaiseLow (C : Addr) (W : WX) (ta : TA) : TS := fun _ σ H => tMkLow C ta σ H fun cls d H' => W cls d σ H'
theorem ps_raiseLow {a : Expr} {ta : TA} {W : WX} {p pos pos2 : Pos} {k : Nat} (hc : X.calm = true) (T : PySem.NoNX.NoNTxt X.K X.mg C fI) (hr : Room k X.A) (tk : Takes X W) (ha : PA X [a] ta) (hg : Gl X "NoName" := by rfl)
    (he : starEach (a :: []) X.env = (false, eval a X.env) :: starEach [] X.env := by rfl) (hpl : (backTo pos (starEach [] X.env)).any (·.1) = false := by rfl) :
    PS X (.Raise (some (.Call (.Name "NoName" p) [a] [] pos)) none pos2) (tRaiseLow C W ta) := ps_raise hc tk (pmk_low T hr ha hg he hpl)
/-- e.name, e the exception that the suite holds (at a; its class cls, its dict d) -/
def tByLow (C : Addr) (a : Addr) (cls : Value) (d : Option Addr) (te : TE) : TE := fun σ H Q => te σ H fun x H1 => x = .ref a ∧ cls = .ref C ∧ ∃ (dd : Addr) (v : V), d = some dd ∧ H1 dd = some (.xd [(("name" : Str), v)]) ∧ Q v H1
theorem pe_byLow {a : Addr} {oe : Obj} {cls : Value} {d : Option Addr} {pn : List (Addr × Obj)} {e : Expr} {te : TE} {pos : Pos} (T : PySem.NoNX.NoNTxt X.K X.mg C fI) (hz : Zc cls d oe) (hf : ∃ vs, oe.data = .fields vs) (he : PE (X.suite a ((a, oe) :: pn)) e te)
    (hb : attributeBase e "name" X.env (eval e X.env) = eval e X.env := by rfl) :
    PE (X.suite a ((a, oe) :: pn)) (.Attribute e "name" pos) (tByLow C a cls d te) := by
  refine ⟨fun pins s σ H Q I h => ?_⟩
  refine attr_of hb (thn (he.run pins s σ H _ I h) fun u s1 hh => ?_)
  obtain ⟨x, H1, I1, rx, ex, ec, dd, v, ed, ea, q⟩ := hh
  subst ex
  obtain rfl : u = Value.ref a := rx
  subst ec
  subst ed
  obtain ⟨ha, _⟩ := I1.pin (a, oe) (List.mem_append_left _ List.mem_cons_self)
  obtain ⟨vs, hd⟩ := hf
  have hx : ObjOk X.prog X.w H1 s1.heap dd (.xd [(("name" : Str), v)]) := I1.hok dd _ ea
  obtain ⟨mA, hns, hr⟩ := hx
  obtain ⟨od, ho, hl⟩ := lookIn_ns hns
  have l : List.lookup ("name" : Str) [(("name" : Str), v)] = some v := by simp [List.lookup]
  obtain ⟨u, hu, ru⟩ := RelO.some_of (v := v) (o := mA "name") (by rw [← l]; exact hr "name")
  have J : PySem.W.InstAt s1.heap a oe C (some od) := ⟨ha, hz.1, by unfold PySem.W.notCls; rw [hd] <;> rfl, by rw [hz.2]; exact ho⟩
  exact HandSPX.exc_get I1.kIn J T.ga T.gg T.exC (PySem.W.findObj_own T.hdC T.noN rfl (by rw [hl, hu])) (handed_of ru) ⟨v, H1, I1.tok _, ru, q⟩
end
end L2
namespace Nm
open PySem PySem.Spec PyProof.Rows L2
/-! ### a place that is not there -/
def spNoPut (C CN : Addr) : Sp := fun vs H _ E => ∃ (v x : V) (q : Addr) (t : Tr) (ns : List Nat), vs = [v, .ref q, x] ∧ VAt C H v t ∧ t.sz ≤ 1000000 ∧ H q = some (.tup (plV ns)) ∧ ns.length ≤ 1000000 ∧ wayL t ns = none ∧
  ∀ (d : Addr) (H' : Hp), Same H H' → H' d = none → E (.ref CN) (some d) (upd H' d (.xd [(("name" : Str), .ref q)]))
def spNoPlace (C : Addr) : Sp := fun vs H Q _ => ∃ (v : V) (q : Addr) (t : Tr) (ns : List Nat), vs = [v, .ref q] ∧ VAt C H v t ∧ t.sz ≤ 1000000 ∧ H q = some (.tup (plV ns)) ∧ ns.length ≤ 1000000 ∧ wayL t ns = none ∧ ∀ H' : Hp, Same H H' → Q (.bl true) H'
theorem op_eqDK {X : Cx} {K : PySem.W.Frag} (h : X.K = K) (hu : X.A.units + 64 < cLine) : OpR X (compareOp .Eq) (rEqD K) := by
  subst h
  exact op_eqD hu
section
variable {P : Program} {w : World} {K : PySem.W.Frag} {mg : Str → Option Value} {base : Heap} {C fE CN fN : Addr}
theorem ok_noput {f fW fP fI : Addr} {fd fdW fdP fdI : FuncData} (F : Fun K "value_with" "value_with" svaluewith f fd) (T : VTxt mg) (MT : MadeTxt K mg C fE) (TN : PySem.NoNX.NoNTxt K mg CN fN)
    (F_parts_of : Fun K "parts_of" "parts_of" spartsof fP fdP) (b_parts_of : Binds K fdP ["value"] []) (g_parts_of : mg "parts_of" = some (.ref fP))
    (F_is_integer : Fun K "is_integer" "is_integer" sisinteger fI fdI) (b_is_integer : Binds K fdI ["value"] []) (g_is_integer : mg "is_integer" = some (.ref fI))
    (F_way_down : Fun K "way_down" "way_down" swaydown fW fdW) (b_way_down : Binds K fdW ["value", "place"] []) (g_way_down : mg "way_down" = some (.ref fW)) : FnOk P w K mg base (L2.CX P w) 3 f fd Pvaluewith (spNoPut C CN) := by
  have G_way_down : FnOk P w K mg base CX0 2 fW fdW Pwaydown (spWay C) := ok_way F_way_down T MT F_parts_of b_parts_of g_parts_of F_is_integer b_is_integer g_is_integer
  refine F.okX scvaluewith (fun vs H Q E h => ?_) (fun cdv A outer s H vs Q E hr h => ?_)
  · obtain ⟨v, x, q, t, ns, rfl, _⟩ := h
    rfl
  · obtain ⟨v, x, q, t, ns, rfl, hv, zt, hq, nl, hn, k⟩ := h
    have hr1 := hr
    refine ⟨_, pss_cons (ps_set (i := 3) scvaluewith.nd rfl (Or.inl rfl) (pe_call G_way_down hr1 rfl g_way_down F_way_down.kp b_way_down .nil pass0 (pa_cons (pv 0) (pa_cons (pv 1) pa_nil))))
      (pss_cons (ps_if (pt_cmpR op_isN (pv 3) pe_non (nomark _))
        (pss_one (ps_raiseLow rfl TN hr1 (takes_of rfl rfl rfl rfl) (pa_cons (pv 1) pa_nil)))
        pss_nil)
      pss_never), ?_⟩
    refine ⟨v, (by kernel_rfl), .ref q, (by kernel_rfl), v, q, t, ns, rfl, hv, zt, hq, nl, fun _ H' S => ?_, fun ws l xs H1 hw => absurd hn (by rw [hw]; intro z; cases z)⟩
    refine ⟨.non, (by kernel_rfl), rfl, _, rfl, ?_⟩
    refine ite_yes rfl ?_
    exact ⟨.ref q, (by kernel_rfl), .ref q, rfl, fun d hd => k d H' S hd⟩

abbrev sLnoplace : Stmt := top 21
abbrev NLnoplace : List Str := ["_law_value", "_law_place", "e"]
abbrev PLnoplace : List Str := ["_law_value", "_law_place"]
theorem scLnoplace : FnScope NLnoplace PLnoplace (defScope sLnoplace) := ⟨rfl, rfl, rfl, by decide +kernel, rfl, by decide +kernel, by decide +kernel⟩

def t_noplace (K : PySem.W.Frag) (C CN : Addr) (W : WX) : TS := fun D σ H => tCallS (spNoPut C CN) (WE W) (tCons (tVar 0) (tCons (tVar 1) (tCons (tC (.int 1)) tNil))) σ H fun _ H' => D.nx σ H'
def t_nosuite (K : PySem.W.Frag) (CN : Addr) : Addr → Value → Option Addr → TS := fun a cls d => tRet (tOp (rEqD K) (tByLow CN a cls d (tVar 2)) (tVar 1))
theorem ok_noplace {f fV fW fP fI : Addr} {fd fdV fdW fdP fdI : FuncData} (F : Fun K "_law_no_place" "_law_no_place" sLnoplace f fd) (T : VTxt mg) (MT : MadeTxt K mg C fE) (TN : PySem.NoNX.NoNTxt K mg CN fN)
    (F_parts_of : Fun K "parts_of" "parts_of" spartsof fP fdP) (b_parts_of : Binds K fdP ["value"] []) (g_parts_of : mg "parts_of" = some (.ref fP))
    (F_is_integer : Fun K "is_integer" "is_integer" sisinteger fI fdI) (b_is_integer : Binds K fdI ["value"] []) (g_is_integer : mg "is_integer" = some (.ref fI))
    (F_way_down : Fun K "way_down" "way_down" swaydown fW fdW) (b_way_down : Binds K fdW ["value", "place"] []) (g_way_down : mg "way_down" = some (.ref fW))
    (F_value_with : Fun K "value_with" "value_with" svaluewith fV fdV) (b_value_with : Binds K fdV ["value", "place", "part"] []) (g_value_with : mg "value_with" = some (.ref fV)) : FnOk P w K mg base CX0 4 f fd PLnoplace (spNoPlace C) := by
  have G : FnOk P w K mg base (L2.CX P w) 3 fV fdV Pvaluewith (spNoPut C CN) := ok_noput F_value_with T MT TN F_parts_of b_parts_of g_parts_of F_is_integer b_is_integer g_is_integer F_way_down b_way_down g_way_down
  refine F.ok scLnoplace (fun vs H Q E h => ?_) (fun cdv A outer s H vs Q E hr h => ?_)
  · obtain ⟨v, q, t, ns, rfl, _⟩ := h
    rfl
  · obtain ⟨v, q, t, ns, rfl, hv, zt, hq, nl, hn, k⟩ := h
    have hr1 := hr
    refine ⟨_, pss_cons (ps_try_as (i := 2) (tb := t_noplace K C CN) (ts := t_nosuite K CN) (Wout := fun _ _ _ _ => False) rfl rfl scLnoplace.nd rfl rfl ⟨rfl, by decide, Or.inl TN.gC⟩ takes0
        (fun W pn xe tk _ => pss_one (ps_expr (by exact (pe_callS G hr1 rfl g_value_with F_value_with.kp b_value_with (fun σ => passAt tk σ) (by exact (pa_cons (pv 0) (pa_cons (pv 1) (pa_cons pe_int pa_nil))))))))
        (fun a oe cls d pn hz hf => pss_one (ps_ret (by exact (pe_cmpR (op_eqDK (K := K) rfl (by exact hr.units)) (pe_byLow TN hz hf (pv 2)) (pv 1) (nomark _))))))
      (pss_one (ps_ret pe_bl)), ?_⟩
    refine ⟨v, (by kernel_rfl), .ref q, (by kernel_rfl), v, .int 1, q, t, ns, rfl, hv, zt, hq, nl, hn, fun d H' S hd => ?_⟩
    refine ⟨true, TN.te, fun _ a0 _ => ?_, fun q => Bool.noConfusion q⟩
    have s1 := same_new (o := .xd [(("name" : Str), .ref q)]) hd
    refine ⟨.ref a0, (by kernel_rfl), rfl, rfl, d, .ref q, rfl, upd_same, .ref q, (by kernel_rfl), ?_⟩
    refine ⟨dPl ns, dPl ns, dp_pl ((S.trans s1) _ _ hq), dp_pl ((S.trans s1) _ _ hq), shaped_pl _, shaped_pl _, ?_⟩
    rw [show PyData.eqv (dPl ns) (dPl ns) = true from SeqAt.eqv_refl _ (SeqAt.canLay_of_shaped (shaped_pl _))]
    exact k _ (S.trans s1)
end
end Nm
namespace Nm
open PySem PySem.Spec PyProof.Rows L2
/-! ### the law -/
theorem at_len : ∀ (ns : List Nat) (t c : Tr), atT t ns = some c → ns.length + c.dep ≤ t.dep
  | [], t, c, h => by
    obtain rfl := Option.some.inj h
    simp
  | k :: r, t, c, h => by
    unfold atT at h
    cases e : t.parts[k]? with
    | none => rw [e] at h; cases h
    | some d =>
      rw [e] at h
      have ih := at_len r d c h
      cases t with
      | num i => simp [Tr.parts] at e
      | mk m ts =>
        have d1 := depL_get (show ts[k]? = some d from e)
        simp only [Tr.dep, List.length_cons]
        omega
section
variable {P : Program} {w : World} {K : PySem.W.Frag} {mg : Str → Option Value} {C fE CN fN fa : Addr}

abbrev slaw : Stmt := top 23
abbrev Nlaw : List Str := ["_law_script", "_law_pen_here", "_law_own_here", "_law_value", "_law_cells_here", "_law_place", "_law_one", "_law_wrong", "_law_part", "_law_other", "_law_due"]
abbrev Plaw : List Str := ["_law_script"]
theorem sclaw : FnScope Nlaw Plaw (defScope slaw) := ⟨rfl, rfl, rfl, by decide +kernel, rfl, by decide +kernel, by decide +kernel⟩

variable {fP fI fW fS fL fA fV f1 fD fQ f2 f3 f4 f5 f6 f7 f8 f0 : Addr} {fdP fdI fdW fdS fdL fdA fdV fd1 fdD fdQ fd2 fd3 fd4 fd5 fd6 fd7 fd8 fd0 fdE : FuncData}
theorem rd_law (T : VTxt mg) (hen : mg "enumerate" = none) (PT : PenTxt mg) (MT : MadeTxt K mg C fE) (sO : PySem.W.subIn K (.ref C) (.type "object") = some true) (TN : PySem.NoNX.NoNTxt K mg CN fN) (Mk : Mk K C f0) (F_init : Fun K "__init__" "Made.__init__" sMadeinit f0 fd0) (B_init : Binds K fd0 ["self", "maker", "parts"] [])
    (F_eq : Fun K "__eq__" "Made.__eq__" sMadeeq fE fdE) (B_eq : Binds K fdE ["self", "other"] [])
    (F_parts_of : Fun K "parts_of" "parts_of" spartsof fP fdP) (b_parts_of : Binds K fdP ["value"] []) (g_parts_of : mg "parts_of" = some (.ref fP))
    (F_is_integer : Fun K "is_integer" "is_integer" sisinteger fI fdI) (b_is_integer : Binds K fdI ["value"] []) (g_is_integer : mg "is_integer" = some (.ref fI))
    (F_way_down : Fun K "way_down" "way_down" swaydown fW fdW) (b_way_down : Binds K fdW ["value", "place"] []) (g_way_down : mg "way_down" = some (.ref fW))
    (F_size_of : Fun K "size_of" "size_of" ssizeof fS fdS) (b_size_of : Binds K fdS ["value"] []) (g_size_of : mg "size_of" = some (.ref fS))
    (F_places_of : Fun K "places_of" "places_of" splacesof fL fdL) (b_places_of : Binds K fdL ["value"] []) (g_places_of : mg "places_of" = some (.ref fL))
    (F_part_at : Fun K "part_at" "part_at" spartat fA fdA) (b_part_at : Binds K fdA ["value", "place"] []) (g_part_at : mg "part_at" = some (.ref fA))
    (F_value_with : Fun K "value_with" "value_with" svaluewith fV fdV) (b_value_with : Binds K fdV ["value", "place", "part"] []) (g_value_with : mg "value_with" = some (.ref fV))
    (F_law_pen : Fun K "_law_pen" "_law_pen" sPen f1 fd1) (b_law_pen : Binds K fd1 ["_law_script"] []) (g_law_pen : mg "_law_pen" = some (.ref f1))
    (F_law_draw : Fun K "_law_draw" "_law_draw" sDraw fD fdD) (b_law_draw : Binds K fdD ["_law_pen_here", "_law_many"] []) (g_law_draw : mg "_law_draw" = some (.ref fD))
    (F_law_pick : Fun K "_law_pick" "_law_pick" sPick fQ fdQ) (b_law_pick : Binds K fdQ ["_law_pen_here", "_law_some"] []) (g_law_pick : mg "_law_pick" = some (.ref fQ))
    (F_law_own : Fun K "_law_own" "_law_own" sLown f2 fd2) (b_law_own : Binds K fd2 ["_law_value"] []) (g_law_own : mg "_law_own" = some (.ref f2))
    (F_law_made : Fun K "_law_made" "_law_made" sLmade f3 fd3) (b_law_made : Binds K fd3 ["_law_value"] []) (g_law_made : mg "_law_made" = some (.ref f3))
    (F_law_any_value : Fun K "_law_any_value" "_law_any_value" sLanyvalue f4 fd4) (b_law_any_value : Binds K fd4 ["_law_pen_here", "_law_depth"] []) (g_law_any_value : mg "_law_any_value" = some (.ref f4))
    (F_law_cells : Fun K "_law_cells" "_law_cells" sLcells f5 fd5) (b_law_cells : Binds K fd5 ["_law_value"] []) (g_law_cells : mg "_law_cells" = some (.ref f5))
    (F_law_put : Fun K "_law_put" "_law_put" sLput f6 fd6) (b_law_put : Binds K fd6 ["_law_value", "_law_place", "_law_part"] []) (g_law_put : mg "_law_put" = some (.ref f6))
    (F_law_no_place : Fun K "_law_no_place" "_law_no_place" sLnoplace f7 fd7) (b_law_no_place : Binds K fd7 ["_law_value", "_law_place"] []) (g_law_no_place : mg "_law_no_place" = some (.ref f7))
    (F_law_chain_right : Fun K "_law_chain_right" "_law_chain_right" sLchainright f8 fd8) (b_law_chain_right : Binds K fd8 ["_law_pen_here"] []) (g_law_chain_right : mg "_law_chain_right" = some (.ref f8))
    (base : Heap) (cdv : Value) (s : Shared) (H : Hp) (a : Addr) (ns : List Int) (hlen : ns.length ≤ 63) (hS : SqL K H a (ns.map V.int)) :
    ∃ t, PSs (cxOf CX0 P w K mg base Nlaw "law" (defScope slaw) fa cdv callerA [] s H E0).nox (defBody slaw) t ∧ t { nx := fun _ _ => False, rt := fun v _ => v = .bl true } (start Nlaw [.ref a]) H := by
  have hr : Room 14 (callerA.deeper (envOfC "law" (defScope slaw) s.heap.objs.size fa cdv)) := Room.deeper ⟨rfl, by decide, by decide⟩ _
  have hr1 := hr
  have G_eq : FnOk P w K mg base CX0 14 fE fdE ["self", "other"] (spEqM C) := (ok_eq F_eq T MT).mono (by decide)
  have G_eqn : FnOk P w K mg base CX0 13 fE fdE ["self", "other"] (spEqM C) := (ok_eq F_eq T MT).mono (by decide)
  have G_law_pen : FnOk P w K mg base CX0 14 f1 fd1 ["_law_script"] (spPen K) := (ok_pen F_law_pen PT).mono (by decide)
  have G_size_of : FnOk P w K mg base CX0 14 fS fdS Psizeof (spSize C) := (ok_size F_size_of T MT F_parts_of b_parts_of g_parts_of).mono (by decide)
  have G_places_of : FnOk P w K mg base CX0 14 fL fdL Pplacesof (spPlaces C) := (ok_places F_places_of T MT F_parts_of b_parts_of g_parts_of).mono (by decide)
  have G_part_at : FnOk P w K mg base CX0 14 fA fdA Ppartat (spAt C) := (ok_at F_part_at T MT F_parts_of b_parts_of g_parts_of F_is_integer b_is_integer g_is_integer F_way_down b_way_down g_way_down).mono (by decide)
  have G_value_with : FnOk P w K mg base CX0 14 fV fdV Pvaluewith (spPut C) := (ok_put F_value_with T MT Mk F_init B_init F_parts_of b_parts_of g_parts_of F_is_integer b_is_integer g_is_integer F_way_down b_way_down g_way_down).mono (by decide)
  have G_law_own : FnOk P w K mg base CX0 14 f2 fd2 PLown (spOwn C 10) := (ok_own F_law_own T MT b_law_own g_law_own 10).mono (by decide)
  have G_law_made : FnOk P w K mg base CX0 14 f3 fd3 PLmade (spMade C 10) := (ok_made F_law_made T MT Mk F_init B_init b_law_made g_law_made 10).mono (by decide)
  have G_law_any_value : FnOk P w K mg base CX0 14 f4 fd4 PLanyvalue (spAnyN 5) := (ok_any F_law_any_value T PT F_law_draw b_law_draw g_law_draw F_law_pick b_law_pick g_law_pick b_law_any_value g_law_any_value 5).mono (by decide)
  have G_law_cells : FnOk P w K mg base CX0 14 f5 fd5 PLcells (spCells 10) := (ok_cells F_law_cells T hen b_law_cells g_law_cells 10).mono (by decide)
  have G_law_put : FnOk P w K mg base CX0 14 f6 fd6 PLput (spLput 10) := (ok_lput F_law_put T b_law_put g_law_put 10).mono (by decide)
  have G_law_no_place : FnOk P w K mg base CX0 14 f7 fd7 PLnoplace (spNoPlace C) := (ok_noplace F_law_no_place T MT TN F_parts_of b_parts_of g_parts_of F_is_integer b_is_integer g_is_integer F_way_down b_way_down g_way_down F_value_with b_value_with g_value_with).mono (by decide)
  have G_law_chain_right : FnOk P w K mg base CX0 14 f8 fd8 PLchainright spChain := (ok_chain F_law_chain_right T PT MT sO Mk F_init B_init F_eq B_eq F_parts_of b_parts_of g_parts_of F_is_integer b_is_integer g_is_integer F_way_down b_way_down g_way_down F_size_of b_size_of g_size_of F_places_of b_places_of g_places_of F_part_at b_part_at g_part_at F_value_with b_value_with g_value_with F_law_draw b_law_draw g_law_draw F_law_pick b_law_pick g_law_pick).mono (by decide)
  refine ⟨_, (pss_cons (ps_set (i := 1) sclaw.nd rfl (Or.inl rfl) (pe_call G_law_pen hr1 rfl g_law_pen F_law_pen.kp b_law_pen .nil pass0 (pa_cons (pv 0) pa_nil)))
      (pss_cons (ps_set (i := 2) sclaw.nd rfl (Or.inl rfl) (pe_call G_law_any_value hr1 rfl g_law_any_value F_law_any_value.kp b_law_any_value .nil pass0 (pa_cons (pv 1) (pa_cons pe_int pa_nil))))
      (pss_cons (ps_par (i := 3) (j := 4) rfl sclaw.nd rfl rfl (by decide) rfl rfl (pa_cons (pe_call G_law_made hr1 rfl g_law_made F_law_made.kp b_law_made .nil pass0 (pa_cons (pv 2) pa_nil)) (pa_cons (pe_call G_law_cells hr1 rfl g_law_cells F_law_cells.kp b_law_cells .nil pass0 (pa_cons (pv 2) pa_nil)) pa_nil)) (by rfl))
      (pss_cons (ps_if (PW.pt (pw_or (pt_cmpR op_ne (pe_call G_size_of hr1 rfl g_size_of F_size_of.kp b_size_of .nil pass0 (pa_cons (pv 3) pa_nil)) (pe_callB call_len_seq (by rfl) T.len PySem.boot_len (pa_cons (pv 4) pa_nil)) (nomark _)) (pw_or1 (pt_cmpR (op_neD hr.units) (pe_call G_places_of hr1 rfl g_places_of F_places_of.kp b_places_of .nil pass0 (pa_cons (pv 3) pa_nil)) (pe_callTy call_tuple_of (by rfl) T.tuple (by decide +kernel) (pa_cons (pe_lc (own := [("_law_place", 5), ("_law_one", 6)]) (g := (gTup K 2 (gCons (gName 5) (gCons (gName 6) gNil)))) rfl sclaw.nd (pi_list (pv 4)) (blkOk_by (own := [("_law_place", 5), ("_law_one", 6)]) (N := Nlaw) (sc := defScope slaw) (by decide +kernel)) (fun _ _ _ _ _ => (pg_tup (by rfl) (pgs_cons (pg_name (i := 5) sclaw.nd rfl (Or.inl rfl)) (pgs_cons (pg_name (i := 6) sclaw.nd rfl (Or.inl rfl)) pgs_nil)))) (fun _ _ _ _ _ => pts_nil) (fun _ _ _ _ _ => (pv 5))) pa_nil)) (nomark _)))))
      (pss_one (ps_ret pe_bl))
      pss_nil)
      (pss_cons (ps_if (PW.pt (pw_or (pt_not (pt_val (pe_callB call_isi (by rfl) T.isinstance (by decide +kernel) (pa_cons (pe_cmpR (op_eqM G_eq B_eq MT hr1) (pv 3) (pe_call G_law_made hr1 rfl g_law_made F_law_made.kp b_law_made .nil pass0 (pa_cons (pv 2) pa_nil)) (nomark _)) (pa_cons (pe_bltn (v := .ty "bool") (by rfl) T.bool (by decide +kernel) rfl) pa_nil))))) (pw_or1 (pt_cmpR (op_neM G_eqn B_eq MT sO hr1) (pv 3) (pe_call G_law_made hr1 rfl g_law_made F_law_made.kp b_law_made .nil pass0 (pa_cons (pv 2) pa_nil)) (nomark _)))))
      (pss_one (ps_ret pe_bl))
      pss_nil)
      (pss_cons (ps_for PassesOwn.never rfl (pi_list (pe_slice sl_list (pv 4) po_none (po_some pe_int))) (pg_tup (by rfl) (pgs_cons (pg_name (i := 5) sclaw.nd rfl (Or.inl rfl)) (pgs_cons (pg_name (i := 6) sclaw.nd rfl (Or.inl rfl)) pgs_nil)))
      (pss_cons (ps_if (pt_cmpR (op_neD hr.units) (pe_call G_law_own hr1 rfl g_law_own F_law_own.kp b_law_own .nil pass0 (pa_cons (pe_call G_part_at hr1 rfl g_part_at F_part_at.kp b_part_at .nil pass0 (pa_cons (pv 3) (pa_cons (pv 5) pa_nil))) pa_nil)) (pv 6) (nomark _))
      (pss_one (ps_ret pe_bl))
      pss_nil)
      (pss_cons (ps_for PassesOwn.never rfl (pi_list (pe_lst (pa_cons (pe_op op_catA (pv 5) (pe_tup (pa_cons (pe_ifExp (pt_not (pt_val (pe_callB call_isi (by rfl) T.isinstance (by decide +kernel) (pa_cons (pv 6) (pa_cons (pe_bltn (v := .ty "int") (by rfl) T.int (by decide +kernel) rfl) pa_nil))))) (pe_callB call_len_seq (by rfl) T.len PySem.boot_len (pa_cons (pe_ix ix_tup (pv 6) pe_int (fun _ _ => rfl)) pa_nil)) pe_int) pa_nil))) (pa_cons (pe_op op_catA (pv 5) (pe_tup (pa_cons pe_int (pa_cons pe_int pa_nil)))) pa_nil)))) (pg_name (i := 7) sclaw.nd rfl (Or.inl rfl))
      (pss_one (ps_if (PW.pt (pw_or (pt_cmpR op_notN (pe_call G_part_at hr1 rfl g_part_at F_part_at.kp b_part_at .nil pass0 (pa_cons (pv 3) (pa_cons (pv 7) pa_nil))) pe_non (nomark _)) (pw_or1 (pt_not (pt_val (pe_call G_law_no_place hr1 rfl g_law_no_place F_law_no_place.kp b_law_no_place .nil pass0 (pa_cons (pv 3) (pa_cons (pv 7) pa_nil))))))))
      (pss_one (ps_ret pe_bl))
      pss_nil)))
      (pss_cons (ps_set (i := 8) sclaw.nd rfl (Or.inl rfl) (pe_call G_law_any_value hr1 rfl g_law_any_value F_law_any_value.kp b_law_any_value .nil pass0 (pa_cons (pv 1) (pa_cons pe_int pa_nil))))
      (pss_cons (ps_set (i := 9) sclaw.nd rfl (Or.inl rfl) (pe_call G_value_with hr1 rfl g_value_with F_value_with.kp b_value_with .nil pass0 (pa_cons (pv 3) (pa_cons (pv 5) (pa_cons (pe_call G_law_made hr1 rfl g_law_made F_law_made.kp b_law_made .nil pass0 (pa_cons (pv 8) pa_nil)) pa_nil)))))
      (pss_cons (ps_set (i := 10) sclaw.nd rfl (Or.inl rfl) (pe_call G_law_put hr1 rfl g_law_put F_law_put.kp b_law_put .nil pass0 (pa_cons (pv 2) (pa_cons (pv 5) (pa_cons (pv 8) pa_nil)))))
      (pss_one (ps_if (PW.pt (pw_or (pt_cmpR (op_neD hr.units) (pe_call G_law_own hr1 rfl g_law_own F_law_own.kp b_law_own .nil pass0 (pa_cons (pv 9) pa_nil)) (pv 10) (nomark _)) (pw_or (pt_cmpR (op_neD hr.units) (pe_call G_law_own hr1 rfl g_law_own F_law_own.kp b_law_own .nil pass0 (pa_cons (pv 3) pa_nil)) (pv 2) (nomark _)) (pw_or1 (pt_cmpR op_ne (pe_cmpR (op_eqM G_eq B_eq MT hr1) (pv 9) (pv 3) (nomark _)) (pe_cmpR (op_eqD hr.units) (pv 10) (pv 2) (nomark _)) (nomark _))))))
      (pss_one (ps_ret pe_bl))
      pss_nil))))))))
      (pss_one (ps_ret (pe_call G_law_chain_right hr1 rfl g_law_chain_right F_law_chain_right.kp b_law_chain_right .nil pass0 (pa_cons (pv 1) pa_nil)))))))))), ?_⟩
  -- the pen, a value
  refine ⟨.ref a, (by kernel_rfl), a, ns, rfl, hS, hlen, fun p z H1 s1 pn zc Z => ?_⟩
  refine ⟨.ref p, (by kernel_rfl), 4, by decide, p, z, rfl, Z, by rw [zc]; decide, fun ov t H2 G z2 S2 N2 ho2 dp sz ok => ?_⟩
  have dp5 : t.dep ≤ 5 := dp
  have sz341 : t.sz ≤ 341 := sz
  have ho := ho2.same N2.in_
  clear ho2 N2
  have Z2 := S2.pen
  have c2 := S2.c
  rw [zc] at c2
  have eD : nD 4 = 1279 ∨ nD 4 ≤ 2000 := .inr (by decide)
  have eD4 : nD 4 ≤ 2000 := by decide
  have eD1 : nD 1 ≤ 20 := by decide
  clear S2
  -- as it is made; its cells
  refine ⟨ov, (by kernel_rfl), ov, t, rfl, ho, by omega, by omega, fun vv H3 S3 hv3 => ?_⟩
  refine ⟨ov, (by kernel_rfl), ov, t, rfl, ho.same S3, by omega, by omega, fun cp cs H4 S4 ncp hcp hcs => ?_⟩
  refine ⟨vv, .ref cp, rfl, ?_⟩
  have ho4 := (ho.same S3).same S4
  have hv4 := hv3.same S4
  have Z4 := (Z2.same S3).same S4
  have lcs := Paired.length hcs
  rw [cells_len] at lcs
  clear ho S3 S4 ncp hv3 Z2
  -- its size, its places
  refine ⟨vv, (by kernel_rfl), vv, t, rfl, hv4, by omega, fun H5 S5 => ?_⟩
  refine ⟨.ref cp, (by kernel_rfl), cp, cs, rfl, .inl (SqL.of (S5 _ _ hcp)), rfl, _, rfl, ?_⟩
  refine ite_no (by rw [lcs, decide_eq_true rfl]; rfl) ?_
  refine ⟨vv, (by kernel_rfl), vv, t, rfl, hv4.same S5, by omega, fun pp ps H6 S6 hpp hpl => ?_⟩
  have T6 := S5.trans S6
  refine ⟨.ref cp, (by kernel_rfl), cp, rfl, ⟨_, SqL.of (T6 _ _ hcp)⟩, ?_⟩
  intro D nD'
  refine lc_list (K := K) (a := cp) (xs := cs) (fun j H' => ∃ gs : List V, H' D = some (.lst gs) ∧ gs.length = j ∧ PlsAt H' gs (((cellsT t).take j).map (·.1)) ∧ Same H6 H') ⟨[], upd_same, rfl, .nil, same_new nD'⟩ (fun j H' _ ⟨_, _, _, _, S⟩ => SqL.of (S _ _ (T6 _ _ hcp))) ?_ ?_
  · rintro j y H7 hj ⟨gs, hD, lg, hgs, S7⟩
    obtain ⟨c, hc', Tc, pc, yc, rfl, eTc, epc, _⟩ := paired_at hcs hj
    have lj := (List.getElem?_eq_some_iff.mp hj).1
    have T7 := T6.trans S7
    refine ⟨Tc, [.ref pc, yc], rfl, SqT.of (T7 _ _ eTc), rfl, .ref pc, [yc], rfl, yc, [], rfl, rfl, rfl, ?_⟩
    refine ⟨.ref pc, (by kernel_rfl), gs, hD, Nat.lt_of_le_of_lt (show gs.length ≤ 1000000 by omega) (by decide), ?_⟩
    refine ⟨gs ++ [.ref pc], upd_same, by simp [lg], ?_, same_put S7 nD'⟩
    rw [List.take_add_one, hc', List.map_append]
    exact PlsAt.put (paired_snoc ⟨pc, rfl, T7 _ _ epc⟩ hgs) hD (by intro _ z; cases z)
  · rintro H7 ⟨gs, hD, lg, hgs, S7⟩
    rw [lcs, ← cells_len t, List.take_length, cells_places] at hgs
    refine ⟨D, gs, rfl, .inl ⟨SqL.of hD, fun r nr => ?_⟩⟩
    have s8 := same_new (o := .tup gs) nr
    refine ⟨.tuple ((plT t).map dPl), .tuple ((plT t).map dPl), .tup (SqT.of (s8 _ _ (S7 _ _ hpp))) (dpAll_pls (hpl.same (S7.trans s8))), .tup (SqT.of upd_same) (dpAll_pls (hgs.same s8)), shaped_pls _, shaped_pls _, _, rfl, ?_⟩
    refine ite_no (by rw [SeqAt.eqv_refl _ (SeqAt.canLay_of_shaped (shaped_pls _))]; rfl) ?_
    have T8 := (T6.trans S7).trans s8
    have ho8 := ho4.same T8
    have hv8 := hv4.same T8
    have hc8 := hcs.same T8
    have hcp8 := T8 _ _ hcp
    have Z8 := Z4.same T8
    clear hD hgs hpl hpp s8 nr S7 T6 S6 S5 T8 ho4 hv4 hcs hcp Z4
    generalize upd H7 r (.tup gs) = H8 at ho8 hv8 hc8 hcp8 Z8 ⊢
    -- == and != of a second one
    refine ⟨vv, (by kernel_rfl), ov, (by kernel_rfl), ov, t, rfl, ho8, by omega, by omega, fun v2 H9 S9 h2 => ?_⟩
    refine ⟨t, t, hv8.same S9, h2, by omega, by omega, fun H10 S10 => ?_⟩
    refine ⟨_, _, _, _, true, rfl, .ty "bool", .base (.bl _), kit_ty (by decide +kernel), _, rfl, ?_⟩
    refine ite_no rfl ?_
    have T10 := S9.trans S10
    refine ⟨vv, (by kernel_rfl), ov, (by kernel_rfl), ov, t, rfl, ho8.same T10, by omega, by omega, fun v3 H11 S11 h3 => ?_⟩
    have T11 := T10.trans S11
    refine ⟨t, t, hv8.same T11, h3, by omega, by omega, ?_, fun H12 S12 => ?_⟩
    · cases t with
      | num i => exact .inl ⟨i, i, rfl, rfl⟩
      | mk m ts => exact .inr ⟨m, ts, m, ts, rfl, rfl⟩
    refine ⟨_, rfl, ite_no (by rw [decide_eq_true rfl]; rfl) ?_⟩
    have T12 := T11.trans S12
    have ho12 := ho8.same T12
    have hv12 := hv8.same T12
    have hc12 := hc8.same T12
    have hcp12 := T12 _ _ hcp8
    have Z12 := Z8.same T12
    clear ho8 hv8 hc8 hcp8 Z8 S9 S10 S11 S12 T10 T11 T12 h2 h3
    -- cell by cell
    refine ⟨.ref cp, (by kernel_rfl), 60, rfl, cp, cs, rfl, SqL.of hcp12, fun c6 n6 => ?_⟩
    rw [show (60 : Int) = ((60 : Nat) : Int) from rfl, cut_take]
    have s13 := same_new (o := .lst (cs.take 60)) n6
    have h6 := upd_same (H := H12) (a := c6) (o := .lst (cs.take 60))
    have hoB := ho12.same s13
    have hvB := hv12.same s13
    have hcB := hc12.same s13
    have hcpB := s13 _ _ hcp12
    have ZB := Z12.same s13
    clear ho12 hv12 hc12 hcp12 Z12 s13 n6
    generalize upd H12 c6 (.lst (cs.take 60)) = HB at h6 hoB hvB hcB hcpB ZB ⊢
    have c6p : c6 ≠ p := ne_of h6 ZB.at_ (by intro z; cases z)
    refine ⟨c6, rfl, ⟨_, SqL.of h6⟩, ?_⟩
    refine for_list (K := K) (a := c6) (xs := cs.take 60) (fun i σ H' => ∃ (z' : Pen) (v5 v6 v7 v8 v9 v10 : Option V), σ = [some (.ref a), some (.ref p), some ov, some vv, some (.ref cp), v5, v6, v7, v8, v9, v10] ∧ PS HB p (2000 + 40 * (i : Int)) H' z')
      ⟨z2, none, none, none, none, none, none, rfl, (PS.start ZB).le (by omega)⟩ (fun i σ H' _ ⟨_, _, _, _, _, _, _, _, S⟩ => SqL.of (S.keep _ _ c6p h6)) ?_ ?_
    · rintro i y σ H14 hi ⟨z', v5, v6, v7, v8, v9, v10, rfl, SP⟩
      have li : i < 60 := by
        have q := (List.getElem?_eq_some_iff.mp hi).1
        rw [List.length_take] at q
        omega
      have hi' : cs[i]? = some y := by
        rw [List.getElem?_take] at hi
        simpa [li] using hi
      obtain ⟨c, hc', Tc, pc, yc, rfl, eTc, epc, hyc⟩ := paired_at hcB hi'
      obtain ⟨pl, u⟩ := c
      have mc := List.mem_of_getElem? hc'
      have hat := cells_at t _ mc
      have lpl : pl.length < t.sz := cells_plen t _ mc
      obtain ⟨dpu, szu, oku⟩ := at_sub pl t u hat
      have oku' := oku ok
      have kt : ∀ a' xs, HB a' = some (.tup xs) → H14 a' = some (.tup xs) := fun a' xs q => SP.keep _ _ (ne_of q ZB.at_ (by intro z; cases z)) q
      refine ⟨Tc, [.ref pc, yc], rfl, SqT.of (kt _ _ eTc), rfl, .ref pc, [yc], rfl, yc, [], rfl, rfl, ?_⟩
      have hv14 := SP.v ZB hvB
      have ho14 := SP.o ZB hoB
      have hy14 := SP.o ZB hyc
      have pc14 := kt _ _ epc
      -- the part there
      refine ⟨vv, (by kernel_rfl), .ref pc, (by kernel_rfl), vv, pc, t, pl, rfl, hv14, by omega, pc14, by omega, fun z => (by rw [show atT t pl = some u from hat] at z; cases z), fun c' x H15 hcc S15 hx => ?_⟩
      obtain rfl : u = c' := Option.some.inj (hat.symm.trans hcc)
      refine ⟨x, u, rfl, hx, by omega, by omega, fun yo H16 G S16 N16 hyo => ?_⟩
      have T16 := S15.trans S16
      refine ⟨yc, (by kernel_rfl), dOf u, dOf u, dp_own (hyo.same N16.in_), dp_own (hy14.same T16), shaped_own oku' (by omega), shaped_own oku' (by omega), _, rfl, ?_⟩
      refine ite_no (by rw [SeqAt.eqv_refl _ (SeqAt.canLay_of_shaped (shaped_own oku' (by omega)))]; rfl) ?_
      have SP2 := SP.same T16
      clear hyo N16 hx
      -- two wrong places
      have pc16 := T16 _ _ pc14
      have hy16 := hy14.same T16
      have h99 : u.parts[99]? = none := by
        cases u with
        | num i => rfl
        | mk m ts => exact List.getElem?_eq_none (show ts.length ≤ 99 by have := oku'.2.1; omega)
      have ldp := at_len pl t u hat
      have dpos := u.dep_pos
      refine ⟨.ref pc, (by kernel_rfl), ?_⟩
      cases hy16 with
      | num iv =>
        refine ⟨.int iv, (by kernel_rfl), _, _, _, _, true, rfl, .ty "int", .base (.int iv), kit_ty (by decide +kernel), _, rfl, ?_⟩
        refine ite_no rfl ?_
        refine ⟨by show 1 ≤ sizeLine; decide, fun t1 nt1 => ?_⟩
        have sA := same_new (o := .tup [.int 0]) nt1
        refine rCatA_of (sA _ _ pc16) upd_same (sz_of (by simp; omega)) fun q1 H17 S17 e17 => ?_
        replace e17 : H17 q1 = some (.tup (plV (pl ++ [0]))) := by rw [e17]; simp
        have T17 := sA.trans S17
        refine ⟨.ref pc, (by kernel_rfl), by show 2 ≤ sizeLine; decide, fun t2 nt2 => ?_⟩
        have sB := same_new (o := .tup [.int 99, .int 0]) nt2
        refine rCatA_of (sB _ _ (T17 _ _ pc16)) upd_same (sz_of (by simp; omega)) fun q2 H18 S18 e18 => ?_
        replace e18 : H18 q2 = some (.tup (plV (pl ++ [99, 0]))) := by rw [e18]; simp
        replace e17 := S18 _ _ (sB _ _ e17)
        refine ⟨by show 2 ≤ sizeLine; decide, fun lw nlw => ?_⟩
        have sC := same_new (o := .lst [.ref q1, .ref q2]) nlw
        have T18 := ((T17.trans sB).trans S18).trans sC
        have hlw := upd_same (H := H18) (a := lw) (o := .lst [.ref q1, .ref q2])
        replace e17 := sC _ _ e17
        replace e18 := sC _ _ e18
        have w1 : wayL t (pl ++ [0]) = none := way_off hat rfl []
        have w2 : wayL t (pl ++ [99, 0]) = none := way_off hat h99 [0]
        generalize upd H18 lw (.lst [.ref q1, .ref q2]) = H19 at T18 hlw e17 e18 ⊢
        have SP5 := SP2.same T18
        have pc19 := T18 _ _ pc16
        refine ⟨lw, rfl, ⟨_, SqL.of hlw⟩, ?_⟩
        refine for_list (K := K) (a := lw) (xs := [.ref q1, .ref q2]) (fun j σ H' => ∃ v7', σ = [some (.ref a), some (.ref p), some ov, some vv, some (.ref cp), some (.ref pc), some (.int iv), v7', v8, v9, v10] ∧ Same H19 H') ⟨v7, rfl, fun _ _ e => e⟩ (fun j σ H' _ ⟨_, _, S⟩ => SqL.of (S _ _ hlw)) ?_ ?_
        · rintro j y' σ H20 hj ⟨v7', rfl, S20⟩
          obtain ⟨q, wp, rfl, hq, hwp, lwp⟩ : ∃ (q : Addr) (wp : List Nat), y' = .ref q ∧ H19 q = some (.tup (plV wp)) ∧ wayL t wp = none ∧ wp.length ≤ 1000 := by
            rcases j with _ | _ | j
            · simp at hj
              exact ⟨q1, _, hj.symm, e17, w1, by simp; omega⟩
            · simp at hj
              exact ⟨q2, _, hj.symm, e18, w2, by simp; omega⟩
            · simp at hj
          have hv20 := (SP5.same S20).v ZB hvB
          refine ⟨vv, (by kernel_rfl), .ref q, (by kernel_rfl), vv, q, t, wp, rfl, hv20, by omega, S20 _ _ hq, by omega, fun _ H21 S21 => ?_, fun c x H21 hc => (by rw [wayL_none _ _ hwp] at hc; cases hc)⟩
          refine ⟨rfl, _, rfl, ite_no rfl ?_⟩
          refine ⟨vv, (by kernel_rfl), .ref q, (by kernel_rfl), vv, q, t, wp, rfl, hv20.same S21, by omega, S21 _ _ (S20 _ _ hq), by omega, hwp, fun H22 S22 => ?_⟩
          refine ⟨_, rfl, ite_no rfl ?_⟩
          exact ⟨_, rfl, (S20.trans S21).trans S22⟩
        · rintro σ H20 ⟨v7', rfl, S20⟩
          have SP6 := SP5.same S20
          have pc20 := S20 _ _ pc19
          have c6 := SP6.c
          clear hlw e17 e18
          -- another part
          refine ⟨.ref p, (by kernel_rfl), 1, by decide, p, z', rfl, SP6.pen, by omega, fun yp tp H21 G z3 S21 N21 hyp dpp szp okp => ?_⟩
          have SP7 : PS HB p (2000 + 40 * (i : Int) + 20) H21 z3 := (SP6.step S21).le (by omega)
          have hyp21 := hyp.same N21.in_
          have szp5 : tp.sz ≤ 5 := szp
          have kt2 : ∀ a' xs, H20 a' = some (.tup xs) → H21 a' = some (.tup xs) := fun a' xs q => S21.keep _ _ (ne_of q SP6.pen.at_ (by intro z; cases z)) q
          have pc21 := kt2 _ _ pc20
          obtain ⟨ws, hws⟩ := way_of_at pl t _ hat
          have wne : wayL t pl ≠ none := by rw [hws]; intro z; cases z
          obtain ⟨pd, pz, pk⟩ := put_le pl t tp
          have okP := pk ok okp
          refine ⟨vv, (by kernel_rfl), .ref pc, (by kernel_rfl), yp, (by kernel_rfl), yp, tp, rfl, hyp21, by omega, by omega, fun vm H22 S22 hvm => ?_⟩
          have hv21 := SP7.v ZB hvB
          have ho21 := SP7.o ZB hoB
          refine ⟨vv, vm, pc, t, tp, pl, rfl, hv21.same S22, by omega, S22 _ _ pc21, by omega, hvm, wne, fun vo H23 S23 hvo => ?_⟩
          have T23 := S22.trans S23
          refine ⟨ov, (by kernel_rfl), .ref pc, (by kernel_rfl), yp, (by kernel_rfl), ov, yp, pc, t, tp, pl, H23, rfl, fun _ _ e => e, T23 _ _ pc21, ho21.same T23, hyp21.same T23, wne, by omega, fun yd H24 G2 S24 b1 b2 _ hyd => ?_⟩
          have T24 := T23.trans S24
          have hyd24 := hyd.same b2
          generalize hP : putT t pl tp = P at hvo hyd24 pd pz okP
          -- the three comparisons
          refine ⟨vo, (by kernel_rfl), vo, P, rfl, hvo.same S24, by omega, by omega, fun y1 H25 G25 S25 N25 hy1 => ?_⟩
          refine ⟨yd, (by kernel_rfl), dOf P, dOf P, dp_own (hy1.same N25.in_), dp_own (hyd24.same S25), shaped_own okP (by omega), shaped_own okP (by omega), _, rfl, ?_⟩
          refine ite_no (by rw [SeqAt.eqv_refl _ (SeqAt.canLay_of_shaped (shaped_own okP (by omega)))]; rfl) ?_
          have T25 := T24.trans S25
          refine ⟨vv, (by kernel_rfl), vv, t, rfl, hv21.same T25, by omega, by omega, fun y2 H26 G26 S26 N26 hy2 => ?_⟩
          have T26 := T25.trans S26
          refine ⟨ov, (by kernel_rfl), dOf t, dOf t, dp_own (hy2.same N26.in_), dp_own (ho21.same T26), shaped_own ok (by omega), shaped_own ok (by omega), _, rfl, ?_⟩
          refine ite_no (by rw [SeqAt.eqv_refl _ (SeqAt.canLay_of_shaped (shaped_own ok (by omega)))]; rfl) ?_
          refine ⟨vo, (by kernel_rfl), vv, (by kernel_rfl), P, t, ((hvo.same S24).same S25).same S26, hv21.same T26, by omega, by omega, fun H27 S27 => ?_⟩
          have T27 := T26.trans S27
          refine ⟨yd, (by kernel_rfl), ov, (by kernel_rfl), dOf P, dOf t, dp_own (((hyd24.same S25).same S26).same S27), dp_own (ho21.same T27), shaped_own okP (by omega), shaped_own ok (by omega), rfl, _, rfl, ?_⟩
          refine ite_no (by rw [eqv_own, decide_eq_true rfl]; rfl) ?_
          exact ⟨z3, _, _, _, _, _, _, rfl, (SP7.same T27).le (by omega)⟩
      | @mk T1 lx m xs ts eT el hxs =>
        refine ⟨.ref T1, (by kernel_rfl), _, _, _, _, false, rfl, .ty "int", .base (.tup eT), kit_ty (by decide +kernel), _, rfl, ?_⟩
        refine ite_yes rfl ?_
        have lxs := hxs.len
        have hoff : (Tr.mk m ts).parts[xs.length]? = none := List.getElem?_eq_none (show ts.length ≤ xs.length by omega)
        refine ⟨.ref T1, (by kernel_rfl), T1, _, 1, .ref lx, rfl, rfl, SqT.of eT, rfl, lx, _, rfl, .inl (SqL.of el), ?_⟩
        refine ⟨by show 1 ≤ sizeLine; decide, fun t1 nt1 => ?_⟩
        have sA := same_new (o := .tup [.int (xs.length : Int)]) nt1
        refine rCatA_of (sA _ _ pc16) upd_same (sz_of (by simp; omega)) fun q1 H17 S17 e17 => ?_
        replace e17 : H17 q1 = some (.tup (plV (pl ++ [xs.length]))) := by rw [e17]; simp
        have T17 := sA.trans S17
        refine ⟨.ref pc, (by kernel_rfl), by show 2 ≤ sizeLine; decide, fun t2 nt2 => ?_⟩
        have sB := same_new (o := .tup [.int 99, .int 0]) nt2
        refine rCatA_of (sB _ _ (T17 _ _ pc16)) upd_same (sz_of (by simp; omega)) fun q2 H18 S18 e18 => ?_
        replace e18 : H18 q2 = some (.tup (plV (pl ++ [99, 0]))) := by rw [e18]; simp
        replace e17 := S18 _ _ (sB _ _ e17)
        refine ⟨by show 2 ≤ sizeLine; decide, fun lw nlw => ?_⟩
        have sC := same_new (o := .lst [.ref q1, .ref q2]) nlw
        have T18 := ((T17.trans sB).trans S18).trans sC
        have hlw := upd_same (H := H18) (a := lw) (o := .lst [.ref q1, .ref q2])
        replace e17 := sC _ _ e17
        replace e18 := sC _ _ e18
        have w1 : wayL t (pl ++ [xs.length]) = none := way_off hat hoff []
        have w2 : wayL t (pl ++ [99, 0]) = none := way_off hat h99 [0]
        generalize upd H18 lw (.lst [.ref q1, .ref q2]) = H19 at T18 hlw e17 e18 ⊢
        have SP5 := SP2.same T18
        have pc19 := T18 _ _ pc16
        refine ⟨lw, rfl, ⟨_, SqL.of hlw⟩, ?_⟩
        refine for_list (K := K) (a := lw) (xs := [.ref q1, .ref q2]) (fun j σ H' => ∃ v7', σ = [some (.ref a), some (.ref p), some ov, some vv, some (.ref cp), some (.ref pc), some (.ref T1), v7', v8, v9, v10] ∧ Same H19 H') ⟨v7, rfl, fun _ _ e => e⟩ (fun j σ H' _ ⟨_, _, S⟩ => SqL.of (S _ _ hlw)) ?_ ?_
        · rintro j y' σ H20 hj ⟨v7', rfl, S20⟩
          obtain ⟨q, wp, rfl, hq, hwp, lwp⟩ : ∃ (q : Addr) (wp : List Nat), y' = .ref q ∧ H19 q = some (.tup (plV wp)) ∧ wayL t wp = none ∧ wp.length ≤ 1000 := by
            rcases j with _ | _ | j
            · simp at hj
              exact ⟨q1, _, hj.symm, e17, w1, by simp; omega⟩
            · simp at hj
              exact ⟨q2, _, hj.symm, e18, w2, by simp; omega⟩
            · simp at hj
          have hv20 := (SP5.same S20).v ZB hvB
          refine ⟨vv, (by kernel_rfl), .ref q, (by kernel_rfl), vv, q, t, wp, rfl, hv20, by omega, S20 _ _ hq, by omega, fun _ H21 S21 => ?_, fun c x H21 hc => (by rw [wayL_none _ _ hwp] at hc; cases hc)⟩
          refine ⟨rfl, _, rfl, ite_no rfl ?_⟩
          refine ⟨vv, (by kernel_rfl), .ref q, (by kernel_rfl), vv, q, t, wp, rfl, hv20.same S21, by omega, S21 _ _ (S20 _ _ hq), by omega, hwp, fun H22 S22 => ?_⟩
          refine ⟨_, rfl, ite_no rfl ?_⟩
          exact ⟨_, rfl, (S20.trans S21).trans S22⟩
        · rintro σ H20 ⟨v7', rfl, S20⟩
          have SP6 := SP5.same S20
          have pc20 := S20 _ _ pc19
          have c6 := SP6.c
          clear hlw e17 e18
          -- another part
          refine ⟨.ref p, (by kernel_rfl), 1, by decide, p, z', rfl, SP6.pen, by omega, fun yp tp H21 G z3 S21 N21 hyp dpp szp okp => ?_⟩
          have SP7 : PS HB p (2000 + 40 * (i : Int) + 20) H21 z3 := (SP6.step S21).le (by omega)
          have hyp21 := hyp.same N21.in_
          have szp5 : tp.sz ≤ 5 := szp
          have kt2 : ∀ a' xs, H20 a' = some (.tup xs) → H21 a' = some (.tup xs) := fun a' xs q => S21.keep _ _ (ne_of q SP6.pen.at_ (by intro z; cases z)) q
          have pc21 := kt2 _ _ pc20
          obtain ⟨ws, hws⟩ := way_of_at pl t _ hat
          have wne : wayL t pl ≠ none := by rw [hws]; intro z; cases z
          obtain ⟨pd, pz, pk⟩ := put_le pl t tp
          have okP := pk ok okp
          refine ⟨vv, (by kernel_rfl), .ref pc, (by kernel_rfl), yp, (by kernel_rfl), yp, tp, rfl, hyp21, by omega, by omega, fun vm H22 S22 hvm => ?_⟩
          have hv21 := SP7.v ZB hvB
          have ho21 := SP7.o ZB hoB
          refine ⟨vv, vm, pc, t, tp, pl, rfl, hv21.same S22, by omega, S22 _ _ pc21, by omega, hvm, wne, fun vo H23 S23 hvo => ?_⟩
          have T23 := S22.trans S23
          refine ⟨ov, (by kernel_rfl), .ref pc, (by kernel_rfl), yp, (by kernel_rfl), ov, yp, pc, t, tp, pl, H23, rfl, fun _ _ e => e, T23 _ _ pc21, ho21.same T23, hyp21.same T23, wne, by omega, fun yd H24 G2 S24 b1 b2 _ hyd => ?_⟩
          have T24 := T23.trans S24
          have hyd24 := hyd.same b2
          generalize hP : putT t pl tp = P at hvo hyd24 pd pz okP
          -- the three comparisons
          refine ⟨vo, (by kernel_rfl), vo, P, rfl, hvo.same S24, by omega, by omega, fun y1 H25 G25 S25 N25 hy1 => ?_⟩
          refine ⟨yd, (by kernel_rfl), dOf P, dOf P, dp_own (hy1.same N25.in_), dp_own (hyd24.same S25), shaped_own okP (by omega), shaped_own okP (by omega), _, rfl, ?_⟩
          refine ite_no (by rw [SeqAt.eqv_refl _ (SeqAt.canLay_of_shaped (shaped_own okP (by omega)))]; rfl) ?_
          have T25 := T24.trans S25
          refine ⟨vv, (by kernel_rfl), vv, t, rfl, hv21.same T25, by omega, by omega, fun y2 H26 G26 S26 N26 hy2 => ?_⟩
          have T26 := T25.trans S26
          refine ⟨ov, (by kernel_rfl), dOf t, dOf t, dp_own (hy2.same N26.in_), dp_own (ho21.same T26), shaped_own ok (by omega), shaped_own ok (by omega), _, rfl, ?_⟩
          refine ite_no (by rw [SeqAt.eqv_refl _ (SeqAt.canLay_of_shaped (shaped_own ok (by omega)))]; rfl) ?_
          refine ⟨vo, (by kernel_rfl), vv, (by kernel_rfl), P, t, ((hvo.same S24).same S25).same S26, hv21.same T26, by omega, by omega, fun H27 S27 => ?_⟩
          have T27 := T26.trans S27
          refine ⟨yd, (by kernel_rfl), ov, (by kernel_rfl), dOf P, dOf t, dp_own (((hyd24.same S25).same S26).same S27), dp_own (ho21.same T27), shaped_own okP (by omega), shaped_own ok (by omega), rfl, _, rfl, ?_⟩
          refine ite_no (by rw [eqv_own, decide_eq_true rfl]; rfl) ?_
          exact ⟨z3, _, _, _, _, _, _, rfl, (SP7.same T27).le (by omega)⟩
    · rintro σ H14 ⟨z', v5, v6, v7, v8, v9, v10, rfl, SP⟩
      have lt : (cs.take 60).length ≤ 60 := by rw [List.length_take]; omega
      exact ⟨.ref p, (by kernel_rfl), p, z', rfl, SP.pen, (by have := SP.c; omega), fun _ => rfl⟩
end
end Nm
namespace Nm
open PySem PySem.Spec PyProof.Rows L2
/-! ### the end, where the law's own body asks what guards run: none, at the caller -/
theorem entry {P : Program} {w : World} {K : PySem.W.Frag} {h : Heap} {a : Addr} {vs : List Value} {ns : List Int} (KX : K.In h) (ha : h.get? a = some { cls := .type "list", data := .seq vs.toArray }) (hi : IntsAre vs ns) (hl : ns.length ≤ sizeLine) :
    ∃ H : Hp, SqL K H a (ns.map V.int) ∧ HOk P w H h ∧ ∀ b u, H b = some u → b = a ∧ K.lookup a = none ∧ u = .frz { cls := .type "list", data := .seq vs.toArray } (.lst (ns.map V.int)) := by
  have rv := vals_ints hi
  have lenV := hi.length
  cases hk : K.lookup a with
  | some o =>
    have e := (KX a o hk).symm.trans ha
    cases e
    exact ⟨fun _ => none, .inr ⟨_, vs.toArray, _, hk, rfl, rfl, rfl, by rw [List.size_toArray, lenV]; exact hl, by simpa using rv⟩, (fun b u z => nomatch (show (none : Option HO) = some u from z)), fun b u z => nomatch (show (none : Option HO) = some u from z)⟩
  | none =>
    let o : Obj := { cls := .type "list", data := .seq vs.toArray }
    have at_ : ∀ b u, (if b = a then some (HO.frz o (.lst (ns.map V.int))) else none) = some u → b = a ∧ u = .frz o (.lst (ns.map V.int)) := fun b u z => by
      by_cases q : b = a
      · rw [if_pos q] at z
        exact ⟨q, (Option.some.inj z).symm⟩
      · rw [if_neg q] at z
        cases z
    refine ⟨fun b => if b = a then some (.frz o (.lst (ns.map V.int))) else none, .inl (.inr ⟨o, if_pos rfl⟩), fun b u z => ?_, fun b u z => ⟨(at_ b u z).1, rfl, (at_ b u z).2⟩⟩
    obtain ⟨rfl, rfl⟩ := at_ b u z
    exact ⟨ha, by rw [List.length_map]; exact hl, vs, _, rv, ha⟩
/-- a law's body, at the caller, from its term of rules and its reading -/
theorem walk_g {l : PySem.W.OpenLaw} {k : Nat} {q : Program} {loose : List Str} {XP : (Str → Option Value) → Heap → Prop} {YP : World → Heap → Prop} {d : DefRec} {K : Params → PySem.W.Frag} {x : Str} {N : List Str} {st : Stmt} {qual : Str}
    (hn : l.most = some 63) (hdf : d.params.defaults = []) (hr : Room (k + 1) callerA) (S : FnScope N [x] (defScope st)) (hY : ∀ (w : World) (h : Heap), YP w h → (K w.params).In h)
    (F : ∀ (w : World) (mg : Str → Option Value) (fa : Addr) (h : Heap), (K w.params).In h → h.Ns mainGlobals mg → mg d.name = some (.ref fa) →
      ∃ fd : FuncData, Fun (K w.params) qual qual st fa fd ∧ (∀ (s : Shared) (u : Value), BindsTo s fd ⟨[u], []⟩ [(x, u)]) ∧
        ∀ (base : Heap) (cdv : Value) (s : Shared) (H : Hp) (a : Addr) (ns : List Int), (K w.params).In base → base.Ns mainGlobals mg → ns.length ≤ 63 → SqL (K w.params) H a (ns.map V.int) →
          ∃ t, PSs (cxOf CX0 l.prog w (K w.params) mg base N qual (defScope st) fa cdv callerA [] s H E0).nox (defBody st) t ∧ t { nx := fun _ _ => False, rt := fun v _ => v = .bl true } (start N [.ref a]) H) :
    PySem.W.WalkO q loose XP YP l.row.toRowW d [] (fun f vs => PySem.call f vs) := by
  refine Att.attach_call hn hdf ?_
  intro w s₀ s₁ mg mb fa o pm cd doc a vs ns G Y ho hd hcd hmg hobj hints hlen hg
  have KX := hY w _ Y
  obtain ⟨fd, FF, hb, body⟩ := F w mg fa _ KX G.T.g hmg
  obtain ⟨H, hS, hok, only⟩ := entry (P := l.prog) (w := w) KX hobj hints (Nat.le_trans hlen (by decide))
  -- what the base keeps: all but the script
  have keepB : ∀ b o, s₁.heap.get? b = some o → (b = a → (K w.params).lookup a = none → False) → (hidT s₁.heap H).get? b = some o := fun b o e n => hidT_get e (by
    cases z : H b with
    | none => rfl
    | some u => exact (n (only b u z).1 (only b u z).2.1).elim)
  have KB : (K w.params).In (hidT s₁.heap H) := fun b o e => keepB b o (KX b o e) fun q z => by
    rw [q, z] at e
    cases e
  have nsB : ∀ {b : Addr} {m : Str → Option Value}, s₁.heap.Ns b m → (hidT s₁.heap H).Ns b m := fun {b m} n => by
    obtain ⟨o, es, ep, e, hdat, r⟩ := n
    refine ⟨o, es, ep, keepB b o e fun q _ => ?_, hdat, r⟩
    rw [q, hobj] at e
    cases e
    cases hdat
  have limB : (hidT s₁.heap H).NoLimit := by
    obtain ⟨mc, h1, h2⟩ := G.T.nolimit
    exact ⟨mc, nsB h1, h2⟩
  have e0 : Env0 l.prog w (K w.params) mg (hidT s₁.heap H) callerA [] s₁ H :=
    { frames := rfl, mod := ⟨KB, nsB G.T.g, ⟨mb, nsB G.T.b, G.T.builtins⟩, limB⟩, bs := fun b o e => of_hidT e, bsz := Nat.le_of_eq (hidT_size _ _), funs := trivial, frf := (fun b z => by cases z), hok := hok, bare := .of_eq hg }
  obtain ⟨oc, od, kV, dc, pmv, an, cdv, ct, osl, rfl, lk, hcode⟩ := FF.ex
  have hpar : (defScope st).names.lookup x = some .local ∨ (defScope st).names.lookup x = some .cell := S.par x (List.mem_singleton.mpr rfl)
  refine Att.call_fn KX G.T.nolimit lk hcode hr.depth (hb s₁ (.ref a)) ?_ (fun s2 ic => ?_) S.co S.gen S.kind
  · rcases hpar with z | z <;> simp [z]
  obtain ⟨t, ht, hq⟩ := body _ cdv s₁ H a ns KB (nsB G.T.g) hlen hS
  have I : Inv (cxOf CX0 l.prog w (K w.params) mg (hidT s₁.heap H) N qual (defScope st) fa cdv callerA [] s₁ H E0) [] (start N [.ref a]) H s2 := inv_start S hr.hd e0 rfl (.cons rfl .nil) ic
  have old : ∀ (s' : Shared) (σ' : L2.St) (H' : Hp), Inv (cxOf CX0 l.prog w (K w.params) mg (hidT s₁.heap H) N qual (defScope st) fa cdv callerA [] s₁ H E0) [] σ' H' s' → OldK s₁.heap s'.heap := fun s' σ' H' J => by
    refine OldK.of_keep fun b o e => ?_
    cases z : H b with
    | none => exact J.base.keep b o e z (by intro y; cases y) (by intro y; cases y)
    | some u =>
      obtain ⟨_, _, rfl⟩ := only b u z
      have p1 := (hok b _ z).1
      have p2 := (J.hok b _ (J.base.frzs b _ _ z)).1
      rw [e] at p1
      cases p1
      exact p2
  refine wpAny_mono (ht.nox.run [] s2 _ H _ I hq) ?_ ?_
  · intro fl s' hs
    cases fl with
    | ret u =>
      obtain ⟨v, σ', H', J, rv, q⟩ := hs
      have q' : v = V.bl true := q
      subst q'
      have ru : u = Value.bool true := rv
      subst ru
      exact ⟨rfl, old _ _ _ J, J.os, J.bare⟩
    | next =>
      obtain ⟨_, _, _, q⟩ := hs
      exact False.elim q
    | brk =>
      obtain ⟨_, _, _, q⟩ := hs
      exact False.elim q
    | cont =>
      obtain ⟨_, _, _, q⟩ := hs
      exact False.elim q
  · intro e s' hs
    exact wpAny_mono hs (fun _ _ z => False.elim z) fun _ _ z => False.elim z
end Nm
namespace Nm
open PySem PySem.Spec PyProof.Rows L2
/-! ### the end: what the top has written -/
/-- a def of the text, raw -/
structure FRaw (K : PySem.W.Frag) (x qual : Str) (st : Stmt) (f : Addr) : Prop where
  ex : ∃ (oc : Value) (od : Option Addr) (kV doc pm : Value) (an : Option Addr) (cdv ct : Value) (osl : Array (Option Value)),
    K.lookup f = some ⟨oc, od, .func (PySem.W.fnOf x qual (defArgs st) (defBody st) (defScope st) .none kV doc pm an cdv ct), osl⟩ ∧ PySem.W.codeIn K cdv qual = true
  kp : PySem.W.keepIn K (.ref f) = true
theorem fraw_mk {K : PySem.W.Frag} {x qual : Str} {st : Stmt} {f : Addr} {oc : Value} {od an : Option Addr} {osl : Array (Option Value)} {kV doc pm cdv ct : Value} (l : K.lookup f = some ⟨oc, od, .func (PySem.W.fnOf x qual (defArgs st) (defBody st) (defScope st) .none kV doc pm an cdv ct), osl⟩)
    (c : PySem.W.codeIn K cdv qual = true) (k : PySem.W.keepIn K (.ref f) = true) : FRaw K x qual st f := ⟨⟨oc, od, kV, doc, pm, an, cdv, ct, osl, l, c⟩, k⟩

abbrev sNoName : Stmt := inClass (top 2) 0
theorem kit_own {K : PySem.W.Frag} {C : Addr} {t : Value} {b : Bool} (n : (t == .ref C) = false) (i : PySem.W.isClsIn K C = true) (y : PySem.W.typeIn K (.ref C) = some (.type "type")) (s : PySem.W.subIn K t (.ref C) = some b) : PySem.W.kitOne K t (.ref C) = some b := by
  unfold PySem.W.kitOne
  rw [n]
  have i' : (PySem.W.clsIn K C).isSome = true := i
  show (if ((PySem.W.clsIn K C).isSome && PySem.W.typeIn K (.ref C) == some (.type "type")) = true then PySem.W.subIn K t (.ref C) else none) = some b
  rw [i', y, if_pos (by rfl)]
  exact s
theorem kit_blt {K : PySem.W.Frag} {C : Addr} {T : String} {b : Bool} (m : PySem.W.kitMeta T = true) (s : PySem.W.subIn K (.ref C) (.type T) = some b) : PySem.W.kitOne K (.ref C) (.type T) = some b := by
  show (if (Value.ref C == Value.type T) = true then some true else if PySem.W.kitMeta T = true then PySem.W.subIn K (.ref C) (.type T) else none) = some b
  rw [if_neg (by simp), if_pos m]
  exact s
theorem exm_self {K : PySem.W.Frag} {S : Addr} (h1 : PySem.W.subIn K (.ref S) (.type "BaseException") = some true) (h2 : PySem.W.isClsIn K S = true) (h3 : PySem.W.typeIn K (.ref S) = some (.type "type")) (h4 : PySem.W.subIn K (.ref S) (.ref S) = some true) :
    PySem.W.exmOne K (.ref S) (.ref S) = some true := by
  have a1 : (PySem.W.subIn K (.ref S) (.type "BaseException") == some true) = true := by rw [h1]; rfl
  have a2 : ((PySem.W.clsIn K S).isSome && PySem.W.typeIn K (.ref S) == some (.type "type")) = true := by
    rw [show (PySem.W.clsIn K S).isSome = true from h2, h3]
    rfl
  show (if (PySem.W.subIn K (.ref S) (.type "BaseException") == some true) = true then (if ((PySem.W.clsIn K S).isSome && PySem.W.typeIn K (.ref S) == some (.type "type")) = true then PySem.W.subIn K (.ref S) (.ref S) else none) else none) = some true
  rw [if_pos a1, if_pos a2]
  exact h4

theorem fin {P : Program} {w : World} {K : PySem.W.Frag} {h : Heap} {mg : Str → Option Value} {fa C fE f0 CN fN J NN fP fI fW fS fL fA fV f1 fD fQ f2 f3 f4 f5 f6 f7 f8 fz : Addr} {nm qn : Str} {bs : List Value} {sn : List Str} {sub : List Value} {ab : Bool} {col : Option Bool} {dd odN anN : Option Addr} {m0 m1 m2 m3 m5 : Option Value} {ocN dcN pmN cdN ctN : Value} {slN : Array (Option Value)} (X : K.In h) (G : h.Ns mainGlobals mg) (hfa : mg "law" = some (.ref fa))
    (z_isinstance : PySem.W.nsIn K mainGlobals "isinstance" = some none)
    (z_len : PySem.W.nsIn K mainGlobals "len" = some none)
    (z_range : PySem.W.nsIn K mainGlobals "range" = some none)
    (z_reversed : PySem.W.nsIn K mainGlobals "reversed" = some none)
    (z_tuple : PySem.W.nsIn K mainGlobals "tuple" = some none)
    (z_list : PySem.W.nsIn K mainGlobals "list" = some none)
    (z_int : PySem.W.nsIn K mainGlobals "int" = some none)
    (z_bool : PySem.W.nsIn K mainGlobals "bool" = some none)
    (z_zip : PySem.W.nsIn K mainGlobals "zip" = some none)
    (z_enumerate : PySem.W.nsIn K mainGlobals "enumerate" = some none)
    (m_g : PySem.W.nsIn K mainGlobals "Made" = some (some (.ref C)))
    (m_pg : PySem.W.plainGet K C Str.empty = true)
    (m_hd : PySem.W.hasDictIn K C = true)
    (m_po : PySem.W.plainOver K C = true)
    (m_sa : PySem.W.findIn K (.ref C) "__setattr__" = some (some (.builtin "object.__setattr__")))
    (m_nM : PySem.W.findIn K (.ref C) "maker" = some none)
    (m_nP : PySem.W.findIn K (.ref C) "parts" = some none)
    (m_eqF : PySem.W.findIn K (.ref C) "__eq__" = some (some (.ref fE)))
    (m_eqK : PySem.W.isFn K (.ref fE) = true)
    (m_neF : PySem.W.findIn K (.ref C) "__ne__" = some (some (.builtin "object.__ne__")))
    (m_subI : PySem.W.subIn K (.type "int") (.ref C) = some false)
    (m_subC : PySem.W.subIn K (.ref C) (.type "int") = some false)
    (m_subB : PySem.W.subIn K (.ref C) (.type "bool") = some false)
    (m_sO : PySem.W.subIn K (.ref C) (.type "object") = some true)
    (m_iC : PySem.W.isClsIn K C = true)
    (m_ty : PySem.W.typeIn K (.ref C) = some (.type "type"))
    (m_ca : PySem.W.findIn K (.ref C) "__class__" = some (some (.builtin "object.__class__")))
    (m_gt : PySem.W.specialIn K (.builtin "object.__class__") "__get__" = some (some (.builtin "getset_descriptor.__get__")))
    (m_tk : PySem.W.takesIn K (.builtin "object.__class__") = some true)
    (m_mo : PySem.W.mroIn K C (.type "object") = some true)
    (m_mk : PySem.W.makesIn K C = true)
    (m_in : PySem.W.findIn K (.ref C) "__init__" = some (some (.ref f0)))
    (m_fn : PySem.W.isFn K (.ref f0) = true)
    (m_kp : PySem.W.keepIn K (.ref C) = true)
    (n_g : PySem.W.nsIn K mainGlobals "NoName" = some (some (.ref CN)))
    (n_x : K.lookup CN = some (excClassObj nm qn CN NN bs [.ref J, .type "ValueError", .type "Exception", .type "BaseException", .type "object"] true sn sub ab col dd m0 m1 m2 m3 m5 "ValueError.__new__"))
    (n_sa : PySem.W.findIn K (.ref CN) "__setattr__" = some (some (.builtin "object.__setattr__")))
    (n_ga : PySem.W.findIn K (.ref CN) "__getattribute__" = some (some (.builtin "BaseException.__getattribute__")))
    (n_gg : PySem.W.findIn K (.ref CN) "__getattr__" = some none)
    (n_nb : PySem.W.findIn K (.ref CN) "name" = some none)
    (n_in : PySem.W.findIn K (.ref CN) "__init__" = some (some (.ref fN)))
    (n_tC : PySem.W.typeIn K (.ref fN) = some (.type "function"))
    (n_l : K.lookup fN = some ⟨ocN, odN, .func (PySem.W.fnOf "__init__" "NoName.__init__" (defArgs sNoName) (defBody sNoName) (defScope sNoName) .none .none dcN pmN anN cdN ctN), slN⟩)
    (n_c : PySem.W.codeIn K cdN "NoName.__init__" = true)
    (n_k : PySem.W.keepIn K (.ref CN) = true)
    (n_e : PySem.W.subIn K (.ref CN) (.type "BaseException") = some true)
    (n_t : PySem.W.typeIn K (.ref CN) = some (.type "type"))
    (n_h : PySem.W.hasDictIn K CN = true)
    (n_i : PySem.W.isClsIn K CN = true)
    (n_s : PySem.W.subIn K (.ref CN) (.ref CN) = some true)
    (d_init : FRaw K "__init__" "Made.__init__" sMadeinit f0)
    (d_eq : FRaw K "__eq__" "Made.__eq__" sMadeeq fE)
    (g_parts_of : PySem.W.nsIn K mainGlobals "parts_of" = some (some (.ref fP)))
    (d_parts_of : FRaw K "parts_of" "parts_of" spartsof fP)
    (g_is_integer : PySem.W.nsIn K mainGlobals "is_integer" = some (some (.ref fI)))
    (d_is_integer : FRaw K "is_integer" "is_integer" sisinteger fI)
    (g_way_down : PySem.W.nsIn K mainGlobals "way_down" = some (some (.ref fW)))
    (d_way_down : FRaw K "way_down" "way_down" swaydown fW)
    (g_size_of : PySem.W.nsIn K mainGlobals "size_of" = some (some (.ref fS)))
    (d_size_of : FRaw K "size_of" "size_of" ssizeof fS)
    (g_places_of : PySem.W.nsIn K mainGlobals "places_of" = some (some (.ref fL)))
    (d_places_of : FRaw K "places_of" "places_of" splacesof fL)
    (g_part_at : PySem.W.nsIn K mainGlobals "part_at" = some (some (.ref fA)))
    (d_part_at : FRaw K "part_at" "part_at" spartat fA)
    (g_value_with : PySem.W.nsIn K mainGlobals "value_with" = some (some (.ref fV)))
    (d_value_with : FRaw K "value_with" "value_with" svaluewith fV)
    (g_law_pen : PySem.W.nsIn K mainGlobals "_law_pen" = some (some (.ref f1)))
    (d_law_pen : FRaw K "_law_pen" "_law_pen" sPen f1)
    (g_law_draw : PySem.W.nsIn K mainGlobals "_law_draw" = some (some (.ref fD)))
    (d_law_draw : FRaw K "_law_draw" "_law_draw" sDraw fD)
    (g_law_pick : PySem.W.nsIn K mainGlobals "_law_pick" = some (some (.ref fQ)))
    (d_law_pick : FRaw K "_law_pick" "_law_pick" sPick fQ)
    (g_law_own : PySem.W.nsIn K mainGlobals "_law_own" = some (some (.ref f2)))
    (d_law_own : FRaw K "_law_own" "_law_own" sLown f2)
    (g_law_made : PySem.W.nsIn K mainGlobals "_law_made" = some (some (.ref f3)))
    (d_law_made : FRaw K "_law_made" "_law_made" sLmade f3)
    (g_law_any_value : PySem.W.nsIn K mainGlobals "_law_any_value" = some (some (.ref f4)))
    (d_law_any_value : FRaw K "_law_any_value" "_law_any_value" sLanyvalue f4)
    (g_law_cells : PySem.W.nsIn K mainGlobals "_law_cells" = some (some (.ref f5)))
    (d_law_cells : FRaw K "_law_cells" "_law_cells" sLcells f5)
    (g_law_put : PySem.W.nsIn K mainGlobals "_law_put" = some (some (.ref f6)))
    (d_law_put : FRaw K "_law_put" "_law_put" sLput f6)
    (g_law_no_place : PySem.W.nsIn K mainGlobals "_law_no_place" = some (some (.ref f7)))
    (d_law_no_place : FRaw K "_law_no_place" "_law_no_place" sLnoplace f7)
    (g_law_chain_right : PySem.W.nsIn K mainGlobals "_law_chain_right" = some (some (.ref f8)))
    (d_law_chain_right : FRaw K "_law_chain_right" "_law_chain_right" sLchainright f8)
    (g_law : PySem.W.nsIn K mainGlobals "law" = some (some (.ref fz)))
    (d_law : FRaw K "law" "law" slaw fz)
    : ∃ fd : FuncData, Fun K "law" "law" slaw fa fd ∧ (∀ (s : Shared) (u : Value), BindsTo s fd ⟨[u], []⟩ [("_law_script", u)]) ∧
        ∀ (base : Heap) (cdv : Value) (s : Shared) (H : Hp) (a : Addr) (ns : List Int), K.In base → base.Ns mainGlobals mg → ns.length ≤ 63 → SqL K H a (ns.map V.int) →
          ∃ t, PSs (cxOf CX0 P w K mg base Nlaw "law" (defScope slaw) fa cdv callerA [] s H E0).nox (defBody slaw) t ∧ t { nx := fun _ _ => False, rt := fun v _ => v = .bl true } (start Nlaw [.ref a]) H := by
  have e := hfa.symm.trans (PySem.W.mg_of X G g_law)
  cases e
  have TN : PySem.NoNX.NoNTxt K mg CN fN :=
    { gC := PySem.W.mg_of X G n_g, cls := ⟨nm, qn, NN, bs, _, sn, sub, ab, col, dd, m0, m1, m2, m3, m5, n_x, (show PySem.HandSPX.refsVE [.type "ValueError", .type "Exception", .type "BaseException", .type "object"] = true by decide +kernel)⟩, sa := n_sa, ga := n_ga, gg := n_gg, noN := n_nb, iC := n_in, tC := n_tC, kC := n_k, exC := n_e, tyC := n_t, hdC := n_h, te := exm_self n_e n_i n_t n_s,
      fn := ⟨_, _, _, _, _, _, _, _, _, _, _, _, _, _, n_l, n_c⟩ }
  have MT : MadeTxt K mg C fE :=
    { cl := ⟨m_pg, m_hd, m_po, m_sa⟩, nM := m_nM, nP := m_nP, gM := PySem.W.mg_of X G m_g, eqF := m_eqF, eqK := m_eqK, neF := m_neF, subI := m_subI, subC := m_subC, kitC := (by unfold PySem.W.kitOne; rw [if_pos (by simp)]), kitI := kit_own rfl m_iC m_ty m_subI, kitB := kit_blt (by decide +kernel) m_subB, kitN := kit_blt (by decide +kernel) m_subC, ca := m_ca, gt := m_gt, tk := m_tk, mo := m_mo }
  have MkC : Mk K C f0 := ⟨m_mk, m_in, m_fn, m_kp⟩
  obtain ⟨oc, od, kV, doc, pm, an, cdv, ct, osl, lk, cc⟩ := d_init.ex
  have F_init := fun_mk (st := sMadeinit) lk cc d_init.kp
  have B_init := F_init.binds (ps := ["self", "maker", "parts"]) fun _ _ _ _ _ _ us hl => match us, hl with | [_, _, _], _ => rfl
  generalize PySem.W.fnOf _ _ _ _ _ _ kV doc pm an cdv ct = fd_init at F_init B_init
  clear lk cc
  obtain ⟨oc, od, kV, doc, pm, an, cdv, ct, osl, lk, cc⟩ := d_eq.ex
  have F_eq := fun_mk (st := sMadeeq) lk cc d_eq.kp
  have B_eq := F_eq.binds (ps := ["self", "other"]) fun _ _ _ _ _ _ us hl => match us, hl with | [_, _], _ => rfl
  generalize PySem.W.fnOf _ _ _ _ _ _ kV doc pm an cdv ct = fd_eq at F_eq B_eq
  clear lk cc
  obtain ⟨oc, od, kV, doc, pm, an, cdv, ct, osl, lk, cc⟩ := d_parts_of.ex
  have F_parts_of := fun_mk (st := spartsof) lk cc d_parts_of.kp
  have B_parts_of := F_parts_of.binds (ps := ["value"]) fun _ _ _ _ _ _ us hl => match us, hl with | [_], _ => rfl
  generalize PySem.W.fnOf _ _ _ _ _ _ kV doc pm an cdv ct = fd_parts_of at F_parts_of B_parts_of
  clear lk cc
  obtain ⟨oc, od, kV, doc, pm, an, cdv, ct, osl, lk, cc⟩ := d_is_integer.ex
  have F_is_integer := fun_mk (st := sisinteger) lk cc d_is_integer.kp
  have B_is_integer := F_is_integer.binds (ps := ["value"]) fun _ _ _ _ _ _ us hl => match us, hl with | [_], _ => rfl
  generalize PySem.W.fnOf _ _ _ _ _ _ kV doc pm an cdv ct = fd_is_integer at F_is_integer B_is_integer
  clear lk cc
  obtain ⟨oc, od, kV, doc, pm, an, cdv, ct, osl, lk, cc⟩ := d_way_down.ex
  have F_way_down := fun_mk (st := swaydown) lk cc d_way_down.kp
  have B_way_down := F_way_down.binds (ps := ["value", "place"]) fun _ _ _ _ _ _ us hl => match us, hl with | [_, _], _ => rfl
  generalize PySem.W.fnOf _ _ _ _ _ _ kV doc pm an cdv ct = fd_way_down at F_way_down B_way_down
  clear lk cc
  obtain ⟨oc, od, kV, doc, pm, an, cdv, ct, osl, lk, cc⟩ := d_size_of.ex
  have F_size_of := fun_mk (st := ssizeof) lk cc d_size_of.kp
  have B_size_of := F_size_of.binds (ps := ["value"]) fun _ _ _ _ _ _ us hl => match us, hl with | [_], _ => rfl
  generalize PySem.W.fnOf _ _ _ _ _ _ kV doc pm an cdv ct = fd_size_of at F_size_of B_size_of
  clear lk cc
  obtain ⟨oc, od, kV, doc, pm, an, cdv, ct, osl, lk, cc⟩ := d_places_of.ex
  have F_places_of := fun_mk (st := splacesof) lk cc d_places_of.kp
  have B_places_of := F_places_of.binds (ps := ["value"]) fun _ _ _ _ _ _ us hl => match us, hl with | [_], _ => rfl
  generalize PySem.W.fnOf _ _ _ _ _ _ kV doc pm an cdv ct = fd_places_of at F_places_of B_places_of
  clear lk cc
  obtain ⟨oc, od, kV, doc, pm, an, cdv, ct, osl, lk, cc⟩ := d_part_at.ex
  have F_part_at := fun_mk (st := spartat) lk cc d_part_at.kp
  have B_part_at := F_part_at.binds (ps := ["value", "place"]) fun _ _ _ _ _ _ us hl => match us, hl with | [_, _], _ => rfl
  generalize PySem.W.fnOf _ _ _ _ _ _ kV doc pm an cdv ct = fd_part_at at F_part_at B_part_at
  clear lk cc
  obtain ⟨oc, od, kV, doc, pm, an, cdv, ct, osl, lk, cc⟩ := d_value_with.ex
  have F_value_with := fun_mk (st := svaluewith) lk cc d_value_with.kp
  have B_value_with := F_value_with.binds (ps := ["value", "place", "part"]) fun _ _ _ _ _ _ us hl => match us, hl with | [_, _, _], _ => rfl
  generalize PySem.W.fnOf _ _ _ _ _ _ kV doc pm an cdv ct = fd_value_with at F_value_with B_value_with
  clear lk cc
  obtain ⟨oc, od, kV, doc, pm, an, cdv, ct, osl, lk, cc⟩ := d_law_pen.ex
  have F_law_pen := fun_mk (st := sPen) lk cc d_law_pen.kp
  have B_law_pen := F_law_pen.binds (ps := ["_law_script"]) fun _ _ _ _ _ _ us hl => match us, hl with | [_], _ => rfl
  generalize PySem.W.fnOf _ _ _ _ _ _ kV doc pm an cdv ct = fd_law_pen at F_law_pen B_law_pen
  clear lk cc
  obtain ⟨oc, od, kV, doc, pm, an, cdv, ct, osl, lk, cc⟩ := d_law_draw.ex
  have F_law_draw := fun_mk (st := sDraw) lk cc d_law_draw.kp
  have B_law_draw := F_law_draw.binds (ps := ["_law_pen_here", "_law_many"]) fun _ _ _ _ _ _ us hl => match us, hl with | [_, _], _ => rfl
  generalize PySem.W.fnOf _ _ _ _ _ _ kV doc pm an cdv ct = fd_law_draw at F_law_draw B_law_draw
  clear lk cc
  obtain ⟨oc, od, kV, doc, pm, an, cdv, ct, osl, lk, cc⟩ := d_law_pick.ex
  have F_law_pick := fun_mk (st := sPick) lk cc d_law_pick.kp
  have B_law_pick := F_law_pick.binds (ps := ["_law_pen_here", "_law_some"]) fun _ _ _ _ _ _ us hl => match us, hl with | [_, _], _ => rfl
  generalize PySem.W.fnOf _ _ _ _ _ _ kV doc pm an cdv ct = fd_law_pick at F_law_pick B_law_pick
  clear lk cc
  obtain ⟨oc, od, kV, doc, pm, an, cdv, ct, osl, lk, cc⟩ := d_law_own.ex
  have F_law_own := fun_mk (st := sLown) lk cc d_law_own.kp
  have B_law_own := F_law_own.binds (ps := ["_law_value"]) fun _ _ _ _ _ _ us hl => match us, hl with | [_], _ => rfl
  generalize PySem.W.fnOf _ _ _ _ _ _ kV doc pm an cdv ct = fd_law_own at F_law_own B_law_own
  clear lk cc
  obtain ⟨oc, od, kV, doc, pm, an, cdv, ct, osl, lk, cc⟩ := d_law_made.ex
  have F_law_made := fun_mk (st := sLmade) lk cc d_law_made.kp
  have B_law_made := F_law_made.binds (ps := ["_law_value"]) fun _ _ _ _ _ _ us hl => match us, hl with | [_], _ => rfl
  generalize PySem.W.fnOf _ _ _ _ _ _ kV doc pm an cdv ct = fd_law_made at F_law_made B_law_made
  clear lk cc
  obtain ⟨oc, od, kV, doc, pm, an, cdv, ct, osl, lk, cc⟩ := d_law_any_value.ex
  have F_law_any_value := fun_mk (st := sLanyvalue) lk cc d_law_any_value.kp
  have B_law_any_value := F_law_any_value.binds (ps := ["_law_pen_here", "_law_depth"]) fun _ _ _ _ _ _ us hl => match us, hl with | [_, _], _ => rfl
  generalize PySem.W.fnOf _ _ _ _ _ _ kV doc pm an cdv ct = fd_law_any_value at F_law_any_value B_law_any_value
  clear lk cc
  obtain ⟨oc, od, kV, doc, pm, an, cdv, ct, osl, lk, cc⟩ := d_law_cells.ex
  have F_law_cells := fun_mk (st := sLcells) lk cc d_law_cells.kp
  have B_law_cells := F_law_cells.binds (ps := ["_law_value"]) fun _ _ _ _ _ _ us hl => match us, hl with | [_], _ => rfl
  generalize PySem.W.fnOf _ _ _ _ _ _ kV doc pm an cdv ct = fd_law_cells at F_law_cells B_law_cells
  clear lk cc
  obtain ⟨oc, od, kV, doc, pm, an, cdv, ct, osl, lk, cc⟩ := d_law_put.ex
  have F_law_put := fun_mk (st := sLput) lk cc d_law_put.kp
  have B_law_put := F_law_put.binds (ps := ["_law_value", "_law_place", "_law_part"]) fun _ _ _ _ _ _ us hl => match us, hl with | [_, _, _], _ => rfl
  generalize PySem.W.fnOf _ _ _ _ _ _ kV doc pm an cdv ct = fd_law_put at F_law_put B_law_put
  clear lk cc
  obtain ⟨oc, od, kV, doc, pm, an, cdv, ct, osl, lk, cc⟩ := d_law_no_place.ex
  have F_law_no_place := fun_mk (st := sLnoplace) lk cc d_law_no_place.kp
  have B_law_no_place := F_law_no_place.binds (ps := ["_law_value", "_law_place"]) fun _ _ _ _ _ _ us hl => match us, hl with | [_, _], _ => rfl
  generalize PySem.W.fnOf _ _ _ _ _ _ kV doc pm an cdv ct = fd_law_no_place at F_law_no_place B_law_no_place
  clear lk cc
  obtain ⟨oc, od, kV, doc, pm, an, cdv, ct, osl, lk, cc⟩ := d_law_chain_right.ex
  have F_law_chain_right := fun_mk (st := sLchainright) lk cc d_law_chain_right.kp
  have B_law_chain_right := F_law_chain_right.binds (ps := ["_law_pen_here"]) fun _ _ _ _ _ _ us hl => match us, hl with | [_], _ => rfl
  generalize PySem.W.fnOf _ _ _ _ _ _ kV doc pm an cdv ct = fd_law_chain_right at F_law_chain_right B_law_chain_right
  clear lk cc
  have PT : PenTxt mg := ⟨PySem.W.mg_none_of X G z_int, PySem.W.mg_none_of X G z_list, PySem.W.mg_none_of X G z_len⟩
  have T : VTxt mg := ⟨PySem.W.mg_none_of X G z_isinstance, PySem.W.mg_none_of X G z_len, PySem.W.mg_none_of X G z_range, PySem.W.mg_none_of X G z_reversed, PySem.W.mg_none_of X G z_tuple, PySem.W.mg_none_of X G z_list, PySem.W.mg_none_of X G z_int, PySem.W.mg_none_of X G z_bool, PySem.W.mg_none_of X G z_zip⟩
  obtain ⟨oc, od, kV, doc, pm, an, cdv, ct, osl, lk, cc⟩ := d_law.ex
  refine ⟨_, fun_mk (st := slaw) lk cc d_law.kp, fun s v => .of_eq rfl, fun base cdv s H a ns _ _ hlen hS => ?_⟩
  exact rd_law T (PySem.W.mg_none_of X G z_enumerate) PT MT m_sO TN MkC F_init B_init F_eq B_eq F_parts_of B_parts_of (PySem.W.mg_of X G g_parts_of) F_is_integer B_is_integer (PySem.W.mg_of X G g_is_integer) F_way_down B_way_down (PySem.W.mg_of X G g_way_down) F_size_of B_size_of (PySem.W.mg_of X G g_size_of) F_places_of B_places_of (PySem.W.mg_of X G g_places_of) F_part_at B_part_at (PySem.W.mg_of X G g_part_at) F_value_with B_value_with (PySem.W.mg_of X G g_value_with) F_law_pen B_law_pen (PySem.W.mg_of X G g_law_pen) F_law_draw B_law_draw (PySem.W.mg_of X G g_law_draw) F_law_pick B_law_pick (PySem.W.mg_of X G g_law_pick) F_law_own B_law_own (PySem.W.mg_of X G g_law_own) F_law_made B_law_made (PySem.W.mg_of X G g_law_made) F_law_any_value B_law_any_value (PySem.W.mg_of X G g_law_any_value) F_law_cells B_law_cells (PySem.W.mg_of X G g_law_cells) F_law_put B_law_put (PySem.W.mg_of X G g_law_put) F_law_no_place B_law_no_place (PySem.W.mg_of X G g_law_no_place) F_law_chain_right B_law_chain_right (PySem.W.mg_of X G g_law_chain_right) base cdv s H a ns hlen hS
end Nm
open PySem PySem.W PyProof.Rows in
set_option maxRecDepth 100000 in
set_option maxHeartbeats 0 in
theorem PySem.Challenge.cw_namedmeets_k01_values_and_places_holds : PySem.Challenge.rw_namedmeets_k01_values_and_places.Holds := by
  w_on; o_law; k_head; (case hw => w_witness2)
  k_fill
  refine Nm.walk_g (l := PySem.Challenge.rw_namedmeets_k01_values_and_places) (k := 14) (x := "_law_script") (st := Nm.slaw) (qual := "law") (N := Nm.Nlaw) rfl rfl ⟨rfl, by decide, by decide⟩ Nm.sclaw (fun w h Y => PySem.W.kIn_of Y) ?F
  intro w mg fa h KX G hmg
  refine' Nm.fin KX G hmg ?z_isinstance ?z_len ?z_range ?z_reversed ?z_tuple ?z_list ?z_int ?z_bool ?z_zip ?z_enumerate ?m_g ?m_pg ?m_hd ?m_po ?m_sa ?m_nM ?m_nP ?m_eqF ?m_eqK ?m_neF ?m_subI ?m_subC ?m_subB ?m_sO ?m_iC ?m_ty ?m_ca ?m_gt ?m_tk ?m_mo ?m_mk ?m_in ?m_fn ?m_kp ?n_g ?n_x ?n_sa ?n_ga ?n_gg ?n_nb ?n_in ?n_tC ?n_l ?n_c ?n_k ?n_e ?n_t ?n_h ?n_i ?n_s ?d_init ?d_eq ?g_parts_of ?d_parts_of ?g_is_integer ?d_is_integer ?g_way_down ?d_way_down ?g_size_of ?d_size_of ?g_places_of ?d_places_of ?g_part_at ?d_part_at ?g_value_with ?d_value_with ?g_law_pen ?d_law_pen ?g_law_draw ?d_law_draw ?g_law_pick ?d_law_pick ?g_law_own ?d_law_own ?g_law_made ?d_law_made ?g_law_any_value ?d_law_any_value ?g_law_cells ?d_law_cells ?g_law_put ?d_law_put ?g_law_no_place ?d_law_no_place ?g_law_chain_right ?d_law_chain_right ?g_law ?d_law
  (case m_g => k_is)
  (case n_g => k_is)
  (case z_isinstance => k_is)
  (case z_len => k_is)
  (case z_range => k_is)
  (case z_reversed => k_is)
  (case z_tuple => k_is)
  (case z_list => k_is)
  (case z_int => k_is)
  (case z_bool => k_is)
  (case z_zip => k_is)
  (case z_enumerate => k_is)
  (case m_pg => k_is)
  (case m_hd => k_is)
  (case m_po => k_is)
  (case m_sa => k_is)
  (case m_nM => k_is)
  (case m_nP => k_is)
  (case m_eqF => k_is)
  (case m_eqK => k_is)
  (case m_neF => k_is)
  (case m_subI => k_is)
  (case m_subC => k_is)
  (case m_subB => k_is)
  (case m_sO => k_is)
  (case m_iC => k_is)
  (case m_ty => k_is)
  (case m_ca => k_is)
  (case m_gt => k_is)
  (case m_tk => k_is)
  (case m_mo => k_is)
  (case m_mk => k_is)
  (case m_in => k_is)
  (case m_fn => k_is)
  (case m_kp => k_is)
  (case n_x => k_is)
  (case n_sa => k_is)
  (case n_ga => k_is)
  (case n_gg => k_is)
  (case n_nb => k_is)
  (case n_in => k_is)
  (case n_tC => k_is)
  (case n_l => k_is)
  (case n_c => k_is)
  (case n_k => k_is)
  (case n_e => k_is)
  (case n_t => k_is)
  (case n_h => k_is)
  (case n_i => k_is)
  (case n_s => first | rfl | k_is)
  (case d_init => refine' Nm.fraw_mk ?a ?b ?c; (case a => k_is); (case b => k_is); (case c => k_is))
  (case d_eq => refine' Nm.fraw_mk ?a ?b ?c; (case a => k_is); (case b => k_is); (case c => k_is))
  (case g_parts_of => k_is)
  (case d_parts_of => refine' Nm.fraw_mk ?a ?b ?c; (case a => k_is); (case b => k_is); (case c => k_is))
  (case g_is_integer => k_is)
  (case d_is_integer => refine' Nm.fraw_mk ?a ?b ?c; (case a => k_is); (case b => k_is); (case c => k_is))
  (case g_way_down => k_is)
  (case d_way_down => refine' Nm.fraw_mk ?a ?b ?c; (case a => k_is); (case b => k_is); (case c => k_is))
  (case g_size_of => k_is)
  (case d_size_of => refine' Nm.fraw_mk ?a ?b ?c; (case a => k_is); (case b => k_is); (case c => k_is))
  (case g_places_of => k_is)
  (case d_places_of => refine' Nm.fraw_mk ?a ?b ?c; (case a => k_is); (case b => k_is); (case c => k_is))
  (case g_part_at => k_is)
  (case d_part_at => refine' Nm.fraw_mk ?a ?b ?c; (case a => k_is); (case b => k_is); (case c => k_is))
  (case g_value_with => k_is)
  (case d_value_with => refine' Nm.fraw_mk ?a ?b ?c; (case a => k_is); (case b => k_is); (case c => k_is))
  (case g_law_pen => k_is)
  (case d_law_pen => refine' Nm.fraw_mk ?a ?b ?c; (case a => k_is); (case b => k_is); (case c => k_is))
  (case g_law_draw => k_is)
  (case d_law_draw => refine' Nm.fraw_mk ?a ?b ?c; (case a => k_is); (case b => k_is); (case c => k_is))
  (case g_law_pick => k_is)
  (case d_law_pick => refine' Nm.fraw_mk ?a ?b ?c; (case a => k_is); (case b => k_is); (case c => k_is))
  (case g_law_own => k_is)
  (case d_law_own => refine' Nm.fraw_mk ?a ?b ?c; (case a => k_is); (case b => k_is); (case c => k_is))
  (case g_law_made => k_is)
  (case d_law_made => refine' Nm.fraw_mk ?a ?b ?c; (case a => k_is); (case b => k_is); (case c => k_is))
  (case g_law_any_value => k_is)
  (case d_law_any_value => refine' Nm.fraw_mk ?a ?b ?c; (case a => k_is); (case b => k_is); (case c => k_is))
  (case g_law_cells => k_is)
  (case d_law_cells => refine' Nm.fraw_mk ?a ?b ?c; (case a => k_is); (case b => k_is); (case c => k_is))
  (case g_law_put => k_is)
  (case d_law_put => refine' Nm.fraw_mk ?a ?b ?c; (case a => k_is); (case b => k_is); (case c => k_is))
  (case g_law_no_place => k_is)
  (case d_law_no_place => refine' Nm.fraw_mk ?a ?b ?c; (case a => k_is); (case b => k_is); (case c => k_is))
  (case g_law_chain_right => k_is)
  (case d_law_chain_right => refine' Nm.fraw_mk ?a ?b ?c; (case a => k_is); (case b => k_is); (case c => k_is))
  (case g_law => k_is)
  (case d_law => refine' Nm.fraw_mk ?a ?b ?c; (case a => k_is); (case b => k_is); (case c => k_is))
