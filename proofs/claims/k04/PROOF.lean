import PyProof.Rows.All
import Wide.All
import OpenK.AllK
import Wide.FinOn
import HandS.ForMost
import HandS.More
import HandS.Flow
import HandS.Style
import HandS.TupAny
import HandS.TupMul
import HandS.Deep
import HandS.IsInst
import HandS.Strs
import HandS.Walk
import HandS.Exc
import HandS.ExcOwn
import HandS.TryOnly
import HandS.WordsExc
import HandS.ExcIs
import HandS.TryMany
import HandS.Ends
import KE.DataMinMax
import HandS.RaiseMore
import HandS.SetKeys
import HandS.TupSets
import KE.KSortTupG
import HandS.DictComp
import KE.KDictSum
import HandS.ExcValue
import HandS.Lambda
import KE.GoesEnum
import KE.KEqDict
import HandS.Zip
import HandS.Small
import KE.KItemsList
import HandS.ListItems
import HandS.TupLen
import KE.KDictList
import HandS.ExcField
import HandS.ExcInit
import KE.KExcIs
import HandS.SortKw
import KE.KDictPairs
import KE.KExcLine
import HandS.EndOwn
import KE.KNestM
import HandS.OwnEq
import HandS.Defaults
import PySem.Challenge.RW_tautropes_k04_walks_or_not
set_option Elab.async false
set_option linter.all false
set_option maxRecDepth 100000
set_option maxHeartbeats 4000000
namespace TT
open PySem PySem.Spec PyProof.Rows L2
/-! own layer over HandS: what is known, steps, a def by its promise -/

/-! ### a def by its promise -/
def Df (P : Program) (w : World) (K : PySem.W.Frag) (mg : Str → Option Value) (base : Heap) (CX : CXT) (k : Nat) (x : Str) (ps : List Str) (sp : Sp) : Prop :=
  ∃ f fd, FnOk P w K mg base CX k f fd ps sp ∧ mg x = some (.ref f) ∧ PySem.W.keepIn K (.ref f) = true ∧ Binds K fd ps []
section
variable {X : Cx} {CX : CXT} {k k' : Nat} {ps : List Str} {sp : Sp} {E : XK} {x : Str} {p pos : Pos} {e : Expr} {es : List Expr} {t : TA}
theorem pe_df (F : Df X.prog X.w X.K X.mg X.base CX k x ps sp) (hr : Room k' X.A) (hg : Gl X x) (hx : Passes CX X E) (ha : PA X (e :: es) t) (hk : k ≤ k' := by decide)
    (hdb : (x == ("__debug__" : Str)) = false := by decide) (he : starEach (e :: es) X.env = (false, eval e X.env) :: starEach es X.env := by rfl) (hpl : (backTo pos (starEach es X.env)).any (·.1) = false := by rfl) :
    PE X (.Call (.Name x p) (e :: es) [] pos) (tCall sp [] E t) := by
  obtain ⟨f, fd, F, hm, hkp, hb⟩ := F
  exact pe_call F (hr.mono hk) hg hm hkp hb .nil hx ha hdb he hpl
end

/-! ### what is known -/
/-- M: what may be changed; G is known of H, G' of H' -/
structure Stp (M : Addr → Prop) (G H G' H' : Hp) : Prop where
  up : ∀ a o, ¬ M a → H a = some o → H' a = some o
  gg : Same G G'
  gh : Same G' H'
  fr' : ∀ a o, H a = some o → G' a = G a ∨ ∃ xs, G' a = some (.tup xs)
  th : ∀ a o, H a = some o → ∃ o', H' a = some o'
abbrev M0 : Addr → Prop := fun _ => False
abbrev M1 (p : Addr) : Addr → Prop := fun a => a = p
section
variable {M : Addr → Prop} {G H G' H' G1 H1 : Hp} {a p r o : Addr} {x u : HO}
/-- what stood ahead and is no tuple is known just as it was -/
theorem Stp.fr (s : Stp M G H G' H') (a : Addr) (o : HO) (e : H a = some o) (ho : ∀ xs, o ≠ .tup xs := by intro xs z; cases z) (hM : ¬ M a := by first | exact fun z => z | assumption) : G' a = G a := by
  rcases s.fr' a o e with h | ⟨xs, h⟩
  · exact h
  · have h1 := s.gh a _ h
    rw [s.up a o hM e] at h1
    exact absurd (Option.some.inj h1) (ho xs)
theorem fr_trans {g g1 g2 : Option HO} (hg : ∀ o, g1 = some o → g2 = some o) (h1 : g1 = g ∨ ∃ xs, g1 = some (.tup xs)) (h2 : g2 = g1 ∨ ∃ xs, g2 = some (.tup xs)) : g2 = g ∨ ∃ xs, g2 = some (.tup xs) := by
  rcases h2 with h2 | h2
  · rcases h1 with h1 | ⟨xs, h1⟩
    · exact .inl (h2.trans h1)
    · exact .inr ⟨xs, hg _ h1⟩
  · exact .inr h2
theorem Stp.refl (h : Same G H) : Stp M G H G H := ⟨fun _ _ _ e => e, Same.refl G, h, fun _ _ _ => .inl rfl, fun _ o e => ⟨o, e⟩⟩
theorem Stp.trans (s : Stp M G H G1 H1) (t : Stp M G1 H1 G' H') : Stp M G H G' H' :=
  ⟨fun a o n e => t.up a o n (s.up a o n e), s.gg.trans t.gg, t.gh, fun a o e => by
    obtain ⟨o', e'⟩ := s.th a o e
    exact fr_trans (t.gg a) (s.fr' a o e) (t.fr' a o' e'), fun a o e => by
    obtain ⟨o', e'⟩ := s.th a o e
    exact t.th a o' e'⟩
theorem Stp.weak (s : Stp M0 G H G' H') : Stp M G H G' H' := ⟨fun a o _ e => s.up a o (fun z => z) e, s.gg, s.gh, s.fr', s.th⟩
/-- then a step that changes M1 alone, all of M1 being new since the first -/
theorem Stp.inner {M' : Addr → Prop} (s : Stp M G H G1 H1) (t : Stp M' G1 H1 G' H') (h : ∀ a, M' a → M a ∨ H a = none) : Stp M G H G' H' := by
  refine ⟨fun a o n e => ?_, s.gg.trans t.gg, t.gh, fun a o e => ?_, fun a o e => ?_⟩
  · refine t.up a o (fun z => ?_) (s.up a o n e)
    rcases h a z with q | q
    · exact n q
    · rw [e] at q
      cases q
  · obtain ⟨o', e'⟩ := s.th a o e
    exact fr_trans (t.gg a) (s.fr' a o e) (t.fr' a o' e')
  · obtain ⟨o', e'⟩ := s.th a o e
    exact t.th a o' e'
theorem none_of (h : Same G H) (e : H a = none) : G a = none := h.free e
theorem Stp.free (s : Stp M G H G' H') (e : H' a = none) : H a = none := by
  cases q : H a with
  | none => rfl
  | some o => obtain ⟨o', z⟩ := s.th a o q; rw [e] at z; cases z
theorem same_new {H : Hp} (h : H p = none) : Same H (upd H p x) := fun b o e => by
  rw [upd_ne (ne_of_none e h)]; exact e
/-- a new object, known -/
theorem Stp.new (h : Same G H) (n : H r = none) : Stp M G H (upd G r x) (upd H r x) :=
  ⟨fun a o _ e => same_new n a o e, same_new (none_of h n), fun a o e => by
    by_cases z : a = r
    · subst z; rw [upd_same] at e ⊢; exact e
    · rw [upd_ne z] at e ⊢; exact h a o e, fun a o e => .inl (by rw [upd_ne (ne_of_none e n)]), fun a o e => ⟨o, same_new n a o e⟩⟩
/-- a new object that will change -/
theorem Stp.newM (h : Same G H) (n : H r = none) : Stp M G H G (upd H r x) :=
  ⟨fun a o _ e => same_new n a o e, Same.refl G, h.trans (same_new n), fun _ _ _ => .inl rfl, fun a o e => ⟨o, same_new n a o e⟩⟩
/-- what is not known changes -/
theorem Stp.mut (h : Same G H) (e : H r = some u) (g : G r = none) (m : M r) : Stp M G H G (upd H r x) :=
  ⟨fun a o n z => by
    rw [upd_ne (fun q => n (by rw [q]; exact m))]; exact z, Same.refl G, fun a o z => by
    rw [upd_ne (ne_of_none z g)]; exact h a o z, fun _ _ _ => .inl rfl, fun a o z => by
    by_cases q : a = r
    · subst q; exact ⟨x, upd_same⟩
    · exact ⟨o, by rw [upd_ne q]; exact z⟩⟩
/-- from now on it is known -/
theorem Stp.freeze (s : Stp M G H G' H') (e : H' r = some x) (n : H r = none) (g : G' r = none) : Stp M G H (upd G' r x) H' :=
  ⟨s.up, s.gg.trans (same_new g), fun a o z => by
    by_cases q : a = r
    · subst q; rw [upd_same] at z; rw [e]; exact z
    · rw [upd_ne q] at z; exact s.gh a o z, fun a o z => by rw [upd_ne (ne_of_none z n)]; exact s.fr' a o z, s.th⟩
end
theorem Same.sqt {K : PySem.W.Frag} {H H' : Hp} {a : Addr} {xs : List V} (e : Same H H') (h : SqT K H a xs) : SqT K H' a xs := by
  rcases h with (h | ⟨o, h⟩) | h
  · exact .inl (.inl (e _ _ h))
  · exact .inl (.inr ⟨o, e _ _ h⟩)
  · exact .inr h
mutual
theorem Same.dp {K : PySem.W.Frag} {H H' : Hp} (e : Same H H') : ∀ {v : V} {d : PyData}, Dp K H v d → Dp K H' v d
  | _, _, .non => .non
  | _, _, .bl b => .bl b
  | _, _, .int i => .int i
  | _, _, .str x => .str x
  | _, _, .lst s a => .lst (e.seq s) (Same.dps e a)
  | _, _, .tup s a => .tup (Same.sqt e s) (Same.dps e a)
theorem Same.dps {K : PySem.W.Frag} {H H' : Hp} (e : Same H H') : ∀ {vs : List V} {ds : List PyData}, DpAll K H vs ds → DpAll K H' vs ds
  | _, _, .nil => .nil
  | _, _, .cons h t => .cons (Same.dp e h) (Same.dps e t)
end
theorem lof {K : PySem.W.Frag} {H : Hp} {a : Addr} {xs : List V} (h : H a = some (.lst xs)) : SqL K H a xs := .inl (.inl h)
theorem tof {K : PySem.W.Frag} {H : Hp} {a : Addr} {xs : List V} (h : H a = some (.tup xs)) : SqT K H a xs := .inl (.inl h)

/-! ### t[::-1] -/
theorem places_rev (n : Nat) : Builtin.Slice.slicePlaces ((n : Int) - 1) (-1) (-1) = n := by
  unfold Builtin.Slice.slicePlaces
  have h1 : ¬ ((-1 : Int) > 0) := by decide
  simp only [h1, if_false]
  split
  · rw [show (- -1 : Int) = 1 by decide, Int.ediv_one]; omega
  · omega
theorem fm_congr {α β : Type} {f g : α → Option β} : ∀ {l : List α}, (∀ x ∈ l, f x = g x) → l.filterMap f = l.filterMap g
  | [], _ => rfl
  | x :: l, h => by
    rw [List.filterMap_cons, List.filterMap_cons, h x List.mem_cons_self, fm_congr fun y hy => h y (List.mem_cons_of_mem _ hy)]
theorem pick_rev (xs : Array Value) : ((List.range xs.size).filterMap fun (k : Nat) => xs[(((xs.size : Int) - 1) + (k : Int) * (-1)).toNat]?).toArray = xs.toList.reverse.toArray := by
  have e : (fun (k : Nat) => xs[(((xs.size : Int) - 1) + (k : Int) * (-1)).toNat]?) = fun (k : Nat) => xs[(((xs.size : Int) - 1) - (k : Int)).toNat]? := by
    funext k
    rw [Int.mul_neg_one, ← Int.sub_eq_add_neg]
  have h := PySem.W.krv_pick xs
  unfold slicePick at h
  rw [PySem.W.krv_bounds] at h
  have h2 : ((sliceRange ((xs.size : Int) - 1) (-1) (-1)).filterMap (xs[·]?)).toArray = xs.toList.reverse.toArray := h
  rw [PySem.W.krv_sliceRange, List.filterMap_map] at h2
  rw [e, ← h2]
  congr 1
  refine fm_congr fun k hk => ?_
  have hk' := List.mem_range.mp hk
  show xs[(((xs.size : Int) - 1) - (k : Int)).toNat]? = xs[xs.size - 1 - k]?
  congr 1
  omega
theorem getItem_tuple_rev {prog : Program} {w : World} {A : Around} {E : Value → Shared → Prop} {s : Shared} {t sl : Addr} {items : Array Value} {vk : Value} {Q : Value → Shared → Prop} (ht : IsTup s.heap t items) (hs : s.heap.IsSliceOf sl .none .none vk) (pk : IsPart vk (some (-1)))
    (h : Q (.ref s.heap.objs.size) { s with heap := s.heap.push { cls := .type "tuple", data := .seq items.toList.reverse.toArray } }) (hsz : items.size ≤ sizeLine) : wpAny (model prog w) A (getItem (.ref t) (.ref sl)) Q E s := by
  have htake : sizeOk (.seq items.toList.reverse.toArray) := by
    show items.toList.reverse.toArray.size ≤ sizeLine
    rw [List.size_toArray, List.length_reverse, Array.length_toList]
    exact hsz
  obtain ⟨os, hos, hcs, hds⟩ := id hs
  have hTs : s.TypeIs (.ref sl) "slice" := ⟨os, hos, hcs⟩
  unfold getItem
  try with_reducible refine wpAny_holding ?_
  first | refine wpAny_bind (wpAny_pure ?_) | skip
  refine wpAny_bind (wpAny_sequenceKey ht.typeIs (by decide) ?_)
  refine wpAny_bind (wpAny_callSpecial?_slot (name := Str.ofString "__getitem__") ht.typeIs PyProof.Rows.slot_tuple_getitem
    (wpAny_call_entry PyProof.Rows.slot_tuple_getitem ht.typeIs entry_tuple_getitem ?_ (args_tuple_getitem _ _)))
  show wpAny _ _ (Builtin.Tuple.tupleItemsOf (.ref t) >>= _) _ _ s
  refine wpAny_bind (tupleItemsOf_ ht ?_)
  refine wpAny_bind (wpAny_typeOf hTs ?_)
  rw [if_pos (by decide)]
  have happ : ∀ {A' : Around} {E' : Value → Shared → Prop} {Q' : Int × Int × Nat → Shared → Prop}, Q' ((items.size : Int) - 1, -1, items.size) s → wpAny (model prog w) A' (Builtin.Slice.sliceApplied (.ref sl) (pure (items.size : Int))) Q' E' s := by
    intro A' E' Q' hq
    unfold Builtin.Slice.sliceApplied Builtin.Slice.sliceFields
    refine wpAny_bind (wpAny_bind (wpAny_field hos hds (x := .none) rfl (wpAny_bind (wpAny_field hos hds (x := .none) rfl (wpAny_bind (wpAny_field hos hds (x := vk) rfl (wpAny_pure ?_)))))))
    refine wpAny_bind (HT.slicePart_ pk ?_)
    show wpAny _ _ (if ((-1 : Int) == 0) = true then _ else _) _ _ s
    rw [if_neg (by decide)]
    refine wpAny_bind (HT.slicePart_ .none (wpAny_bind (HT.slicePart_ .none (wpAny_bind (wpAny_pure ?_)))))
    show wpAny _ _ (pure ((items.size : Int) - 1, (-1 : Int), Builtin.Slice.slicePlaces ((items.size : Int) - 1) (-1) (-1))) _ _ s
    rw [places_rev]
    exact wpAny_pure hq
  refine wpAny_bind (happ ?_)
  have hno : ¬ ((((items.size : Int) - 1) == 0 && (-1 : Int) == 1 && items.size == items.size) = true) := by
    intro q
    rw [Bool.and_eq_true, Bool.and_eq_true] at q
    have q1 := q.1.2
    revert q1
    decide
  show wpAny _ _ (if (((items.size : Int) - 1) == 0 && (-1 : Int) == 1 && items.size == items.size) = true then _ else _) _ _ s
  rw [if_neg hno, pick_rev]
  first
    | exact wpAny_bind (m := Builtin.Tuple.tupleExact _) (wpAny_newObj_type (wpAny_pure ⟨_, rfl, wpAny_pure h⟩) htake)
    | exact wpAny_bind (m := Builtin.Tuple.tupleExact _) (wpAny_newObj_type (wpAny_bind (wpAny_pure (wpAny_pure ⟨_, rfl, wpAny_pure h⟩))) htake)
    | exact wpAny_bind (wpAny_bind (m := Builtin.Tuple.tupleExact _) (wpAny_newObj_type (wpAny_pure (wpAny_pure ⟨_, rfl, wpAny_pure h⟩)) htake))
    | exact wpAny_bind (wpAny_bind (m := Builtin.Tuple.tupleExact _) (wpAny_newObj_type (wpAny_pure ⟨_, rfl, wpAny_pure h⟩) htake))
def tRevT (K : PySem.W.Frag) (te : TE) : TE := fun σ H Q => te σ H fun x H1 => ∃ a xs, x = .ref a ∧ SqT K H1 a xs ∧ ∀ p, H1 p = none → Q (.ref p) (upd H1 p (.tup xs.reverse))
theorem pe_revT {X : Cx} {e : Expr} {te : TE} {k : Nat} {p1 p2 p3 pos : Pos} (he : PE X e te) : PE X (.Subscript e (.Slice none none (some (.UnaryOp .USub (.Constant (.int 1) k p1) p2)) p3) pos) (tRevT X.K te) := by
  refine ⟨fun pins s σ H Q I h => ?_⟩
  refine Subscript_ (thn (he.run pins s σ H _ I h) fun v s1 ⟨x, H1, I1, r1, q1⟩ => ?_)
  obtain ⟨a, xs, ex, hx, q⟩ := q1
  subst ex
  cases r1
  have hst : PO X (some (.UnaryOp .USub (.Constant (.int 1) k p1) p2)) (tPart (tUn (rU fun i => .int (-i)) (tC (.int 1)))) := po_some (pe_un un_neg pe_int)
  refine wpAny_Slice (thn (po_none.run pins s1 σ H1 (fun o H2 => o = none ∧ H2 = H1) I1 ⟨rfl, rfl⟩) fun vl s2 ⟨l, H2, I2, pl, el, e2⟩ => ?_)
  subst el e2
  refine thn (po_none.run pins s2 σ H2 (fun o H3 => o = none ∧ H3 = H2) I2 ⟨rfl, rfl⟩) fun vu s3 ⟨u, H3, I3, pu, eu, e3⟩ => ?_
  subst eu e3
  refine thn (hst.run pins s3 σ H3 (fun o H4 => o = some (-1) ∧ H4 = H3) I3 ⟨1, rfl, -1, rfl, rfl, rfl⟩) fun vs s4 ⟨o, H4, I4, ps, eo, e4⟩ => ?_
  subst eo e4
  have I5 : Inv X pins σ H4 { s4 with heap := s4.heap.push { cls := .type "slice", data := .fields #[vl, vu, vs] } } := I4.kept (t' := s4.toks) fun b ob q => Heap.get?_push_of_some _ q
  obtain ⟨its, r, ht, hz⟩ := I5.tuple hx
  have hlen := r.length
  show wpAny (model X.prog X.w) X.A (subscriptTail e (.Slice none none (some (.UnaryOp .USub (.Constant (.int 1) k p1) p2)) p3) (.ref a) (.ref s4.heap.objs.size)) (EP X pins σ Q) X.xe { s4 with heap := s4.heap.push { cls := .type "slice", data := .fields #[vl, vu, vs] } }
  cases pl
  cases pu
  refine tail_any (ops := [.ref a, .ref s4.heap.objs.size]) ht.typeIs (PyProof.Rows.slot_tuple_getitem.lookup) ?_ (by with_unfolding_all rfl)
  refine getItem_tuple_rev ht (Heap.IsSliceOf.new _ .none .none vs) ps ?_ (by rw [List.size_toArray, ← hlen]; exact hz)
  refine ⟨.ref _, _, I5.laid (t' := s4.toks) (o := .tup xs.reverse) (fun b ob q => Heap.get?_push_of_some _ q) (Nat.le_refl _) ?_, rfl, q _ (I5.hok.fresh (Nat.le_refl _))⟩
  exact ⟨by rw [List.length_reverse]; exact hz, _, r.reverse, IsTup.new _ _⟩
/-! readings, one construct at a time: what has to be shown, the rest last -/
section
variable {K : PySem.W.Frag} {σ : L2.St} {H : Hp} {Q : VK} {D : Ends} {v x y z : V} {ta tb tc te td ty tv : TE} {t u : TS} {a b : TT} {tr : TA} {i j k : Int} {n m : Nat} {p q r l : Addr} {xs ys : List V} {R : Bool → Hp → Prop} {RA : List V → Hp → Prop}
/-! statements -/
theorem r_seq (h : t { D with nx := u D } σ H) : tSeq t u D σ H := h
theorem r_next (h : D.nx σ H) : tNext D σ H := h
theorem r_asg {g : TG} (h : te σ H fun x H1 => g x σ H1 D.nx) : tAsg te g D σ H := h
theorem r_gname {N : L2.St → Hp → Prop} (h : N (σ.set n (some v)) H) : gName n v σ H N := h
theorem r_ret (h : te σ H D.rt) : tRet te D σ H := h
theorem r_drop (h : te σ H fun _ H1 => D.nx σ H1) : tDrop te D σ H := h
theorem r_if (h : a σ H fun b H1 => if b = true then t D σ H1 else u D σ H1) : tIfS a t u D σ H := h
theorem r_par (h : tr σ H fun vs H1 => ∃ v w, vs = [v, w] ∧ D.nx ((σ.set n (some v)).set m (some w)) H1) : tPar n m tr D σ H := h
theorem r_par' {P : V → V → Prop} (h : P x y) : ∃ v w, [x, y] = [v, w] ∧ P v w := ⟨x, y, rfl, h⟩
theorem r_dput (h : tv σ H fun v H1 => td σ H1 fun x H2 => ty σ H2 fun y H3 => ∃ a H4, x = .ref a ∧ DPut H3 a y v H4 ∧ D.nx σ H4) : sDPut td ty tv D σ H := h
/-! expressions -/
theorem r_var (h : σ[n]? = some (some v)) (q : Q v H) : tVar n σ H Q := ⟨v, h, q⟩
theorem r_c (q : Q v H) : tC v σ H Q := q
theorem r_op {r : R2} (h : ta σ H fun x H1 => tb σ H1 fun y H2 => r x y H2 Q) : tOp r ta tb σ H Q := h
theorem r_un {r : V → Hp → VK → Prop} (h : ta σ H fun x H1 => r x H1 Q) : tUn r ta σ H Q := h
theorem r_cb {r : List V → Hp → VK → Prop} (h : tr σ H fun vs H1 => r vs H1 Q) : tCB r tr σ H Q := h
theorem r_call {sp : Sp} {E : XK} {dvs : List V} (h : tr σ H fun vs H1 => sp (vs ++ dvs) H1 Q E) : tCall sp dvs E tr σ H Q := h
theorem r_cons (h : ta σ H fun x H1 => tr σ H1 fun xs H2 => RA (x :: xs) H2) : tCons ta tr σ H RA := h
theorem r_nil (h : RA [] H) : tNil σ H RA := h
theorem r_tup (h : tr σ H fun xs H1 => xs.length ≤ sizeLine ∧ ∀ p, H1 p = none → Q (.ref p) (upd H1 p (.tup xs))) : tTup tr σ H Q := h
theorem r_lst (h : tr σ H fun xs H1 => xs.length ≤ sizeLine ∧ ∀ p, H1 p = none → Q (.ref p) (upd H1 p (.lst xs))) : tLst tr σ H Q := h
theorem r_ifx (h : a σ H fun c H1 => if c = true then ta σ H1 Q else tb σ H1 Q) : tIf a ta tb σ H Q := h
theorem r_sl {r : V → Option Int → Option Int → Hp → VK → Prop} {tl th : TO} (h : te σ H fun x H1 => tl σ H1 fun l H2 => th σ H2 fun u H3 => r x l u H3 Q) : tSl r te tl th σ H Q := h
theorem r_nopart {RO : Option Int → Hp → Prop} (h : RO none H) : tNoPart σ H RO := h
theorem r_part {RO : Option Int → Hp → Prop} (h : te σ H fun x H1 => ∃ i, x = .int i ∧ RO (some i) H1) : tPart te σ H RO := h
theorem r_int {P : Int → Prop} (h : P i) : ∃ j, V.int i = .int j ∧ P j := ⟨i, rfl, h⟩
theorem r_bool {P : Bool → Prop} {c : Bool} (h : P c) : ∃ k, V.bl c = .bl k ∧ P k := ⟨c, rfl, h⟩
theorem r_test (h : te σ H fun x H' => ∃ k, x = .bl k ∧ R k H') : tTest te σ H R := h
theorem r_tb (h : te σ H fun x H' => ∃ k, x = .bl k ∧ R k H') : tB te σ H R := h
theorem r_and (h : a σ H fun c H1 => if c = true then b σ H1 R else R false H1) : tAnd a b σ H R := h
theorem r_or (h : a σ H fun c H1 => if c = true then R true H1 else b σ H1 R) : tOr a b σ H R := h
theorem r_not (h : a σ H fun c H1 => R (!c) H1) : tNot a σ H R := h
theorem r_andv (h : ta σ H fun x H1 => ∃ c, x = .bl c ∧ if c = true then tb σ H1 Q else Q (.bl false) H1) : tAndV ta tb σ H Q := h
theorem r_yes (h : R true H) : tYes σ H R := h
theorem r_dget (h : td σ H fun x H1 => ty σ H1 fun y H2 => ∃ a v, x = .ref a ∧ DGet H2 a y (some v) ∧ Q v H2) : tDGet td ty σ H Q := h
theorem r_dget' {P : V → Prop} (h : DGet H p y (some v)) (q : P v) : ∃ a v, V.ref p = .ref a ∧ DGet H a y (some v) ∧ P v := ⟨p, v, rfl, h, q⟩
theorem r_bm {T : String} {r : V → List V → Hp → VK → Prop} (h : te σ H fun x H1 => tyV K T x H1 ∧ tr σ H1 fun xs H2 => r x xs H2 Q) : tBM K T r te tr σ H Q := h
theorem r_gtup {N : L2.St → Hp → Prop} {g : TGs} (h : SqT K H p xs) (hl : xs.length = n) (q : g xs σ H N) : gTup K n g (.ref p) σ H N := ⟨p, xs, rfl, h, hl, q⟩
theorem r_gcons {N : L2.St → Hp → Prop} {g : TG} {gs : TGs} (h : g x σ H fun σ' H' => gs xs σ' H' N) : gCons g gs (x :: xs) σ H N := ⟨x, xs, rfl, h⟩
theorem r_gnil {N : L2.St → Hp → Prop} (h : N σ H) : gNil [] σ H N := ⟨rfl, h⟩
/-! operators -/
theorem r_I {C : Int → Int → Prop} {g : Int → Int → V} (c : C i j) (q : Q (g i j) H) : rI C g (.int i) (.int j) H Q := ⟨i, j, rfl, rfl, c, q⟩
theorem r_I0 {g : Int → Int → V} (q : Q (g i j) H) : rI0 g (.int i) (.int j) H Q := ⟨i, j, rfl, rfl, q⟩
theorem r_U {g : Int → V} (q : Q (g i) H) : rU g (.int i) H Q := ⟨i, rfl, q⟩
theorem r_eq (c : scal x y = true) (q : Q (.bl (decide (x = y))) H) : rEq x y H Q := ⟨c, q⟩
theorem r_ne (c : scal x y = true) (q : Q (.bl (!decide (x = y))) H) : rNe x y H Q := ⟨c, q⟩
theorem r_ixL (h : SqL K H p xs) (c : atI xs i = some v) (q : Q v H) : rIxL K (.ref p) (.int i) H Q := ⟨p, xs, i, v, rfl, rfl, h, c, q⟩
end
/-! loops and comprehensions by one invariant -/
/-- what a for asks, once its iterator stands -/
def LoopJ (g : TG) (tb : TS) (D : Ends) (σ : L2.St) (J : It) (H : Hp) : Prop :=
  ∃ W : Nat → Nat → L2.St → Hp → Prop, (∃ m, W 0 m σ H) ∧ ∀ i m σ H, W i m σ H →
    (J.stop i H ∧ D.nx σ H) ∨ (J.go i H ∧ ∃ N : L2.St → Hp → Prop, (∀ σ' H', N σ' H' → ∃ m', m' < m ∧ W (i + 1) m' σ' H') ∧ ∀ x H', J.yld i H x H' → g x σ H' fun σ2 H2 => tb { D with nx := N, ct := N, bk := D.nx } σ2 H2)
/-- what a comprehension asks, once its iterator stands -/
def LcJ (g : TG) (tt : TT) (te : TE) (vs : List Nat) (σ : L2.St) (Q : VK) (J : It) (H1 : Hp) : Prop :=
  ∀ D, H1 D = none → ∃ W : Nat → Nat → Hp → Prop, (∃ m, W 0 m (upd H1 D (.lst []))) ∧ ∀ i m H, W i m H →
    (J.stop i H ∧ Q (.ref D) H) ∨ (J.go i H ∧ ∃ Nx : Hp → Prop, (∀ H', Nx H' → ∃ m', m' < m ∧ W (i + 1) m' H') ∧ ∀ x H', J.yld i H x H' → g x (wipe σ vs) H' fun σ2 H2 => wipe σ2 vs = wipe σ vs ∧ tt σ2 H2 fun b H3 =>
      if b = true then te σ2 H3 fun y H4 => ∃ acc, H4 D = some (.lst acc) ∧ acc.length < sizeLine ∧ Nx (upd H4 D (.lst (acc ++ [y]))) else Nx H3)
section
variable {K : PySem.W.Frag} {σ : L2.St} {G H : Hp} {Q : VK} {D : Ends} {te tl : TE} {tb : TS} {g : TG} {tt : TT} {tr : TA} {p : Addr} {xs : List V} {vs : List Nat} {lo hi : Int} {n : Nat}
theorem r_forT (h : tl σ H fun x H1 => ∃ a, x = .ref a ∧ (∃ xs, SqT K H1 a xs) ∧ LoopJ g tb D σ (Itt K a) H1) : tFor (iTup K tl) g tb D σ H := h
theorem r_forL (h : tl σ H fun x H1 => ∃ a, x = .ref a ∧ (∃ xs, SqL K H1 a xs) ∧ LoopJ g tb D σ (Itl K a) H1) : tFor (iList K tl) g tb D σ H := h
theorem r_forR1 (h : tr σ H fun vs H1 => ∃ j : Int, vs = [.int j] ∧ -(2 ^ 62) ≤ j ∧ j < 2 ^ 62 ∧ LoopJ g tb D σ (Itr 0 j.toNat) H1) : tFor (iRng1 tr) g tb D σ H := h
theorem r_lcL (h : tl σ H fun x H1 => ∃ a, x = .ref a ∧ (∃ xs, SqL K H1 a xs) ∧ LcJ g tt te vs σ Q (Itl K a) H1) : tLc (iList K tl) g tt te vs σ H Q := h
theorem r_lcR1 (h : tr σ H fun ws H1 => ∃ j : Int, ws = [.int j] ∧ -(2 ^ 62) ≤ j ∧ j < 2 ^ 62 ∧ LcJ g tt te vs σ Q (Itr 0 j.toNat) H1) : tLc (iRng1 tr) g tt te vs σ H Q := h
theorem r_lcR2 (h : tr σ H fun ws H1 => ∃ i j : Int, ws = [.int i, .int j] ∧ (-(2 ^ 62) ≤ i ∧ i < 2 ^ 62 ∧ -(2 ^ 62) ≤ j ∧ j < 2 ^ 62) ∧ LcJ g tt te vs σ Q (Itr i (j - i).toNat) H1) : tLc (iRng2 tr) g tt te vs σ H Q := h

theorem loop_it {J : It} {Gd : Hp → Prop} {Y : Nat → Hp → V → Hp → Prop} (w : Walk J n Gd Y) (Pv : Nat → L2.St → Hp → Prop) (h0 : Pv 0 σ H) (hG : ∀ i σ H, i ≤ n → Pv i σ H → Gd H)
    (hs : ∀ i x σ H H', i < n → Pv i σ H → Y i H x H' → g x σ H' fun σ2 H2 => tb { D with nx := Pv (i + 1), ct := Pv (i + 1), bk := D.nx } σ2 H2) (hd : ∀ σ H, Pv n σ H → D.nx σ H) : LoopJ g tb D σ J H :=
  for_it w Pv h0 hG hs hd
/-- a for over a tuple (over a list that stands) -/
theorem loopT (hs : SqT K H p xs) (Pv : Nat → L2.St → Hp → Prop) (h0 : Pv 0 σ H) (hG : ∀ i σ H, i ≤ xs.length → Pv i σ H → SqT K H p xs)
    (hst : ∀ i x σ H, i < xs.length → xs[i]? = some x → Pv i σ H → g x σ H fun σ2 H2 => tb { D with nx := Pv (i + 1), ct := Pv (i + 1), bk := D.nx } σ2 H2) (hd : ∀ σ H, Pv xs.length σ H → D.nx σ H) :
    ∃ a, V.ref p = .ref a ∧ (∃ xs, SqT K H a xs) ∧ LoopJ g tb D σ (Itt K a) H :=
  ⟨p, rfl, ⟨xs, hs⟩, loop_it walk_tup Pv h0 hG (fun i x σ H H' hi hp hy => by obtain ⟨e, hx⟩ := hy; subst e; exact hst i x σ _ hi hx hp) hd⟩
theorem loopL (hs : SqL K H p xs) (Pv : Nat → L2.St → Hp → Prop) (h0 : Pv 0 σ H) (hG : ∀ i σ H, i ≤ xs.length → Pv i σ H → SqL K H p xs)
    (hst : ∀ i x σ H, i < xs.length → xs[i]? = some x → Pv i σ H → g x σ H fun σ2 H2 => tb { D with nx := Pv (i + 1), ct := Pv (i + 1), bk := D.nx } σ2 H2) (hd : ∀ σ H, Pv xs.length σ H → D.nx σ H) :
    ∃ a, V.ref p = .ref a ∧ (∃ xs, SqL K H a xs) ∧ LoopJ g tb D σ (Itl K a) H :=
  ⟨p, rfl, ⟨xs, hs⟩, loop_it walk_list Pv h0 hG (fun i x σ H H' hi hp hy => by obtain ⟨e, hx⟩ := hy; subst e; exact hst i x σ _ hi hx hp) hd⟩
theorem loopR1 {j : Int} {n : Nat} (e : j = (n : Int)) (hn : n < 2 ^ 62) (Pv : Nat → L2.St → Hp → Prop) (h0 : Pv 0 σ H)
    (hst : ∀ (i : Nat) σ H, i < n → Pv i σ H → g (.int (i : Int)) σ H fun σ2 H2 => tb { D with nx := Pv (i + 1), ct := Pv (i + 1), bk := D.nx } σ2 H2) (hd : ∀ σ H, Pv n σ H → D.nx σ H) :
    ∃ j' : Int, [V.int j] = [.int j'] ∧ -(2 ^ 62) ≤ j' ∧ j' < 2 ^ 62 ∧ LoopJ g tb D σ (Itr 0 j'.toNat) H := by
  subst e
  refine ⟨n, rfl, by omega, by omega, ?_⟩
  rw [Int.toNat_natCast]
  refine loop_it walk_range Pv h0 (fun _ _ _ _ _ => trivial) (fun i x σ H H' hi hp hy => ?_) hd
  obtain ⟨e, hx⟩ := hy
  subst e hx
  dsimp only
  rw [Int.zero_add]
  exact hst i σ _ hi hp
/-- a comprehension: Pv of the turn, what is made so far, what is known, the heap; its own list at L is not known meanwhile -/
theorem lc_by {J : It} {M : Addr → Prop} {Gd : Hp → Prop} {Y : Nat → V → Prop} (w : Walk J n Gd (fun i H x H' => H' = H ∧ Y i x)) (hn : n < 2 ^ 20) (g0 : Same G H) (Pv : Nat → List V → Hp → Hp → Prop)
    (h0 : ∀ L, H L = none → Pv 0 [] G (upd H L (.lst []))) (hG : ∀ i acc G' H', i ≤ n → Stp M G H G' H' → Pv i acc G' H' → Gd H')
    (hs : ∀ L i x acc G' H' (Em : V → Hp → Prop) (Sk : Hp → Prop), i < n → H L = none → H' L = some (.lst acc) → G' L = none → acc.length ≤ i → Stp M G H G' H' → Pv i acc G' H' → Y i x →
      (∀ y G2 H2, Stp M G H G2 H2 → H2 L = some (.lst acc) → G2 L = none → Pv (i + 1) (acc ++ [y]) G2 (upd H2 L (.lst (acc ++ [y]))) → Em y H2) →
      (∀ G2 H2, Stp M G H G2 H2 → H2 L = some (.lst acc) → G2 L = none → Pv (i + 1) acc G2 H2 → Sk H2) →
      g x (wipe σ vs) H' fun σ2 H2 => wipe σ2 vs = wipe σ vs ∧ tt σ2 H2 fun b H3 => if b = true then te σ2 H3 Em else Sk H3)
    (hd : ∀ L acc G' H', H L = none → acc.length ≤ n → Stp M G H G' H' → H' L = some (.lst acc) → G' L = none → Pv n acc G' H' → Q (.ref L) H') : LcJ g tt te vs σ Q J H := by
  intro L hL
  have gL : G L = none := none_of g0 hL
  refine lc_it w (fun i H' => ∃ acc G', H' L = some (.lst acc) ∧ G' L = none ∧ acc.length ≤ i ∧ Stp M G H G' H' ∧ Pv i acc G' H') ?_ (fun i H' hi hP => ?_) (fun i x H' H'' hi hP hy => ?_) (fun H' hP => ?_)
  · exact ⟨[], G, upd_same, gL, Nat.zero_le _, Stp.newM g0 hL, h0 L hL⟩
  · obtain ⟨acc, G', _, _, _, st, pv⟩ := hP
    exact hG i acc G' H' hi st pv
  · obtain ⟨acc, G', e1, e2, e3, st, pv⟩ := hP
    obtain ⟨rfl, hy⟩ := hy
    refine hs L i x acc G' H'' _ _ hi hL e1 e2 e3 st pv hy (fun y G2 H2 st2 a1 a2 a3 => ?_) (fun G2 H2 st2 a1 a2 a3 => ?_)
    · refine ⟨acc, a1, Nat.lt_of_le_of_lt e3 (Nat.lt_trans hi (Nat.lt_of_lt_of_le hn (by decide))), _, G2, upd_same, a2, by rw [List.length_append]; simp; omega, ?_, a3⟩
      exact ⟨fun a o m z => by rw [upd_ne (ne_of_none z hL)]; exact st2.up a o m z, st2.gg, fun a o z => by rw [upd_ne (ne_of_none z a2)]; exact st2.gh a o z, st2.fr', fun a o z => by rw [upd_ne (ne_of_none z hL)]; exact st2.th a o z⟩
    · exact ⟨acc, G2, a1, a2, Nat.le_succ_of_le e3, st2, a3⟩
  · obtain ⟨acc, G', e1, e2, e3, st, pv⟩ := hP
    exact hd L acc G' H' hL e3 st e1 e2 pv
theorem lcL {M : Addr → Prop} (hs : SqL K G p xs) (hn : xs.length < 2 ^ 20) (g0 : Same G H) (Pv : Nat → List V → Hp → Hp → Prop)
    (h0 : ∀ L, H L = none → Pv 0 [] G (upd H L (.lst [])))
    (hst : ∀ L i x acc G' H' (Em : V → Hp → Prop) (Sk : Hp → Prop), i < xs.length → H L = none → H' L = some (.lst acc) → G' L = none → acc.length ≤ i → Stp M G H G' H' → Pv i acc G' H' → xs[i]? = some x →
      (∀ y G2 H2, Stp M G H G2 H2 → H2 L = some (.lst acc) → G2 L = none → Pv (i + 1) (acc ++ [y]) G2 (upd H2 L (.lst (acc ++ [y]))) → Em y H2) →
      (∀ G2 H2, Stp M G H G2 H2 → H2 L = some (.lst acc) → G2 L = none → Pv (i + 1) acc G2 H2 → Sk H2) →
      g x (wipe σ vs) H' fun σ2 H2 => wipe σ2 vs = wipe σ vs ∧ tt σ2 H2 fun b H3 => if b = true then te σ2 H3 Em else Sk H3)
    (hd : ∀ L acc G' H', H L = none → acc.length ≤ xs.length → Stp M G H G' H' → H' L = some (.lst acc) → G' L = none → Pv xs.length acc G' H' → Q (.ref L) H') :
    ∃ a, V.ref p = .ref a ∧ (∃ xs, SqL K H a xs) ∧ LcJ g tt te vs σ Q (Itl K a) H :=
  ⟨p, rfl, ⟨xs, g0.seq hs⟩, lc_by (M := M) walk_list hn g0 Pv h0 (fun i acc G' H' _ st _ => (st.gg.trans st.gh).seq hs) (fun L i x acc G' H' Em Sk => hst L i x acc G' H' Em Sk) hd⟩
theorem lcR1 {M : Addr → Prop} {j : Int} {n : Nat} (e : j = (n : Int)) (hn : n < 2 ^ 20) (g0 : Same G H) (Pv : Nat → List V → Hp → Hp → Prop)
    (h0 : ∀ L, H L = none → Pv 0 [] G (upd H L (.lst [])))
    (hst : ∀ L (i : Nat) acc G' H' (Em : V → Hp → Prop) (Sk : Hp → Prop), i < n → H L = none → H' L = some (.lst acc) → G' L = none → acc.length ≤ i → Stp M G H G' H' → Pv i acc G' H' →
      (∀ y G2 H2, Stp M G H G2 H2 → H2 L = some (.lst acc) → G2 L = none → Pv (i + 1) (acc ++ [y]) G2 (upd H2 L (.lst (acc ++ [y]))) → Em y H2) →
      (∀ G2 H2, Stp M G H G2 H2 → H2 L = some (.lst acc) → G2 L = none → Pv (i + 1) acc G2 H2 → Sk H2) →
      g (.int (i : Int)) (wipe σ vs) H' fun σ2 H2 => wipe σ2 vs = wipe σ vs ∧ tt σ2 H2 fun b H3 => if b = true then te σ2 H3 Em else Sk H3)
    (hd : ∀ L acc G' H', H L = none → acc.length ≤ n → Stp M G H G' H' → H' L = some (.lst acc) → G' L = none → Pv n acc G' H' → Q (.ref L) H') :
    ∃ j' : Int, [V.int j] = [.int j'] ∧ -(2 ^ 62) ≤ j' ∧ j' < 2 ^ 62 ∧ LcJ g tt te vs σ Q (Itr 0 j'.toNat) H := by
  subst e
  refine ⟨n, rfl, by omega, by omega, ?_⟩
  rw [Int.toNat_natCast]
  refine lc_by (M := M) (Y := fun i x => x = .int (0 + (i : Int))) walk_range hn g0 Pv h0 (fun _ _ _ _ _ _ _ => trivial) (fun L i x acc G' H' Em Sk h1 h2 h3 h4 h5 h6 h7 h8 h9 h10 => ?_) hd
  subst h8
  rw [Int.zero_add]
  exact hst L i acc G' H' Em Sk h1 h2 h3 h4 h5 h6 h7 h9 h10
theorem lcR2 {M : Addr → Prop} {lo hi : Int} {n : Nat} (e : (hi - lo).toNat = n) (hb : -(2 ^ 62) ≤ lo ∧ lo < 2 ^ 62 ∧ -(2 ^ 62) ≤ hi ∧ hi < 2 ^ 62) (hn : n < 2 ^ 20) (g0 : Same G H) (Pv : Nat → List V → Hp → Hp → Prop)
    (h0 : ∀ L, H L = none → Pv 0 [] G (upd H L (.lst [])))
    (hst : ∀ L (i : Nat) acc G' H' (Em : V → Hp → Prop) (Sk : Hp → Prop), i < n → H L = none → H' L = some (.lst acc) → G' L = none → acc.length ≤ i → Stp M G H G' H' → Pv i acc G' H' →
      (∀ y G2 H2, Stp M G H G2 H2 → H2 L = some (.lst acc) → G2 L = none → Pv (i + 1) (acc ++ [y]) G2 (upd H2 L (.lst (acc ++ [y]))) → Em y H2) →
      (∀ G2 H2, Stp M G H G2 H2 → H2 L = some (.lst acc) → G2 L = none → Pv (i + 1) acc G2 H2 → Sk H2) →
      g (.int (lo + (i : Int))) (wipe σ vs) H' fun σ2 H2 => wipe σ2 vs = wipe σ vs ∧ tt σ2 H2 fun b H3 => if b = true then te σ2 H3 Em else Sk H3)
    (hd : ∀ L acc G' H', H L = none → acc.length ≤ n → Stp M G H G' H' → H' L = some (.lst acc) → G' L = none → Pv n acc G' H' → Q (.ref L) H') :
    ∃ i j : Int, [V.int lo, V.int hi] = [.int i, .int j] ∧ (-(2 ^ 62) ≤ i ∧ i < 2 ^ 62 ∧ -(2 ^ 62) ≤ j ∧ j < 2 ^ 62) ∧ LcJ g tt te vs σ Q (Itr i (j - i).toNat) H := by
  subst e
  refine ⟨lo, hi, rfl, hb, ?_⟩
  refine lc_by (M := M) (Y := fun i x => x = .int (lo + (i : Int))) walk_range hn g0 Pv h0 (fun _ _ _ _ _ _ _ => trivial) (fun L i x acc G' H' Em Sk h1 h2 h3 h4 h5 h6 h7 h8 h9 h10 => ?_) hd
  subst h8
  exact hst L i acc G' H' Em Sk h1 h2 h3 h4 h5 h6 h7 h9 h10
end

/-! ### tuples whose object is known to bear no dict: their methods -/
def tTupF (t : TA) : TE := fun σ H Q => t σ H fun xs H1 => xs.length ≤ sizeLine ∧ ∀ p o, H1 p = none → o.dict = none → Q (.ref p) (upd H1 p (.frz o (.tup xs)))
def tyF (x : V) (H : Hp) : Prop := ∃ (p : Addr) (o : Obj) (xs : List V), x = .ref p ∧ H p = some (.frz o (.tup xs)) ∧ o.dict = none
def tBMF (r : V → List V → Hp → VK → Prop) (to : TE) (t : TA) : TE := fun σ H Q => to σ H fun x H1 => tyF x H1 ∧ t σ H1 fun xs H2 => r x xs H2 Q
section
variable {X : Cx} {es : List Expr} {t : TA} {pos : Pos}
theorem pe_tupF {x1} (h : PA X es t) : PE X (.Tuple es x1 pos) (tTupF t) := by
  refine ⟨fun pins s σ H Q I hq => ?_⟩
  refine wpAny_Tuple_spliced (thn (h.run pos pins s σ H _ I hq) fun us s1 ⟨xs, H1, I1, r, z, q⟩ => ⟨by rw [← r.length]; exact z, ?_⟩)
  have hf : H1 s1.heap.objs.size = none := I1.hok.fresh (Nat.le_refl _)
  refine ⟨.ref s1.heap.objs.size, upd H1 s1.heap.objs.size (.frz { cls := .type "tuple", data := .seq us.toArray } (.tup xs)), I1.laid (t' := s1.toks) (fun b u e => Heap.get?_push_of_some _ e) (Nat.le_refl _) ?_, rfl, q _ _ hf rfl⟩
  exact ⟨Heap.get?_push_size _ rfl, z, us, r, ⟨_, Heap.get?_push_size _ rfl, rfl, _, rfl⟩⟩
variable {o e : Expr} {to : TE} {name : Str} {apos cpos : Pos} {id : String} {r : V → List V → Hp → VK → Prop}
theorem pe_bmF (pa : PlainAttrs "tuple") (slot : Slot "tuple" name id) (hty : typeOf (.builtin id) = pure (.type "method_descriptor")) (hm : MtR X id r) (ho : PE X o to) (ha : PA X (e :: es) t)
    (hbase : attributeBase o name X.env (eval o X.env) = eval o X.env := by rfl)
    (hfew : ((backTo cpos (starEach (e :: es) X.env)).all (fun x => !x.1) && (backToKw cpos (keywordEach [] X.env)).all (fun x => x.1.isSome)
      && decide ((e :: es).length + ([] : List Keyword).length + (if ([] : List Keyword).isEmpty then 0 else 1) < 30)) = true := by rfl)
    (hline : (apos.endLine == cpos.line) = true := by rfl) (hs : starEach (e :: es) X.env = (false, eval e X.env) :: starEach es X.env := by rfl) (hplain : (backTo cpos (starEach es X.env)).any (·.1) = false := by rfl) :
    PE X (.Call (.Attribute o name apos) (e :: es) [] cpos) (tBMF r to t) := by
  refine ⟨fun pins s σ H Q I h => ?_⟩
  refine wpAny_Call_method_late hbase hfew hline rfl (thn (ho.run pins s σ H _ I h) fun v s1 ⟨x, H1, I1, r1, ty, q1⟩ => ?_)
  obtain ⟨p, ob, xs, rfl, hp, hd⟩ := ty
  cases r1
  obtain ⟨g1, g2⟩ := I1.hok p _ hp
  obtain ⟨_, its, _, o2, h1, h2, _⟩ := g2
  refine ⟨"tuple", id, pa, slot, hty, ⟨o2, h1, h2⟩, fun a ea => ?_, ?_⟩
  · cases ea
    exact ⟨ob, g1, hd⟩
  have hA := ha.run cpos pins s1 σ H1 _ I1 q1
  rw [hs] at hA ⊢
  refine Calls.callWith_builtin (by show (false || (backTo cpos (starEach es X.env)).any (·.1)) = false; rw [hplain] <;> rfl) (Calls.evalArgs_plain ?_)
  exact thn hA fun us s2 ⟨vs, H2, I2, r2, q2⟩ => hm pins s2 σ H2 (.ref p) vs _ us Q I2 rfl r2 q2
variable {σ : L2.St} {H : Hp} {Q : VK}
theorem r_tupF (h : t σ H fun xs H1 => xs.length ≤ sizeLine ∧ ∀ p o, H1 p = none → o.dict = none → Q (.ref p) (upd H1 p (.frz o (.tup xs)))) : tTupF t σ H Q := h
theorem r_bmF (h : to σ H fun x H1 => tyF x H1 ∧ t σ H1 fun xs H2 => r x xs H2 Q) : tBMF r to t σ H Q := h
end
/-! ### what is called, given to the reading -/
section
variable {X : Cx} {K : PySem.W.Frag} {H : Hp} {Q : VK} {p : Addr} {xs : List V} {x y : V} {i j : Int} {z : Str}
def kLen (K : PySem.W.Frag) : List V → Hp → VK → Prop := fun xs H Q => ∃ p ys, xs = [.ref p] ∧ (SqL K H p ys ∨ SqT K H p ys) ∧ Q (.int ys.length) H
theorem call_lenK : CallR X (.builtin "len") (kLen X.K) := call_len_seq
theorem c_len (h : SqL K H p xs ∨ SqT K H p xs) (q : Q (.int (xs.length : Int)) H) : kLen K [.ref p] H Q := ⟨p, xs, rfl, h, q⟩
def kLenS : List V → Hp → VK → Prop := fun xs H Q => ∃ z, xs = [.str z] ∧ z.length ≤ sizeLine ∧ Q (.int z.length) H
theorem call_lenS : CallR X (.builtin "len") kLenS := call_len_str
theorem c_lenS (h : z.length ≤ sizeLine) (q : Q (.int z.length) H) : kLenS [.str z] H Q := ⟨z, rfl, h, q⟩
def kList (K : PySem.W.Frag) : List V → Hp → VK → Prop := fun xs H Q => ∃ p ys, xs = [.ref p] ∧ (SqL K H p ys ∨ SqT K H p ys) ∧ ∀ l, H l = none → Q (.ref l) (upd H l (.lst ys))
theorem call_listK : CallR X (.type "list") (kList X.K) := call_list_of
theorem c_list (h : SqL K H p xs ∨ SqT K H p xs) (q : ∀ l, H l = none → Q (.ref l) (upd H l (.lst xs))) : kList K [.ref p] H Q := ⟨p, xs, rfl, h, q⟩
def kTuple (K : PySem.W.Frag) : List V → Hp → VK → Prop := fun xs H Q => ∃ p ys, xs = [.ref p] ∧ ((SqL K H p ys ∧ ∀ l, H l = none → Q (.ref l) (upd H l (.tup ys))) ∨ (SqT K H p ys ∧ Q (.ref p) H))
theorem call_tupleK : CallR X (.type "tuple") (kTuple X.K) := call_tuple_of
theorem c_tupleL (h : SqL K H p xs) (q : ∀ l, H l = none → Q (.ref l) (upd H l (.tup xs))) : kTuple K [.ref p] H Q := ⟨p, xs, rfl, .inl ⟨h, q⟩⟩
def kAbs : List V → Hp → VK → Prop := fun xs H Q => ∃ i, xs = [.int i] ∧ Q (.int (if i < 0 then -i else i)) H
theorem call_absK : CallR X (.builtin "abs") kAbs := call_abs
theorem c_abs (q : Q (.int (if i < 0 then -i else i)) H) : kAbs [.int i] H Q := ⟨i, rfl, q⟩
def kMax : List V → Hp → VK → Prop := fun xs H Q => ∃ i j, xs = [.int i, .int j] ∧ Q (.int (if j > i then j else i)) H
theorem call_maxK (hc : X.calm = true) : CallR X (.builtin "max") kMax := call_max2 hc
theorem c_max (q : Q (.int (if j > i then j else i)) H) : kMax [.int i, .int j] H Q := ⟨i, j, rfl, q⟩
def kMin : List V → Hp → VK → Prop := fun xs H Q => ∃ i j, xs = [.int i, .int j] ∧ Q (.int (if j < i then j else i)) H
theorem call_minK (hc : X.calm = true) : CallR X (.builtin "min") kMin := call_min2 hc
theorem c_min (q : Q (.int (if j < i then j else i)) H) : kMin [.int i, .int j] H Q := ⟨i, j, rfl, q⟩
def kInt : List V → Hp → VK → Prop := fun xs H Q => (∃ i, xs = [.int i] ∧ Q (.int i) H) ∨ ∃ k, xs = [.bl k] ∧ Q (.int (if k then 1 else 0)) H
theorem call_intK : CallR X (.type "int") kInt := call_int1
theorem c_intI (q : Q (.int i) H) : kInt [.int i] H Q := .inl ⟨i, rfl, q⟩
theorem c_intB {k : Bool} (q : Q (.int (if k then 1 else 0)) H) : kInt [.bl k] H Q := .inr ⟨k, rfl, q⟩
def kTupIndex (K : PySem.W.Frag) : V → List V → Hp → VK → Prop := fun x xs H Q => ∃ p, ∃ ys : List Str, ∃ z j, x = .ref p ∧ xs = [.str z] ∧ SqT K H p (ys.map V.str) ∧ ys[j]? = some z ∧ (∀ m, m < j → ys[m]? ≠ some z) ∧ Q (.int (j : Nat)) H
theorem mt_tupIndexK : MtR X "tuple.index" (kTupIndex X.K) := mt_tup_index
theorem c_methF {R : Prop} {o : Obj} (h : H p = some (.frz o (.tup xs))) (hd : o.dict = none) (q : R) : tyF (.ref p) H ∧ R := ⟨⟨p, o, _, rfl, h, hd⟩, q⟩
theorem c_tupIndex {ys : List Str} {j : Nat} {o : Obj} (h : H p = some (.frz o (.tup (ys.map V.str)))) (e : ys[j]? = some z) (n : ∀ m, m < j → ys[m]? ≠ some z) (q : Q (.int (j : Nat)) H) : kTupIndex K (.ref p) [.str z] H Q :=
  ⟨p, ys, z, j, rfl, rfl, .inl (.inr ⟨o, h⟩), e, n, q⟩
theorem c_meth {R : Prop} (h : H p = some (.lst xs)) (q : R) : tyV K "list" (.ref p) H ∧ R := ⟨.inl ⟨rfl, _, lof h⟩, q⟩
theorem c_append (h : H p = some (.lst xs)) (hl : xs.length < sizeLine) (q : Q .non (upd H p (.lst (xs ++ [y])))) : rAppend (.ref p) [y] H Q := ⟨p, xs, y, rfl, rfl, h, hl, q⟩
end
theorem ifD {p A B : Prop} [Decidable p] (h1 : p → A) (h2 : ¬ p → B) : if decide p = true then A else B := by
  by_cases h : p
  · rw [decide_eq_true h]; exact h1 h
  · rw [decide_eq_false h]; exact h2 h
theorem ifND {p A B : Prop} [Decidable p] (h1 : ¬ p → A) (h2 : p → B) : if (!decide p) = true then A else B := by
  by_cases h : p
  · rw [decide_eq_true h]; exact h2 h
  · rw [decide_eq_false h]; exact h1 h
theorem map_get {α β : Type} {f : α → β} {l : List α} {i : Nat} {y : β} (h : (l.map f)[i]? = some y) : ∃ x, l[i]? = some x ∧ y = f x := by
  rw [List.getElem?_map] at h
  cases e : l[i]? with
  | none => rw [e] at h; cases h
  | some x => rw [e] at h; exact ⟨x, rfl, (Option.some.inj h).symm⟩
theorem take_succ_get {α : Type} {l : List α} {i : Nat} {x : α} (h : l[i]? = some x) : l.take (i + 1) = l.take i ++ [x] := by
  rw [List.take_add_one, h]; rfl
theorem small5 {n : Nat} (h : n ≤ 1000000) : n < sizeLine := Nat.lt_of_le_of_lt h (by decide)
/-! the pen that a law draws by: a dict of three -/
abbrev penO (c : Addr) (a : Nat) (l : Int) : HO := .dK [(.inr "cells", .ref c), (.inr "at", .int (a : Int)), (.inr "left", .int l)]
/-- the pen at p has drawn n times at most -/
def Pen (K : PySem.W.Frag) (G : Hp) (p : Addr) (n : Nat) (H : Hp) : Prop :=
  G p = none ∧ ∃ (c : Addr) (ns : List Int) (a : Nat) (l : Int), SqL K G c (ns.map V.int) ∧ ns.length ≤ 63 ∧ a ≤ n ∧ H p = some (penO c a l)
theorem kne {x y : Str} (h : x ≠ y) : ¬ (Sum.inr x : Key) = Sum.inr y := fun e => h (Sum.inr.inj e)
theorem vv0 {x : Str} {v : V} {r : List (Key × V)} : valV ((.inr x, v) :: r) (.inr x : Key) = some v := valV_pos rfl
theorem vv1 {x y : Str} {v : V} {r : List (Key × V)} (h : x ≠ y) : valV ((.inr x, v) :: r) (.inr y : Key) = valV r (.inr y) := valV_neg (kne h)
theorem dk {H : Hp} {a : Addr} {kvs : List (Key × V)} {x : Str} {v : V} (h : H a = some (.dK kvs)) (e : valV kvs (.inr x) = some v) : DGet H a (.str x) (some v) := by
  have q := DGet.k (k := .inr x) h
  rw [e] at q
  exact q
section
variable {K : PySem.W.Frag} {G G' H H' : Hp} {p o c : Addr} {n m a : Nat} {l i : Int} {M : Addr → Prop} {x : HO}
theorem pen_cells (h : H p = some (penO c a l)) : DGet H p (.str "cells") (some (.ref c)) := dk h vv0
theorem pen_at (h : H p = some (penO c a l)) : DGet H p (.str "at") (some (.int (a : Int))) := dk h ((vv1 (by decide +kernel)).trans vv0)
theorem pen_left (h : H p = some (penO c a l)) : DGet H p (.str "left") (some (.int l)) := dk h ((vv1 (by decide +kernel)).trans ((vv1 (by decide +kernel)).trans vv0))
theorem putK_here {x : Str} {v w : V} {r : List (Key × V)} (h : ∀ kv ∈ r, kv.1 ≠ (.inr x : Key)) : putK ((.inr x, v) :: r) (.inr x : Key) w = (.inr x, w) :: r := by
  unfold putK
  rw [if_pos (by simp), List.map_cons, if_pos rfl]
  congr 1
  induction r with
  | nil => rfl
  | cons kv r ih => rw [List.map_cons, if_neg (h kv List.mem_cons_self), ih fun z hz => h z (List.mem_cons_of_mem _ hz)]
theorem putK_next {x y : Str} {v w : V} {r : List (Key × V)} (h : x ≠ y) (e : (r.any fun kv => decide (kv.1 = (.inr y : Key))) = true) : putK ((.inr x, v) :: r) (.inr y : Key) w = (.inr x, v) :: putK r (.inr y) w := by
  unfold putK
  rw [if_pos (by rw [List.any_cons, e, Bool.or_true]), if_pos e, List.map_cons, if_neg (kne h)]
theorem dput {H : Hp} {a : Addr} {kvs kvs' : List (Key × V)} {x : Str} {v : V} (h : H a = some (.dK kvs)) (hl : kvs.length < sizeLine) (e : putK kvs (.inr x) v = kvs') : DPut H a (.str x) v (upd H a (.dK kvs')) := by
  have q := DPut.k (k := .inr x) (v := v) h hl
  rw [e] at q
  exact q
theorem pen_putAt (h : H p = some (penO c a l)) (m : Nat) : DPut H p (.str "at") (.int (m : Int)) (upd H p (penO c m l)) :=
  dput h (by show 3 < sizeLine; decide) (by
    rw [putK_next (by decide +kernel) (by simp), putK_here (fun kv hk => by
      rw [List.mem_singleton] at hk
      rw [hk]
      exact kne (by decide +kernel))])
theorem pen_putLeft (h : H p = some (penO c a l)) (m : Int) : DPut H p (.str "left") (.int m) (upd H p (penO c a m)) :=
  dput h (by show 3 < sizeLine; decide) (by
    rw [putK_next (by decide +kernel) (by simp), putK_next (by decide +kernel) (by simp), putK_here (fun kv hk => by cases hk)])
theorem Pen.is (h : Pen K G p n H) : ∃ c a l, H p = some (penO c a l) := by
  obtain ⟨_, c, _, a, l, _, _, _, h⟩ := h
  exact ⟨c, a, l, h⟩
theorem Pen.mono (h : Pen K G p n H) (e : n ≤ m) : Pen K G p m H := by
  obtain ⟨g, c, ns, a, l, h1, h2, h3, h4⟩ := h
  exact ⟨g, c, ns, a, l, h1, h2, Nat.le_trans h3 e, h4⟩
theorem Pen.stp (h : Pen K G p n H) (s : Stp M G H G' H') (hM : ¬ M p) : Pen K G' p n H' := by
  obtain ⟨g, c, ns, a, l, h1, h2, h3, h4⟩ := h
  exact ⟨(s.fr _ _ h4).trans g, c, ns, a, l, s.gg.seq h1, h2, h3, s.up _ _ hM h4⟩
theorem Pen.stp0 (h : Pen K G p n H) (s : Stp M0 G H G' H') : Pen K G' p n H' := h.stp s (fun z => z)
theorem Pen.ne (h : Pen K G p n H) (e : H o = some (.lst xs)) : o ≠ p := by
  obtain ⟨c, a, l, q⟩ := h.is
  exact ne_of e q (fun z => nomatch z)
theorem Pen.new (h : Pen K G p n H) (e : H o = none) : o ≠ p := by
  obtain ⟨c, a, l, q⟩ := h.is
  exact (ne_of_none q e).symm
theorem Pen.upd (h : Pen K G p n H) (e : o ≠ p) : Pen K G p n (L2.upd H o x) := by
  obtain ⟨g, c, ns, a, l, h1, h2, h3, h4⟩ := h
  exact ⟨g, c, ns, a, l, h1, h2, h3, by rw [upd_ne e.symm]; exact h4⟩
/-- known besides: something that stands, not the pen -/
theorem Pen.know (h : Pen K G p n H) (s : Same G G') (e : G' p = none) : Pen K G' p n H := by
  obtain ⟨g, c, ns, a, l, h1, h2, h3, h4⟩ := h
  exact ⟨e, c, ns, a, l, s.seq h1, h2, h3, h4⟩
theorem Stp.forget {G1 G1' : Hp} (s : Stp M G1 H G1' H') (g : Same G H) (hM : ∀ a, M a → G a = none) : Stp M G H G H' :=
  ⟨s.up, Same.refl G, fun a o e => s.up a o (fun m => by rw [hM a m] at e; cases e) (g a o e), fun _ _ _ => .inl rfl, s.th⟩
theorem r_put {y v : V} {R : Hp → Prop} (h : DPut H p y v H') (q : R H') : ∃ a H4, V.ref p = .ref a ∧ DPut H a y v H4 ∧ R H4 := ⟨p, H', rfl, h, q⟩
theorem hu64_of {k : Nat} {A : Around} (hr : Room k A) : A.units + 64 < cLine := by have := hr.un; omega
theorem r_ixL' {K : PySem.W.Frag} {xs : List V} {v : V} {Q : VK} (h : SqL K H p xs) (e : i = (n : Int)) (c : xs[n]? = some v) (q : Q v H) : rIxL K (.ref p) (.int i) H Q := ⟨p, xs, i, v, rfl, rfl, h, at_of e c, q⟩
theorem r_ixT' {K : PySem.W.Frag} {xs : List V} {v : V} {Q : VK} (h : SqT K H p xs) (e : i = (n : Int)) (c : xs[n]? = some v) (q : Q v H) : rIxT K (.ref p) (.int i) H Q := ⟨p, xs, i, v, rfl, rfl, h, at_of e c, q⟩
theorem dp_ints {K : PySem.W.Frag} {H : Hp} : ∀ ns : List Int, DpAll K H (ns.map V.int) (ns.map PyData.int)
  | [] => .nil
  | n :: r => .cons (.int n) (dp_ints r)
theorem dp_strs {K : PySem.W.Frag} {H : Hp} : ∀ ns : List Str, DpAll K H (ns.map V.str) (ns.map PyData.str)
  | [] => .nil
  | n :: r => .cons (.str n) (dp_strs r)
theorem mod_nat {i : Int} {m : Nat} (h : 1 ≤ m) : ∃ d : Nat, i % (m : Int) = (d : Int) ∧ d < m := by
  have h1 := Int.emod_nonneg i (b := (m : Int)) (by omega)
  have h2 := Int.emod_lt_of_pos i (b := (m : Int)) (by omega)
  exact ⟨(i % (m : Int)).toNat, by omega, by omega⟩
end
theorem mod_q {i : Int} {m : Nat} {Q : V → Prop} (h : 1 ≤ m) (q : ∀ d : Nat, d < m → Q (.int (d : Int))) : Q (.int (i % (m : Int))) := by
  obtain ⟨d, e, hd⟩ := mod_nat (i := i) h
  rw [e]
  exact q d hd
/-! data: texts and whole numbers in a row -/
abbrev SOk (z : Str) : Prop := PyData.strOk z = true
theorem lay_strs : ∀ ns : List Str, (∀ z ∈ ns, SOk z) → PyData.canLayAll0 (ns.map PyData.str) = true
  | [], _ => rfl
  | z :: r, h => by
    have h1 := h z List.mem_cons_self
    have h2 := lay_strs r fun y hy => h y (List.mem_cons_of_mem _ hy)
    simp only [List.map_cons, PyData.canLayAll0, PyData.canLay0, h2, Bool.and_true]
    exact h1
theorem deep_strs : ∀ ns : List Str, PyData.depthAll (ns.map PyData.str) = 0
  | [] => rfl
  | _ :: r => by simp [PyData.depthAll, PyData.depth, deep_strs r]
theorem sh_list {ns : List Str} (h : ∀ z ∈ ns, SOk z) : SeqAt.shaped (.list (ns.map PyData.str)) = true := by
  simp [SeqAt.shaped, PyData.canLay0, PyData.depth, lay_strs ns h, deep_strs]
theorem sh_tup {ns : List Str} (h : ∀ z ∈ ns, SOk z) : SeqAt.shaped (.tuple (ns.map PyData.str)) = true := by
  simp [SeqAt.shaped, PyData.canLay0, PyData.depth, lay_strs ns h, deep_strs]
theorem sh_ints (ns : List Int) : SeqAt.shaped (.list (ns.map PyData.int)) = true := PySem.W.ke_shaped_ints ns
theorem eqv_strs : ∀ ns ms : List Str, PyData.eqvAll (ns.map PyData.str) (ms.map PyData.str) = decide (ns = ms)
  | [], [] => by simp [PyData.eqvAll]
  | [], _ :: _ => by simp [PyData.eqvAll]
  | _ :: _, [] => by simp [PyData.eqvAll]
  | a :: r, b :: t => by
    simp only [List.map_cons, PyData.eqvAll, PyData.eqv, eqv_strs r t]
    by_cases h : a = b <;> by_cases h' : r = t <;> simp [h, h']
theorem eqv_ints : ∀ ns ms : List Int, PyData.eqvAll (ns.map PyData.int) (ms.map PyData.int) = decide (ns = ms)
  | [], [] => by simp [PyData.eqvAll]
  | [], _ :: _ => by simp [PyData.eqvAll]
  | _ :: _, [] => by simp [PyData.eqvAll]
  | a :: r, b :: t => by
    simp only [List.map_cons, PyData.eqvAll, PyData.eqv, eqv_ints r t]
    by_cases h : a = b <;> by_cases h' : r = t <;> simp [h, h']
section
variable {K : PySem.W.Frag} {H : Hp} {Q : VK} {p q : Addr} {ns ms : List Str} {is js : List Int}
theorem r_eqLL (h : SqL K H p (ns.map V.str)) (h' : SqL K H q (ms.map V.str)) (a : ∀ z ∈ ns, SOk z) (b : ∀ z ∈ ms, SOk z) (k : Q (.bl (decide (ns = ms))) H) : rEqD K (.ref p) (.ref q) H Q :=
  ⟨_, _, .lst h (dp_strs _), .lst h' (dp_strs _), sh_list a, sh_list b, by rw [PyData.eqv, eqv_strs]; exact k⟩
theorem r_neLL (h : SqL K H p (ns.map V.str)) (h' : SqL K H q (ms.map V.str)) (a : ∀ z ∈ ns, SOk z) (b : ∀ z ∈ ms, SOk z) (k : Q (.bl (!decide (ns = ms))) H) : rNeD K (.ref p) (.ref q) H Q :=
  ⟨_, _, .lst h (dp_strs _), .lst h' (dp_strs _), sh_list a, sh_list b, by rw [PyData.eqv, eqv_strs]; exact k⟩
theorem r_neII (h : SqL K H p (is.map V.int)) (h' : SqL K H q (js.map V.int)) (k : Q (.bl (!decide (is = js))) H) : rNeD K (.ref p) (.ref q) H Q :=
  ⟨_, _, .lst h (dp_ints _), .lst h' (dp_ints _), sh_ints _, sh_ints _, by rw [PyData.eqv, eqv_ints]; exact k⟩
end
/-! texts; what a pen picks from -/
section
variable {X : Cx} {K : PySem.W.Frag} {H : Hp} {Q : VK} {p : Addr} {xs : List V} {x y v : V} {i j : Int} {z z' : Str} {to te : TE} {σ : L2.St} {c n : Nat}
def kLenQ (K : PySem.W.Frag) : List V → Hp → VK → Prop := fun xs H Q => ∃ x n, xs = [x] ∧ LenV K x H n ∧ Q (.int n) H
theorem call_lenQ : CallR X (.builtin "len") (kLenQ X.K) := call_len
theorem c_lenQ {n : Nat} (h : LenV K x H n) (q : Q (.int (n : Int)) H) : kLenQ K [x] H Q := ⟨x, n, rfl, h, q⟩
def kJoin (K : PySem.W.Frag) : V → List V → Hp → VK → Prop := fun x xs H Q => ∃ a p, ∃ ys : List Str, x = .str a ∧ xs = [.ref p] ∧ (SqL K H p (ys.map V.str) ∨ SqT K H p (ys.map V.str)) ∧
      (ys.map (·.length)).sum + ys.length * a.length ≤ 16777216 ∧ Q (.str (Txt.join a ys)) H
theorem pe_joinK {o e : Expr} {apos pos : Pos} (ho : PE X o to) (he : PE X e te) (hs : starEach [e] X.env = [(false, eval e X.env)] := by rfl) (hbase : attributeBase o "join" X.env (eval o X.env) = eval o X.env := by rfl) (hline : (apos.endLine == pos.line) = true := by rfl) :
    PE X (.Call (.Attribute o "join" apos) [e] [] pos) (tM1 (kJoin X.K) to te) := pe_join ho he hs hbase hline
def kSplit : V → List V → Hp → VK → Prop := fun x xs H Q => ∃ a b, x = .str a ∧ xs = [.str b] ∧ (b.length == 0) = false ∧ a.length + 2 ≤ sizeLine ∧ rNewStrs (Txt.split a b) H Q
theorem pe_splitK {o e : Expr} {apos pos : Pos} (ho : PE X o to) (he : PE X e te) (hs : starEach [e] X.env = [(false, eval e X.env)] := by rfl) (hbase : attributeBase o "split" X.env (eval o X.env) = eval o X.env := by rfl) (hline : (apos.endLine == pos.line) = true := by rfl) :
    PE X (.Call (.Attribute o "split" apos) [e] [] pos) (tM1 kSplit to te) := pe_split ho he hs hbase hline
theorem r_m1 {r : V → List V → Hp → VK → Prop} (h : to σ H fun x H1 => (∃ a, x = .str a) ∧ te σ H1 fun y H2 => r x [y] H2 Q) : tM1 r to te σ H Q := h
theorem r_m1s {R : Prop} (q : R) : (∃ a, V.str z = .str a) ∧ R := ⟨⟨z, rfl⟩, q⟩
theorem c_join {ys : List Str} (h : SqL K H p (ys.map V.str)) (hs : (ys.map (·.length)).sum + ys.length * z.length ≤ 16777216) (q : Q (.str (Txt.join z ys)) H) : kJoin K (.str z) [.ref p] H Q := ⟨z, p, ys, rfl, rfl, .inl h, hs, q⟩
theorem c_split (h : (z'.length == 0) = false) (hs : z.length + 2 ≤ sizeLine) (q : ∀ p, H p = none → Q (.ref p) (upd H p (.lst ((Txt.split z z').map V.str)))) : kSplit (.str z) [.str z'] H Q := ⟨z, z', rfl, rfl, h, hs, q⟩
theorem r_ixS' (hz : z.length ≤ sizeLine) (e : i = (n : Int)) (h : z.cps.toList[n]? = some c) (q : Q (.str ⟨#[c]⟩) H) : rIxS (.str z) (.int i) H Q := ⟨z, i, c, rfl, rfl, hz, at_ofS e h, q⟩
where at_ofS {z : List Nat} {i : Int} {n c : Nat} (e : i = (n : Int)) (h : z[n]? = some c) : atI z i = some c := by rw [e]; exact atI_nat h
def kAddS : R2 := fun x y H Q => ∃ i j, x = .str i ∧ y = .str j ∧ i.length + j.length ≤ sizeLine ∧ Q (.str (i ++ j)) H
theorem op_addS : OpR X (binaryOp .Add) kAddS := op_add_str
theorem c_addS (hz : z.length + z'.length ≤ sizeLine) (q : Q (.str (z ++ z')) H) : kAddS (.str z) (.str z') H Q := ⟨z, z', rfl, rfl, hz, q⟩
theorem r_slS {lo hi : Option Int} (hz : z.length ≤ sizeLine) (q : Q (.str (cutS z lo hi)) H) : rSlS (.str z) lo hi H Q := ⟨z, rfl, hz, q⟩
/-- what is picked from: a list, a tuple, a text -/
def Src (K : PySem.W.Frag) (G : Hp) (s : V) (items : List V) : Prop :=
  (∃ a, s = .ref a ∧ SqL K G a items) ∨ (∃ a, s = .ref a ∧ SqT K G a items) ∨ ∃ z : Str, s = .str z ∧ z.length ≤ sizeLine ∧ items = z.cps.toList.map fun c => V.str ⟨#[c]⟩
theorem Src.len {s : V} {items : List V} (h : Src K H s items) : LenV K s H items.length := by
  rcases h with ⟨a, rfl, h⟩ | ⟨a, rfl, h⟩ | ⟨z, rfl, h, rfl⟩
  · exact .inl ⟨_, h, rfl⟩
  · exact .inr ⟨_, h, rfl⟩
  · exact ⟨h, by rw [List.length_map]; rfl⟩
theorem Src.at {s : V} {items : List V} {d : Nat} (h : Src K H s items) (e : items[d]? = some v) (q : Q v H) : rIx K s (.int (d : Int)) H Q := by
  rcases h with ⟨a, rfl, h⟩ | ⟨a, rfl, h⟩ | ⟨z, rfl, h, rfl⟩
  · exact .inl ⟨a, items, _, v, rfl, rfl, h, at_of rfl e, q⟩
  · exact .inr (.inl ⟨a, items, _, v, rfl, rfl, h, at_of rfl e, q⟩)
  · obtain ⟨c, hc, rfl⟩ := map_get e
    exact .inr (.inr ⟨z, _, c, rfl, rfl, h, r_ixS'.at_ofS rfl hc, q⟩)
theorem Src.same {G : Hp} {s : V} {items : List V} (e : Same G H) (h : Src K G s items) : Src K H s items := by
  rcases h with ⟨a, r, h⟩ | ⟨a, r, h⟩ | h
  · exact .inl ⟨a, r, e.seq h⟩
  · exact .inr (.inl ⟨a, r, Same.sqt e h⟩)
  · exact .inr (.inr h)
end
theorem app_list (a y : Str) : (a ++ y).cps.toList = a.cps.toList ++ y.cps.toList := by
  show (a.cps ++ y.cps).toList = _
  exact Array.toList_append ..
theorem join_empty : ∀ ps : List Str, (Str.join ⟨#[]⟩ ps).cps.toList = (ps.map fun z => z.cps.toList).flatten
  | [] => rfl
  | [x] => by simp [Str.join]
  | x :: y :: r => by
    have h : Str.join ⟨#[]⟩ (x :: y :: r) = x ++ ⟨#[]⟩ ++ Str.join ⟨#[]⟩ (y :: r) := rfl
    rw [h, app_list, app_list, join_empty (y :: r)]
    simp
theorem join_signs (zs : List Nat) : Txt.join ⟨#[]⟩ (zs.map fun c => (⟨#[c]⟩ : Str)) = ⟨zs.toArray⟩ := by
  rw [TL.join_eq]
  apply ext_toList
  rw [join_empty, List.map_map]
  induction zs with
  | nil => rfl
  | cons z r ih => rw [List.map_cons, List.flatten_cons, ih]; rfl
/-! dicts written out -/
section
variable {K : PySem.W.Frag} {H : Hp} {Q : VK} {σ : L2.St} {p : Addr} {xs : List V}
theorem r_disp {trs : List (TE × TE)} (h : ∀ p, H p = none → tPairs trs σ (upd H p (.dK [])) fun ps H2 => H2 p = some (.dK []) ∧ ∃ kvs : List (Key × V), ps = kvs.map (fun kv => (kV kv.1, kv.2)) ∧ kvs.length ≤ 15 ∧ Q (.ref p) (upd H2 p (.dK (mergeK [] kvs)))) : tDisp trs σ H Q := h
theorem r_pcons {tk tv : TE} {r : List (TE × TE)} {R : List (V × V) → Hp → Prop} (h : tk σ H fun x H1 => tv σ H1 fun y H2 => tPairs r σ H2 fun ps H3 => R ((x, y) :: ps) H3) : tPairs ((tk, tv) :: r) σ H R := h
theorem r_pnil {R : List (V × V) → Hp → Prop} (h : R [] H) : tPairs [] σ H R := h
theorem r_slL {lo hi : Option Int} (h : SqL K H p xs) (q : ∀ l, H l = none → Q (.ref l) (upd H l (.lst (cutV xs lo hi)))) : rSlL K (.ref p) lo hi H Q := ⟨p, xs, rfl, h, q⟩
theorem putK_new {x : Str} {v : V} {kvs : List (Key × V)} (h : (kvs.any fun kv => decide (kv.1 = (.inr x : Key))) = false) : putK kvs (.inr x : Key) v = kvs ++ [(.inr x, v)] := by
  unfold putK
  rw [if_neg (by rw [h]; exact Bool.false_ne_true)]
theorem merge2 {a b : Str} {x y : V} (h : a ≠ b) : mergeK [] [((.inr a : Key), x), (.inr b, y)] = [(.inr a, x), (.inr b, y)] := by
  have e2 : putK [((Sum.inr a : Key), x)] (Sum.inr b) y = [(Sum.inr a, x), (Sum.inr b, y)] := (putK_new (by simp [h])).trans rfl
  show putK (putK [] (Sum.inr a : Key) x) (Sum.inr b) y = _
  rw [show putK ([] : List (Key × V)) (Sum.inr a) x = [(Sum.inr a, x)] from rfl, e2]
theorem merge3 {a b c : Str} {x y z : V} (h : a ≠ b) (h1 : a ≠ c) (h2 : b ≠ c) : mergeK [] [((.inr a : Key), x), (.inr b, y), (.inr c, z)] = [(.inr a, x), (.inr b, y), (.inr c, z)] := by
  have e2 : putK [((Sum.inr a : Key), x)] (Sum.inr b) y = [(Sum.inr a, x), (Sum.inr b, y)] := (putK_new (by simp [h])).trans rfl
  have e3 : putK [((Sum.inr a : Key), x), (Sum.inr b, y)] (Sum.inr c) z = [(Sum.inr a, x), (Sum.inr b, y), (Sum.inr c, z)] := (putK_new (by simp [h1, h2])).trans rfl
  show putK (putK (putK [] (Sum.inr a : Key) x) (Sum.inr b) y) (Sum.inr c) z = _
  rw [show putK ([] : List (Key × V)) (Sum.inr a) x = [(Sum.inr a, x)] from rfl, e2, e3]
end
/-- a name: one to eight small letters -/
def NmOk (z : Str) : Prop := 1 ≤ z.length ∧ z.length ≤ 8 ∧ ∀ c ∈ z.cps.toList, 97 ≤ c ∧ c ≤ 122
theorem NmOk.sok {z : Str} (h : NmOk z) : SOk z := by
  show z.cps.all (· < 0x110000) = true
  rw [← Array.all_toList, List.all_eq_true]
  intro c hc
  have := h.2.2 c hc
  exact decide_eq_true (by omega)
/-! the rules, the written part named -/
section
variable {X : Cx} {K : PySem.W.Frag}
theorem k_ix_list (h : X.K = K) : IxR X (rIxL K) := h ▸ ix_list
theorem k_ix_tup (h : X.K = K) : IxR X (rIxT K) := h ▸ ix_tup
theorem k_ix_seq (h : X.K = K) : IxR X (rIx K) := h ▸ ix_seq
theorem k_sl_list (h : X.K = K) : SlR X (rSlL K) := h ▸ sl_list
theorem k_sl_tupA (h : X.K = K) : SlR X (rSlA K) := h ▸ sl_tupA
theorem k_op_eqD (h : X.K = K) (hu : X.A.units + 64 < cLine) : OpR X (compareOp .Eq) (rEqD K) := h ▸ op_eqD hu
theorem k_op_neD (h : X.K = K) (hu : X.A.units + 64 < cLine) : OpR X (compareOp .NotEq) (rNeD K) := h ▸ op_neD hu
theorem k_op_in (h : X.K = K) : OpR X (compareOp .In) (rIn K false) := h ▸ op_in_seq
theorem k_op_notIn (h : X.K = K) : OpR X (compareOp .NotIn) (rIn K true) := h ▸ op_notIn_seq
theorem k_op_catA (h : X.K = K) : OpR X (binaryOp .Add) (rCatA K) := h ▸ op_catA
theorem k_len (h : X.K = K) : CallR X (.builtin "len") (kLen K) := h ▸ call_lenK
theorem k_lenQ (h : X.K = K) : CallR X (.builtin "len") (kLenQ K) := h ▸ call_lenQ
theorem k_list (h : X.K = K) : CallR X (.type "list") (kList K) := h ▸ call_listK
theorem k_tuple (h : X.K = K) : CallR X (.type "tuple") (kTuple K) := h ▸ call_tupleK
theorem k_sortedS (h : X.K = K) : CallR X (.builtin "sorted") (rSortedS K) := h ▸ cr_sortedS
theorem k_isi (h : X.K = K) : CallR X (.builtin "isinstance") (rIsi K) := h ▸ call_isi
theorem k_tupIndex (h : X.K = K) : MtR X "tuple.index" (kTupIndex K) := h ▸ mt_tupIndexK
variable {e o : Expr} {es : List Expr} {te to ta : TE} {t : TA} {name : Str} {apos cpos pos p1 p2 p3 : Pos} {T id : String} {r : V → List V → Hp → VK → Prop} {k : Nat}
theorem k_bm (h : X.K = K) (pa : PlainAttrs T) (slot : Slot T name id) (hty : typeOf (.builtin id) = pure (.type "method_descriptor")) (hm : MtR X id r) (ho : PE X o to) (ha : PA X (e :: es) t)
    (hbase : attributeBase o name X.env (eval o X.env) = eval o X.env := by rfl)
    (hfew : ((backTo cpos (starEach (e :: es) X.env)).all (fun x => !x.1) && (backToKw cpos (keywordEach [] X.env)).all (fun x => x.1.isSome)
      && decide ((e :: es).length + ([] : List Keyword).length + (if ([] : List Keyword).isEmpty then 0 else 1) < 30)) = true := by rfl)
    (hline : (apos.endLine == cpos.line) = true := by rfl) (hs : starEach (e :: es) X.env = (false, eval e X.env) :: starEach es X.env := by rfl) (hplain : (backTo cpos (starEach es X.env)).any (·.1) = false := by rfl) :
    PE X (.Call (.Attribute o name apos) (e :: es) [] cpos) (tBM K T r to t) := h ▸ pe_bm pa slot hty hm ho ha hbase hfew hline hs hplain
theorem k_join {apos pos : Pos} (h : X.K = K) (ho : PE X o to) (he : PE X e te) (hs : starEach [e] X.env = [(false, eval e X.env)] := by rfl) (hbase : attributeBase o "join" X.env (eval o X.env) = eval o X.env := by rfl) (hline : (apos.endLine == pos.line) = true := by rfl) :
    PE X (.Call (.Attribute o "join" apos) [e] [] pos) (tM1 (kJoin K) to te) := h ▸ pe_joinK ho he hs hbase hline
theorem k_revT {k : Nat} (h : X.K = K) (he : PE X e te) : PE X (.Subscript e (.Slice none none (some (.UnaryOp .USub (.Constant (.int 1) k p1) p2)) p3) pos) (tRevT K te) := h ▸ pe_revT he
variable {tg l : Expr} {n : Nat} {gs : TGs}
theorem k_pi_list (h : X.K = K) (he : PE X l te) : PI X tg l (iList K te) := h ▸ pi_list he
theorem k_pi_tup (h : X.K = K) (he : PE X l te) : PI X tg l (iTup K te) := h ▸ pi_tup he
theorem k_pg_tup {es : List Expr} {k : Nat} (h : X.K = K) (hc : X.calm = true) (hg : PGs X es gs)
    (hn : (assignEach es X.env).length = n := by rfl) (hst : (assignEach es X.env).findIdx? (·.1) = none := by rfl) : PG X (.Tuple es k pos) (gTup K n gs) := h ▸ pg_tup hc hg hn hst
theorem k_truth {a : Expr} (h : X.K = K) (ha : PE X a ta) (he : ∀ whole, isTrue a X.env whole = (do let v ← whole; standAt a.pos; holding [v] (truthy v))) :
    PT X a (fun σ H Q => ta σ H fun x H' => ∃ k, TruV K x H' k ∧ Q k H') := h ▸ pt_truth ha he
end
/-! texts cut -/
theorem cutS_mem {z : Str} {lo hi : Option Int} {c : Nat} (h : c ∈ (cutS z lo hi).cps.toList) : c ∈ z.cps.toList := by
  have h' : c ∈ ((z.cps.toList.drop (HT.sIx z.length 0 lo)).take (HT.sIx z.length z.length hi - HT.sIx z.length 0 lo)) := h
  exact List.mem_of_mem_drop (List.mem_of_mem_take h')
theorem cutS_len (z : Str) (lo hi : Option Int) : (cutS z lo hi).length = min (HT.sIx z.length z.length hi - HT.sIx z.length 0 lo) (z.length - HT.sIx z.length 0 lo) := by
  show (((z.cps.toList.drop (HT.sIx z.length 0 lo)).take (HT.sIx z.length z.length hi - HT.sIx z.length 0 lo)).toArray).size = _
  rw [List.size_toArray, List.length_take, List.length_drop, Array.length_toList]
  rfl
theorem cutS_to (z : Str) (a : Nat) : (cutS z none (some ((a : Nat) : Int))).length = min a z.length := by
  rw [cutS_len, HT.sIx_nat, HT.sIx_none]
  omega
theorem cutS_from (z : Str) (a : Nat) : (cutS z (some ((a : Nat) : Int)) none).length = z.length - a := by
  rw [cutS_len, HT.sIx_nat, HT.sIx_none]
  omega
theorem cutS_le (z : Str) (lo hi : Option Int) : (cutS z lo hi).length ≤ z.length := by
  rw [cutS_len]
  omega
theorem nm_cat {u v w : Str} {b : Str} (hb : b.length ≤ 8) (hc : ∀ c ∈ b.cps.toList, 97 ≤ c ∧ c ≤ 122) (h1 : ∀ c ∈ u.cps.toList, c ∈ b.cps.toList) (h2 : ∀ c ∈ v.cps.toList, 97 ≤ c ∧ c ≤ 122) (h3 : ∀ c ∈ w.cps.toList, c ∈ b.cps.toList)
    (hv : v.length = 1) (hl : u.length + 1 + w.length ≤ b.length) : NmOk (u ++ v ++ w) := by
  have e : (u ++ v ++ w).cps.toList = u.cps.toList ++ v.cps.toList ++ w.cps.toList := by rw [app_list, app_list]
  have el : (u ++ v ++ w).length = u.length + v.length + w.length := by
    show (u ++ v ++ w).cps.size = _
    rw [← Array.length_toList, e, List.length_append, List.length_append]
    rfl
  refine ⟨by omega, by omega, fun c h => ?_⟩
  rw [e] at h
  rcases List.mem_append.mp h with h | h
  · rcases List.mem_append.mp h with h | h
    · exact hc c (h1 c h)
    · exact h2 c h
  · exact hc c (h3 c h)
/-! yards: rooms and doors as plain data -/
abbrev Dr := Str × Str
def DrAll (G : Hp) (xs : List V) (ds : List Dr) : Prop :=
  xs.length = ds.length ∧ ∀ (i : Nat) (d : Dr), ds[i]? = some d → ∃ t o, xs[i]? = some (.ref t) ∧ G t = some (.frz o (.tup ([d.1, d.2].map V.str))) ∧ o.dict = none
theorem DrAll.nil {G : Hp} : DrAll G [] [] := ⟨rfl, fun i d h => by simp at h⟩
theorem DrAll.same {G G' : Hp} {xs : List V} {ds : List Dr} (e : Same G G') (h : DrAll G xs ds) : DrAll G' xs ds :=
  ⟨h.1, fun i d hd => by obtain ⟨t, o, h1, h2, h3⟩ := h.2 i d hd; exact ⟨t, o, h1, e _ _ h2, h3⟩⟩
theorem DrAll.snoc {G : Hp} {xs : List V} {ds : List Dr} {t : Addr} {o : Obj} {d : Dr} (h : DrAll G xs ds) (e : G t = some (.frz o (.tup ([d.1, d.2].map V.str)))) (hd : o.dict = none) : DrAll G (xs ++ [.ref t]) (ds ++ [d]) := by
  refine ⟨by rw [List.length_append, List.length_append, h.1]; rfl, fun i d' hi => ?_⟩
  by_cases hl : i < ds.length
  · rw [List.getElem?_append_left hl] at hi
    obtain ⟨t', o', h1, h2, h3⟩ := h.2 i d' hi
    exact ⟨t', o', by rw [List.getElem?_append_left (by rw [h.1]; exact hl)]; exact h1, h2, h3⟩
  · rw [List.getElem?_append_right (by omega)] at hi
    have e0 : i - ds.length = 0 := by
      rcases Nat.eq_zero_or_pos (i - ds.length) with z | z
      · exact z
      · rw [List.getElem?_eq_none (by simp; omega)] at hi; cases hi
    rw [e0] at hi
    have hi' : d = d' := Option.some.inj hi
    subst hi'
    exact ⟨t, o, by rw [List.getElem?_append_right (by rw [h.1]; omega), h.1, e0]; rfl, e, hd⟩
theorem DrAll.snoc' {G : Hp} {xs : List V} {ds : List Dr} {t : Addr} {o : Obj} {a b : Str} (h : DrAll G xs ds) (e : G t = some (.frz o (.tup [.str a, .str b]))) (hd : o.dict = none) : DrAll G (xs ++ [.ref t]) (ds ++ [(a, b)]) :=
  h.snoc (d := (a, b)) e hd
/-- the yard at y: its rooms' list, its doors' list at d -/
def Yd (K : PySem.W.Frag) (G : Hp) (y : Addr) (rs : List Str) (d : Addr) : Prop :=
  ∃ r, G y = some (.dK [(.inr "rooms", .ref r), (.inr "doors", .ref d)]) ∧ SqL K G r (rs.map V.str)
def Yard (K : PySem.W.Frag) (G : Hp) (y : Addr) (rs : List Str) (ds : List Dr) : Prop :=
  ∃ d xs, Yd K G y rs d ∧ SqL K G d xs ∧ DrAll G xs ds
theorem Yd.same {K : PySem.W.Frag} {G G' : Hp} {y d : Addr} {rs : List Str} (e : Same G G') (h : Yd K G y rs d) : Yd K G' y rs d := by
  obtain ⟨r, h1, h2⟩ := h
  exact ⟨r, e _ _ h1, e.seq h2⟩
theorem Yard.same {K : PySem.W.Frag} {G G' : Hp} {y : Addr} {rs : List Str} {ds : List Dr} (e : Same G G') (h : Yard K G y rs ds) : Yard K G' y rs ds := by
  obtain ⟨d, xs, h1, h2, h3⟩ := h
  exact ⟨d, xs, h1.same e, e.seq h2, h3.same e⟩
theorem Yd.rooms {K : PySem.W.Frag} {G : Hp} {y d : Addr} {rs : List Str} (h : Yd K G y rs d) : ∃ r, DGet G y (.str "rooms") (some (.ref r)) ∧ SqL K G r (rs.map V.str) := by
  obtain ⟨r, h1, h2⟩ := h
  exact ⟨r, dk h1 vv0, h2⟩
theorem Yd.doors {K : PySem.W.Frag} {G : Hp} {y d : Addr} {rs : List Str} (h : Yd K G y rs d) : DGet G y (.str "doors") (some (.ref d)) := by
  obtain ⟨r, h1, h2⟩ := h
  exact dk h1 ((vv1 (by decide +kernel)).trans vv0)
theorem filt_yes {α : Type} {p : α → Bool} {l : List α} {x : α} (h : p x = true) : (l ++ [x]).filter p = l.filter p ++ [x] := by
  rw [List.filter_append, List.filter_cons_of_pos h, List.filter_nil]
theorem filt_no {α : Type} {p : α → Bool} {l : List α} {x : α} (h : p x = false) : (l ++ [x]).filter p = l.filter p := by
  rw [List.filter_append, List.filter_cons_of_neg (by rw [h]; exact Bool.false_ne_true), List.filter_nil, List.append_nil]
/-- what is beside x -/
def oth (x : Str) (d : Dr) : Str := if d.1 = x then d.2 else d.1
def hasD (x : Str) (d : Dr) : Bool := decide (d.1 = x) || decide (d.2 = x)
def nb (ds : List Dr) (x : Str) : List Str := (ds.filter (hasD x)).map (oth x)
theorem inV_strs (x : Str) : ∀ zs : List Str, inV (.str x) (zs.map V.str) = decide (x ∈ zs)
  | [] => by simp [inV]
  | z :: r => by
    have h := inV_strs x r
    unfold inV at h ⊢
    rw [List.map_cons, List.any_cons, h]
    show ((z == x) || decide (x ∈ r)) = decide (x ∈ z :: r)
    by_cases e : z = x
    · subst e; simp
    · have e' : ¬ x = z := fun q => e q.symm
      simp [e, e']
theorem flat_strs : ∀ zs : List Str, (zs.map V.str).all flatV = true
  | [] => rfl
  | z :: r => by rw [List.map_cons, List.all_cons, flat_strs r]; rfl
section
variable {K : PySem.W.Frag} {H : Hp} {Q : VK} {p : Addr} {xs : List V} {x : V} {i j : Int} {zs : List Str} {z : Str}
theorem r_inL (h : SqL K H p (zs.map V.str)) (q : Q (.bl (decide (z ∈ zs))) H) : rIn K false (.str z) (.ref p) H Q := ⟨p, _, rfl, .inl h, rfl, flat_strs _, by rw [inV_strs]; exact q⟩
theorem r_inT (h : SqT K H p (zs.map V.str)) (q : Q (.bl (decide (z ∈ zs))) H) : rIn K false (.str z) (.ref p) H Q := ⟨p, _, rfl, .inr h, rfl, flat_strs _, by rw [inV_strs]; exact q⟩
theorem c_sorted (h : SqL K H p (zs.map V.str)) (hl : zs.length < 64) (q : ∀ (ys : List Str) (p : Addr), ys.Perm zs → sortedS ys = true → H p = none → Q (.ref p) (upd H p (.lst (ys.map V.str)))) : rSortedS K [.ref p] H Q := ⟨p, zs, rfl, h, hl, q⟩
theorem frz_t {G : Hp} {t : Addr} {o : Obj} (h : G t = some (.frz o (.tup xs))) : SqT K G t xs := .inl (.inr ⟨o, h⟩)
end
/-! pairs of places -/
def PrAll (K : PySem.W.Frag) (G : Hp) (xs : List V) (ps : List (Nat × Nat)) : Prop :=
  xs.length = ps.length ∧ ∀ (i : Nat) (d : Nat × Nat), ps[i]? = some d → ∃ t, xs[i]? = some (.ref t) ∧ SqT K G t [.int (d.1 : Int), .int (d.2 : Int)]
theorem PrAll.nil {K : PySem.W.Frag} {G : Hp} : PrAll K G [] [] := ⟨rfl, fun i d h => by simp at h⟩
theorem PrAll.same {K : PySem.W.Frag} {G G' : Hp} {xs : List V} {ds : List (Nat × Nat)} (e : Same G G') (h : PrAll K G xs ds) : PrAll K G' xs ds :=
  ⟨h.1, fun i d hd => by obtain ⟨t, h1, h2⟩ := h.2 i d hd; exact ⟨t, h1, Same.sqt e h2⟩⟩
theorem PrAll.app {K : PySem.W.Frag} {G : Hp} {xs ys : List V} {ds es : List (Nat × Nat)} (h : PrAll K G xs ds) (h' : PrAll K G ys es) : PrAll K G (xs ++ ys) (ds ++ es) := by
  refine ⟨by rw [List.length_append, List.length_append, h.1, h'.1], fun i d hi => ?_⟩
  by_cases hl : i < ds.length
  · rw [List.getElem?_append_left hl] at hi
    obtain ⟨t, h1, h2⟩ := h.2 i d hi
    exact ⟨t, by rw [List.getElem?_append_left (by rw [h.1]; exact hl)]; exact h1, h2⟩
  · rw [List.getElem?_append_right (by omega)] at hi
    obtain ⟨t, h1, h2⟩ := h'.2 _ d hi
    exact ⟨t, by rw [List.getElem?_append_right (by rw [h.1]; omega), h.1]; exact h1, h2⟩
theorem PrAll.one {K : PySem.W.Frag} {G : Hp} {t : Addr} {a b : Nat} (h : SqT K G t [.int (a : Int), .int (b : Int)]) : PrAll K G [.ref t] [(a, b)] := by
  refine ⟨rfl, fun i d hi => ?_⟩
  cases i with
  | zero => cases hi; exact ⟨t, rfl, h⟩
  | succ i => simp at hi
theorem PrAll.snoc {K : PySem.W.Frag} {G : Hp} {xs : List V} {ds : List (Nat × Nat)} {t : Addr} {a b : Nat} (h : PrAll K G xs ds) (e : SqT K G t [.int (a : Int), .int (b : Int)]) : PrAll K G (xs ++ [.ref t]) (ds ++ [(a, b)]) := h.app (.one e)
theorem if_join {b : Bool} {te tu : TE} {σ : L2.St} {H : Hp} {Q : VK} (R : V → Prop) (h1 : b = true → ∀ Q' : VK, (∀ v, R v → Q' v H) → te σ H Q') (h2 : b = false → ∀ Q' : VK, (∀ v, R v → Q' v H) → tu σ H Q') (q : ∀ v, R v → Q v H) :
    if b = true then te σ H Q else tu σ H Q := by
  cases b with
  | true => exact h1 rfl Q q
  | false => exact h2 rfl Q q
theorem lcR1t {σ : L2.St} {G H : Hp} {Q : VK} {g : TG} {tt : TT} {te : TE} {vs : List Nat} {M : Addr → Prop} {j : Int} {n : Nat} (e : j.toNat = n) (hb : -(2 ^ 62) ≤ j ∧ j < 2 ^ 62) (hn : n < 2 ^ 20) (g0 : Same G H) (Pv : Nat → List V → Hp → Hp → Prop)
    (h0 : ∀ L, H L = none → Pv 0 [] G (upd H L (.lst [])))
    (hst : ∀ L (i : Nat) acc G' H' (Em : V → Hp → Prop) (Sk : Hp → Prop), i < n → H L = none → H' L = some (.lst acc) → G' L = none → acc.length ≤ i → Stp M G H G' H' → Pv i acc G' H' →
      (∀ y G2 H2, Stp M G H G2 H2 → H2 L = some (.lst acc) → G2 L = none → Pv (i + 1) (acc ++ [y]) G2 (upd H2 L (.lst (acc ++ [y]))) → Em y H2) →
      (∀ G2 H2, Stp M G H G2 H2 → H2 L = some (.lst acc) → G2 L = none → Pv (i + 1) acc G2 H2 → Sk H2) →
      g (.int (i : Int)) (wipe σ vs) H' fun σ2 H2 => wipe σ2 vs = wipe σ vs ∧ tt σ2 H2 fun b H3 => if b = true then te σ2 H3 Em else Sk H3)
    (hd : ∀ L acc G' H', H L = none → acc.length ≤ n → Stp M G H G' H' → H' L = some (.lst acc) → G' L = none → Pv n acc G' H' → Q (.ref L) H') :
    ∃ j' : Int, [V.int j] = [.int j'] ∧ -(2 ^ 62) ≤ j' ∧ j' < 2 ^ 62 ∧ LcJ g tt te vs σ Q (Itr 0 j'.toNat) H := by
  subst e
  refine ⟨j, rfl, hb.1, hb.2, ?_⟩
  refine lc_by (M := M) (Y := fun i x => x = .int (0 + (i : Int))) walk_range hn g0 Pv h0 (fun _ _ _ _ _ _ _ => trivial) (fun L i x acc G' H' Em Sk h1 h2 h3 h4 h5 h6 h7 h8 h9 h10 => ?_) hd
  subst h8
  rw [Int.zero_add]
  exact hst L i acc G' H' Em Sk h1 h2 h3 h4 h5 h6 h7 h9 h10
def PrIn (m : Nat) (ps : List (Nat × Nat)) : Prop := ∀ q ∈ ps, q.1 < m ∧ q.2 < m
/-- what is made of pairs so far -/
def PrP (K : PySem.W.Frag) (m i : Nat) (acc : List V) (G : Hp) : Prop := ∃ ps, PrAll K G acc ps ∧ ps.length ≤ i ∧ PrIn m ps
theorem PrP.nil {K : PySem.W.Frag} {m i : Nat} {G : Hp} : PrP K m i [] G := ⟨[], .nil, Nat.zero_le _, fun _ h => by cases h⟩
theorem pair_em {K : PySem.W.Frag} {M : Addr → Prop} {G H G' H' : Hp} {acc : List V} {L t : Addr} {a b m i : Nat} {va vb : Int} {Em : V → Hp → Prop} (ea : va = (a : Int)) (eb : vb = (b : Int)) (st : Stp M G H G' H') (hL' : H' L = some (.lst acc)) (gL : G' L = none) (pv : PrP K m i acc G') (nt : H' t = none)
    (hEm : ∀ y G2 H2, Stp M G H G2 H2 → H2 L = some (.lst acc) → G2 L = none → PrP K m (i + 1) (acc ++ [y]) G2 → Em y H2) (ha : a < m) (hb : b < m) : Em (.ref t) (upd H' t (.tup [.int va, .int vb])) := by
  subst ea eb
  obtain ⟨ps, hps, hpl, hpi⟩ := pv
  have sN : Stp M G' H' (upd G' t (.tup [.int (a : Int), .int (b : Int)])) (upd H' t (.tup [.int (a : Int), .int (b : Int)])) := Stp.new st.gh nt
  have nLt : L ≠ t := ne_of_none hL' nt
  refine hEm _ _ _ (st.trans sN) (by rw [upd_ne nLt]; exact hL') (by rw [upd_ne nLt]; exact gL) ⟨ps ++ [(a, b)], (hps.same sN.gg).snoc (tof upd_same), by rw [List.length_append]; exact Nat.succ_le_succ hpl, fun e he => ?_⟩
  rcases List.mem_append.mp he with he | he
  · exact hpi e he
  · rw [List.mem_singleton.mp he]
    exact ⟨ha, hb⟩
theorem pair_emP {K : PySem.W.Frag} {M : Addr → Prop} {G H G' H' : Hp} {acc : List V} {L t p : Addr} {a b m i c : Nat} {va vb : Int} {Em : V → Hp → Prop} (ea : va = (a : Int)) (eb : vb = (b : Int)) (st : Stp M G H G' H') (hL' : H' L = some (.lst acc)) (gL : G' L = none) (pv : PrP K m i acc G') (nt : H' t = none)
    (hEm : ∀ y G2 H2, Stp M G H G2 H2 → H2 L = some (.lst acc) → G2 L = none → PrP K m (i + 1) (acc ++ [y]) G2 ∧ Pen K G2 p c (upd H2 L (.lst (acc ++ [y]))) → Em y H2) (ha : a < m) (hb : b < m) (hp : Pen K G' p c H') : Em (.ref t) (upd H' t (.tup [.int va, .int vb])) := by
  subst ea eb
  obtain ⟨ps, hps, hpl, hpi⟩ := pv
  have sN : Stp M G' H' (upd G' t (.tup [.int (a : Int), .int (b : Int)])) (upd H' t (.tup [.int (a : Int), .int (b : Int)])) := Stp.new st.gh nt
  have nLt : L ≠ t := ne_of_none hL' nt
  refine hEm _ _ _ (st.trans sN) (by rw [upd_ne nLt]; exact hL') (by rw [upd_ne nLt]; exact gL) ⟨⟨ps ++ [(a, b)], (hps.same sN.gg).snoc (tof upd_same), by rw [List.length_append]; exact Nat.succ_le_succ hpl, fun e he => ?_⟩, ?_⟩
  · rcases List.mem_append.mp he with he | he
    · exact hpi e he
    · rw [List.mem_singleton.mp he]
      exact ⟨ha, hb⟩
  · exact (hp.stp (Stp.new (M := M0) st.gh nt) (fun z => z)).upd (hp.ne hL')
theorem PrIn.app {m : Nat} {ps qs : List (Nat × Nat)} (h : PrIn m ps) (h' : PrIn m qs) : PrIn m (ps ++ qs) := fun e he => by
  rcases List.mem_append.mp he with he | he
  · exact h e he
  · exact h' e he
theorem r_cat {H : Hp} {Q : VK} {l b : Addr} {xs zs : List V} (h : H l = some (.lst xs)) (h' : H b = some (.lst zs)) (hl : xs.length + zs.length ≤ sizeLine) (q : ∀ p, H p = none → Q (.ref p) (upd H p (.lst (xs ++ zs)))) : rCat (.ref l) (.ref b) H Q := ⟨l, b, xs, zs, rfl, rfl, h, h', hl, q⟩
theorem r_extend {H : Hp} {Q : VK} {l b : Addr} {xs zs : List V} (h : H l = some (.lst xs)) (h' : H b = some (.lst zs)) (hl : xs.length + zs.length ≤ sizeLine) (q : Q .non (upd H l (.lst (xs ++ zs)))) : rExtend (.ref l) [.ref b] H Q := ⟨l, b, xs, zs, rfl, rfl, h, h', hl, q⟩
/-! tuples made of tuples, told as known -/
section
variable {K : PySem.W.Frag} {G H : Hp} {Q : VK} {a b : Addr} {xs ys : List V} {lo hi : Option Int}
def RevQ (K : PySem.W.Frag) (H1 : Hp) (Q : VK) (x : V) : Prop := ∃ a xs, x = .ref a ∧ SqT K H1 a xs ∧ ∀ p, H1 p = none → Q (.ref p) (upd H1 p (.tup xs.reverse))
theorem r_revQ {te : TE} {σ : L2.St} (h : te σ H fun x H1 => RevQ K H1 Q x) : tRevT K te σ H Q := h
end
/-! slices of texts in a row -/
/-! ### shrinking -/
def stepS (kept : List Str) (r : Str) : List Str := if kept.length > 1 ∧ kept[kept.length - 2]? = some r then kept.dropLast else kept ++ [r]
def shr (w : List Str) : List Str := w.foldl stepS []
theorem shr_app (u v : List Str) : shr (u ++ v) = v.foldl stepS (shr u) := by unfold shr; rw [List.foldl_append]
/-- nothing goes straight back -/
def Rdc (k : List Str) : Prop := ∀ (i : Nat) (a b : Str), k[i]? = some a → k[i + 2]? = some b → a ≠ b
theorem get_dl {k : List Str} {i : Nat} {a : Str} (h : k.dropLast[i]? = some a) : k[i]? = some a ∧ i + 1 < k.length := by
  rw [List.getElem?_dropLast] at h
  split at h
  · rename_i c
    exact ⟨h, by omega⟩
  · cases h
theorem Rdc.step {k : List Str} {r : Str} (h : Rdc k) : Rdc (stepS k r) := by
  unfold stepS
  split
  · intro i a b ha hb
    exact h i a b (get_dl ha).1 (get_dl hb).1
  · rename_i c
    intro i a b ha hb
    by_cases hi : i + 2 < k.length
    · rw [List.getElem?_append_left (by omega)] at ha
      rw [List.getElem?_append_left hi] at hb
      exact h i a b ha hb
    · have hl : i + 2 < (k ++ [r]).length := by
        rcases Nat.lt_or_ge (i + 2) (k ++ [r]).length with z | z
        · exact z
        · rw [List.getElem?_eq_none z] at hb; cases hb
      rw [List.length_append] at hl
      have e : i + 2 = k.length := by simp at hl; omega
      rw [List.getElem?_append_left (by omega)] at ha
      rw [List.getElem?_append_right (by omega), e, Nat.sub_self] at hb
      intro z
      refine c ⟨by omega, ?_⟩
      rw [show k.length - 2 = i by omega, ha, z, ← Option.some.inj hb]
theorem Rdc.fold {w : List Str} : ∀ {k : List Str}, Rdc k → Rdc (w.foldl stepS k) := by
  induction w with
  | nil => intro k h; exact h
  | cons x w ih => intro k h; exact ih h.step
theorem Rdc.nil : Rdc [] := fun i a b h => by simp at h
theorem shr_rdc (w : List Str) : Rdc (shr w) := Rdc.nil.fold
theorem stepS_last (k : List Str) (r : Str) : (stepS k r)[(stepS k r).length - 1]? = some r := by
  unfold stepS
  split
  · rename_i c
    rw [List.length_dropLast, List.getElem?_dropLast, if_pos (by omega), show k.length - 1 - 1 = k.length - 2 by omega]
    exact c.2
  · rw [List.length_append]
    show (k ++ [r])[k.length + 1 - 1]? = some r
    rw [Nat.add_sub_cancel, List.getElem?_append_right (Nat.le_refl _), Nat.sub_self]
    rfl
theorem dl_last {k : List Str} {x : Str} (h : k[k.length - 1]? = some x) : k.dropLast ++ [x] = k := by
  have hn : k ≠ [] := fun e => by subst e; simp at h
  have hp : 0 < k.length := List.length_pos_iff.mpr hn
  rw [List.getElem?_eq_getElem (by omega)] at h
  have e : k.getLast hn = x := by rw [List.getLast_eq_getElem]; exact Option.some.inj h
  rw [← e]
  exact List.dropLast_concat_getLast hn
/-- there and straight back -/
theorem step_back {k : List Str} {x y : Str} (hk : Rdc k) (hx : k[k.length - 1]? = some x) : stepS (stepS k y) x = k := by
  have hn : 0 < k.length := by
    rcases Nat.lt_or_ge 0 k.length with z | z
    · exact z
    · rw [List.getElem?_eq_none (by omega)] at hx; cases hx
  by_cases c : k.length > 1 ∧ k[k.length - 2]? = some y
  · have e1 : stepS k y = k.dropLast := by unfold stepS; rw [if_pos c]
    rw [e1]
    unfold stepS
    rw [if_neg]
    · exact dl_last hx
    · intro ⟨c1, c2⟩
      rw [List.length_dropLast] at c1 c2
      have h2 := (get_dl c2).1
      have h3 : k[(k.length - 1 - 2) + 2]? = some x := by rw [show k.length - 1 - 2 + 2 = k.length - 1 by omega]; exact hx
      exact hk _ _ _ h2 h3 rfl
  · have e1 : stepS k y = k ++ [y] := by unfold stepS; rw [if_neg c]
    rw [e1]
    unfold stepS
    rw [if_pos, List.dropLast_concat]
    refine ⟨by rw [List.length_append]; simp; omega, ?_⟩
    rw [List.length_append]
    show (k ++ [y])[k.length + 1 - 2]? = some x
    rw [show k.length + 1 - 2 = k.length - 1 by omega, List.getElem?_append_left (by omega)]
    exact hx
/-- what goes straight back may be taken out -/
theorem shr_red (u v : List Str) (x y : Str) : shr (u ++ x :: y :: x :: v) = shr (u ++ x :: v) := by
  rw [shr_app, shr_app, List.foldl_cons, List.foldl_cons, List.foldl_cons, List.foldl_cons, step_back (shr_rdc u).step (stepS_last _ _)]
theorem snoc_ind {α : Type} {R : List α → Prop} (h0 : R []) (h1 : ∀ l z, R l → R (l ++ [z])) (l : List α) : R l := by
  have all : ∀ l : List α, R l.reverse := by
    intro l
    induction l with
    | nil => exact h0
    | cons z l ih => rw [List.reverse_cons]; exact h1 _ z ih
  have h := all l.reverse
  rwa [List.reverse_reverse] at h
theorem while_k {c : TT} {tb : TS} {D : Ends} {σ : L2.St} {H : Hp} (W : Nat → L2.St → Hp → Prop) (m : Nat) (h0 : W m σ H)
    (hs : ∀ m σ H, W m σ H → ∀ Ct : Bool → Hp → Prop, (∀ H1, tb { D with nx := fun σ' H' => ∃ m', m' < m ∧ W m' σ' H', ct := fun σ' H' => ∃ m', m' < m ∧ W m' σ' H', bk := D.nx } σ H1 → Ct true H1) → (∀ H1, D.nx σ H1 → Ct false H1) → c σ H Ct) : tWhile c tb D σ H :=
  ⟨W, ⟨m, h0⟩, fun m σ H w => hs m σ H w _ (fun H1 h => by rw [if_pos rfl]; exact ⟨_, fun σ' H' q => q, h⟩) (fun H1 h => by rw [if_neg Bool.false_ne_true]; exact h)⟩
theorem iteN1 {A B : Prop} (h : B) : if (!true) = true then A else B := h
theorem iteN2 {A B : Prop} (h : A) : if (!false) = true then A else B := h
/-! own errors without fields: raised with nothing, caught by name, asked what they are -/
/-- what is asked of an own error's class at C -/
structure ErrC (K : PySem.W.Frag) (mg : Str → Option Value) (x : Str) (C : Addr) : Prop where
  g : mg x = some (.ref C)
  ex : PySem.W.excIn K C [.type "ValueError", .type "Exception", .type "BaseException", .type "object"] "ValueError.__new__" = true
  kp : PySem.W.keepIn K (.ref C) = true
  sb : PySem.W.subIn K (.ref C) (.type "BaseException") = some true
  ty : PySem.W.typeIn K (.ref C) = some (.type "type")
  ga : PySem.W.findIn K (.ref C) "__getattribute__" = some (some (.builtin "BaseException.__getattribute__"))
  gt : PySem.W.findIn K (.ref C) "__getattr__" = some none
  hd : PySem.W.hasDictIn K C = true
  cl : PySem.W.findIn K (.ref C) "__class__" = some (some (.builtin "object.__class__"))
  gs : PySem.W.specialIn K (.builtin "object.__class__") "__get__" = some (some (.builtin "getset_descriptor.__get__"))
  tk : PySem.W.takesIn K (.builtin "object.__class__") = some true
  mr : PySem.W.mroIn K C (.type "object") = some true
theorem ErrC.exc {K : PySem.W.Frag} {mg : Str → Option Value} {x : Str} {C : Addr} (h : ErrC K mg x C) : ExcC K C := ⟨h.ga, h.gt, h.sb, h.hd, h.cl, h.gs, h.tk, h.mr⟩
section
variable {X : Cx} {C : Addr} {x : Str} {p pos : Pos}
variable {CX : CXT} {k k' : Nat} {ps : List Str} {sp : Sp} {E : L2.St → XK} {e : Expr} {es : List Expr} {t : TA}
/-- isinstance(e, (A, B)), e the error that the suite holds -/
def rIsET (K : PySem.W.Frag) (D a : Addr) : List V → Hp → VK → Prop := fun xs H Q => ∃ (tp : Addr) (cs : List V) (us : List Value) (b : Bool), xs = [.ref a, .ref tp] ∧ H tp = some (.tup cs) ∧ Paired ClsV cs us ∧ PySem.W.kitAny K (.ref D) us = some b ∧ Q (.bl b) H
end
section
variable {K : PySem.W.Frag} {D a tp : Addr} {H : Hp} {Q : VK} {c : V} {cv : Value} {b : Bool} {cs : List V} {us : List Value}
end
/-! ### walks one behind another -/
/-- what goes straight back taken out, again and again -/
inductive Rs : List Str → List Str → Prop
  | refl (w : List Str) : Rs w w
  | step {u v w : List Str} {x y : Str} : Rs (u ++ x :: v) w → Rs (u ++ x :: y :: x :: v) w
theorem Rs.shr {a b : List Str} (h : Rs a b) : TT.shr a = TT.shr b := by
  induction h with
  | refl w => rfl
  | step _ ih => rw [shr_red, ih]
theorem Rs.trans {a b c : List Str} (h : Rs a b) (h' : Rs b c) : Rs a c := by
  induction h with
  | refl w => exact h'
  | step _ ih => exact .step (ih h')
theorem Rs.app {a b : List Str} (u v : List Str) (h : Rs a b) : Rs (u ++ a ++ v) (u ++ b ++ v) := by
  induction h with
  | refl w => exact .refl _
  | @step u' v' w x y _ ih =>
    have e1 : u ++ (u' ++ x :: y :: x :: v') ++ v = (u ++ u') ++ x :: y :: x :: (v' ++ v) := by simp
    have e2 : u ++ (u' ++ x :: v') ++ v = (u ++ u') ++ x :: (v' ++ v) := by simp
    rw [e1]
    rw [e2] at ih
    exact .step ih
theorem Rs.one (u v : List Str) (x y : Str) : Rs (u ++ x :: y :: x :: v) (u ++ x :: v) := .step (.refl _)
/-- last, first -/
def lst (w : List Str) : Option Str := w[w.length - 1]?
def fst0 (w : List Str) : Option Str := w[0]?
/-- one behind the other -/
def beh (a b : List Str) : List Str := shr (a ++ b.tail)
/-! ### t * k, k from 1; in a dict -/
def rRepA (K : PySem.W.Frag) : R2 := fun x y H Q => ∃ l k xs, x = .ref l ∧ y = .int k ∧ SqT K H l xs ∧ xs ≠ [] ∧ 1 ≤ k ∧ k ≤ 1000 ∧ xs.length ≤ 1000 ∧ (k = 1 → Q (.ref l) H) ∧ (2 ≤ k → ∀ p, H p = none → Q (.ref p) (upd H p (.tup (List.replicate k.toNat xs).flatten)))
section
variable {X : Cx}
end
section
variable {K : PySem.W.Frag} {G H : Hp} {Q : VK} {a : Addr} {xs : List V} {k : Int} {m : Nat}
end
/-! in a dict of texts -/
section
variable {K : PySem.W.Frag} {H : Hp} {Q : VK} {σ : L2.St} {ty td : TE} {p : Addr} {kvs : List (Key × V)} {x : Str}
end
/-! ### several suites, each with a name for the error -/
/-- the way on behind a suite: the name is gone -/
def offE (i : Nat) (D : Ends) : Ends := { nx := fun σ' H' => D.nx (σ'.set i none) H', rt := D.rt, bk := fun σ' H' => D.bk (σ'.set i none) H', ct := fun σ' H' => D.ct (σ'.set i none) H' }
abbrev Cl := Value × Nat × (Addr → Value → Option Addr → TS)
def wMore (K : PySem.W.Frag) (Wout : WX) (D : Ends) : List Cl → WX
  | [] => Wout
  | q :: r => fun cls d σ H => ∃ b, PySem.W.exmOne K cls q.1 = some b ∧ (b = true → ∀ a, H a = none → q.2.2 a cls d (offE q.2.1 D) (σ.set q.2.1 (some (.ref a))) H) ∧ (b = false → wMore K Wout D r cls d σ H)
inductive HsOk (X : Cx) : List ExceptHandler → List Cl → Prop
  | nil : HsOk X [] []
  | cons {x n : Str} {c : Value} {i : Nat} {ts : Addr → Value → Option Addr → TS} {b₀ : Stmt} {suite : List Stmt} {np pos' : Pos} {hds : List ExceptHandler} {l : List Cl} (hi : X.N[i]? = some n) (hln : X.env.kindOf n = some .local) (hc : Names X x c)
      (hsu : ∀ (a : Addr) (oe : Obj) (cls : Value) (d : Option Addr) (pn : List (Addr × Obj)), Zc cls d oe → (∃ vs, oe.data = .fields vs) → PSs (X.suite a ((a, oe) :: pn)) (b₀ :: suite) (ts a cls d)) (r : HsOk X hds l) :
      HsOk X (.ExceptHandler (some (.Name x np)) (some n) (b₀ :: suite) pos' :: hds) ((c, i, ts) :: l)
section
variable {X : Cx} {body : List Stmt} {h₀ : ExceptHandler} {hds : List ExceptHandler} {l : List Cl} {pos : Pos} {tb : WX → TS} {Wout : WX}
end
section
variable {K : PySem.W.Frag} {Wout : WX} {D : Ends} {q : Cl} {r : List Cl} {cls : Value} {d : Option Addr} {σ : L2.St} {H : Hp} {A B : Addr}
end
/-! ### defs that run where no repr is under way: repr(x) of data -/
/-- a def by its promise, called where no guard is set -/
structure FnG (P : Program) (w : World) (K : PySem.W.Frag) (mg : Str → Option Value) (base : Heap) (CX : CXT) (k : Nat) (f : Addr) (fd : FuncData) (ps : List Str) (sp : Sp) : Prop where
  len : ∀ vs H Q E, sp vs H Q E → vs.length = ps.length
  run : ∀ (A : Around) (outer : List Env) (s : Shared) (H : Hp) (args : Args) (us : List Value) (vs : List V) (Q : VK) (E : XK), A.guards = some [] → Room k A → Env0 P w K mg base A outer s H → BindsTo s fd args (ps.zip us) → Vals vs us → sp vs H Q E →
    codeAny (model P w) A (.call (.ref f) args) (CR CX outer P w H s Q E) s
theorem guards_caller : callerA.guards = some [] := rfl
section
variable {P : Program} {w : World} {K : PySem.W.Frag} {mg : Str → Option Value} {base : Heap}
theorem FnG.of {CX : CXT} {k : Nat} {f : Addr} {fd : FuncData} {ps : List Str} {sp : Sp} (F : FnOk P w K mg base CX k f fd ps sp) : FnG P w K mg base CX k f fd ps sp :=
  ⟨F.len, fun A outer s H args us vs Q E _ hr he hb hv hs => F.run A outer s H args us vs Q E hr he hb hv hs⟩
/-- by its body -/
theorem fnG_of {CX : CXT} {k : Nat} {f : Addr} {name qual : Str} {params : Arguments} {body : List Stmt} {scope : Scope} {dV kV doc pm cdv ct oc : Value} {an od : Option Addr}
    {osl : Array (Option Value)} {N ps : List Str} {sp : Sp} (lk : K.lookup f = some ⟨oc, od, .func (PySem.W.fnOf name qual params body scope dV kV doc pm an cdv ct), osl⟩) (hcd : PySem.W.codeIn K cdv qual = true) (S : FnScope N ps scope)
    (len : ∀ vs H Q E, sp vs H Q E → vs.length = ps.length)
    (hbody : ∀ (A : Around) (outer : List Env) (s : Shared) (H : Hp) (vs : List V) (Q : VK) (E : XK), A.guards = some [] → Room k (A.deeper (envOfC qual scope s.heap.objs.size f cdv)) → sp vs H Q E →
      ∃ t, PSs (cxOf CX P w K mg base N qual scope f cdv A outer s H E) body t ∧ t { nx := fun _ H' => Q .non H', rt := Q } (start N vs) H) :
    FnG P w K mg base CX (k + 1) f (PySem.W.fnOf name qual params body scope dV kV doc pm an cdv ct) ps sp := by
  refine ⟨len, fun A outer s H args us vs Q E hg hr e0 hb r hsp => ?_⟩
  have keep : ∀ {b : Addr} {o : Obj}, base.get? b = some o → s.heap.get? b = some o := fun {b o} e => (e0.bs b o e).1
  have kinds : ∀ y ∈ ps.zip us, scope.names.lookup y.1 = some .local ∨ (scope.names.lookup y.1 = some .cell ∧ ((cellsFrom (s.heap.objs.size + 1) scope.names []).lookup y.1).isSome = true) := by
    rintro ⟨n, v⟩ hy
    exact (S.par n (List.of_mem_zip hy).1).imp id fun q => ⟨q, PySem.W.cellsFrom_some _ _ _ (.inl q)⟩
  have KX : K.In s.heap := e0.mod.kin.keeps fun b o e => keep e
  refine codeAny_call_function hr.depth (KX _ _ lk) rfl S.co S.gen rfl (PySem.W.codeRec_of KX hcd) (hb _ _ _ _ (wpAny_newFunctionEnv_cells S.kind kinds fun env he s1 x => ?_))
  subst he
  refine ⟨(e0.mod.nolimit.keeps fun b o e => keep e).keeps x.toInCall.keep, codeAny_func ?_⟩
  obtain ⟨t, ht, hq⟩ := hbody A outer s H vs Q E hg (hr.deeper _) hsp
  refine wpAny_mono (ht.run [] s1 (start N vs) H _ (inv_start S hr.hd e0 (len _ _ _ _ hsp) r x) hq) (fun fl s' hs => ?_) fun e s' hs => hs
  cases fl with
  | ret u => obtain ⟨v, σ', H', J, rv, q⟩ := hs; exact ⟨v, H', J.os, J.bare, J.base, J.hok, rv, q⟩
  | next => obtain ⟨σ', H', J, q⟩ := hs; exact ⟨V.non, H', J.os, J.bare, J.base, J.hok, rfl, q⟩
  | brk => obtain ⟨_, _, _, q⟩ := hs; exact q.elim
  | cont => obtain ⟨_, _, _, q⟩ := hs; exact q.elim
theorem Fun.okG {x qual : Str} {st : Stmt} {f : Addr} {fd : FuncData} {N ps : List Str} {k : Nat} {sp : Sp} (F : Fun K x qual st f fd) (S : FnScope N ps (defScope st)) (len : ∀ vs H Q E, sp vs H Q E → vs.length = ps.length)
    (hbody : ∀ (cdv : Value) (A : Around) (outer : List Env) (s : Shared) (H : Hp) (vs : List V) (Q : VK) (E : XK), A.guards = some [] → Room k (A.deeper (envOfC qual (defScope st) s.heap.objs.size f cdv)) → sp vs H Q E →
      ∃ t, PSs (cxOf CX0 P w K mg base N qual (defScope st) f cdv A outer s H E).nox (defBody st) t ∧ t { nx := fun _ H' => Q .non H', rt := Q } (start N vs) H) : FnG P w K mg base CX0 (k + 1) f fd ps sp := by
  obtain ⟨oc, od, kV, doc, pm, an, cdv, ct, osl, rfl, lk, hcd⟩ := F.ex
  refine fnG_of lk hcd S len fun A outer s H vs Q E hg hr hsp => ?_
  obtain ⟨t, h, q⟩ := hbody cdv A outer s H vs Q E hg hr hsp
  exact ⟨t, h.nox, q⟩
end
/-! ### calls -/
section
variable {X : Cx} {CX : CXT} {k : Nat} {f C : Addr} {fd : FuncData} {ps : List Str} {sp : Sp} {dvs : List V} {ds : List Value} {E : XK} {x m : Str} {p pos apos : Pos} {e o : Expr} {es : List Expr} {ta : TE} {t : TA}
end
/-! ### repr of data -/
def kRepr (K : PySem.W.Frag) : List V → Hp → VK → Prop := fun xs H Q => ∃ (a : Addr) (d : PyData), xs = [.ref a] ∧ Dp K H (.ref a) d ∧ d.showable = true ∧ d.hasDict = false ∧ d.depth ≤ 40 ∧ d.shown.length ≤ sizeLine ∧ Q (.str d.shown) H
/-! ### a law whose own def wants that no repr is under way -/
/-- the script alone, tracked as it stands -/
def onlyH (a : Addr) (x : HO) : Hp := fun b => if b = a then some x else none
theorem onlyH_self {a : Addr} {x : HO} : onlyH a x a = some x := if_pos rfl
theorem onlyH_some {a b : Addr} {x u : HO} (h : onlyH a x b = some u) : b = a ∧ u = x := by
  unfold onlyH at h
  split at h
  · exact ⟨by assumption, (Option.some.inj h).symm⟩
  · cases h
theorem callG {P : Program} {w : World} {K : PySem.W.Frag} {mg mb : Str → Option Value} {CX : CXT} {k : Nat} {fa a : Addr} {fd : FuncData} {x : Str} {sp : Sp} {s₁ : Shared} {vs : List Value} {H : Hp}
    (KX : K.In s₁.heap) (hns : s₁.heap.Ns mainGlobals mg) (hb : s₁.heap.Ns builtinsNs mb) (hbb : ∀ x : Str, x ≠ "__name__" → mb x = bootBuiltins x) (hlim : s₁.heap.NoLimit) (hg : s₁.gens = #[])
    (ha : s₁.heap.get? a = some { cls := .type "list", data := .seq vs.toArray }) (hr : Room k callerA)
    (F : ∀ base : Heap, K.In base → base.Ns mainGlobals mg → FnG P w K mg base CX k fa fd [x] sp) (hbind : ∀ (s : Shared) (u : Value), BindsTo s fd ⟨[u], []⟩ [(x, u)])
    (hsp : sp [.ref a] H (fun v _ => v = .bl true) fun _ _ _ => False) (hCX : ∀ e s', CX [] H s₁ (fun _ _ _ => False) e s' → False)
    (hok : HOk P w H s₁.heap) (hA : ∀ b u, H b = some u → b = a ∧ K.lookup a = none ∧ ∃ ob xs, u = .frz ob (.lst xs)) :
    codeAny (model P w) callerA (.call (.ref fa) ⟨[.ref a], []⟩) (fun r s' => r = .ok (.ret (.bool true)) ∧ OldK s₁.heap s'.heap ∧ s'.os = s₁.os ∧ AllBare s'.gens) s₁ := by
  have seen : ∀ {b : Addr} {o : Obj}, s₁.heap.get? b = some o → b ≠ a → (hidT s₁.heap H).get? b = some o := fun {b o} e n => hidT_get e (by
    cases q : H b with
    | none => rfl
    | some u => exact absurd (hA b u q).1 n)
  have nsK : ∀ {b : Addr} {m : Str → Option Value}, s₁.heap.Ns b m → (hidT s₁.heap H).Ns b m := by
    rintro b m ⟨o, es, ep, e, d, r⟩
    refine ⟨o, es, ep, seen e fun z => ?_, d, r⟩
    subst z
    rw [ha] at e
    cases e
    cases d
  have hKb : K.In (hidT s₁.heap H) := fun b o e => hidT_get (KX b o e) (by
    cases q : H b with
    | none => rfl
    | some u =>
      obtain ⟨z, n, _⟩ := hA b u q
      rw [z, n] at e
      cases e)
  have hM : Mod K mg (hidT s₁.heap H) := ⟨hKb, nsK hns, ⟨mb, nsK hb, hbb⟩, by
    obtain ⟨mc, h1, h2⟩ := hlim
    exact ⟨mc, nsK h1, h2⟩⟩
  have e0 : Env0 P w K mg (hidT s₁.heap H) callerA [] s₁ H := ⟨rfl, hM, fun b o e => of_hidT e, Nat.le_of_eq (hidT_size _ _), trivial, fun b hb => absurd (show b ∈ ([] : List Addr) from hb) (by simp), hok, .of_eq hg⟩
  refine codeAny_mono ((F _ hKb (nsK hns)).run callerA [] s₁ H ⟨[.ref a], []⟩ [.ref a] [.ref a] _ _ guards_caller hr e0 (hbind s₁ (.ref a)) (.cons rfl .nil) hsp) fun r s' h => ?_
  match r, h with
  | .error e, h => exact (hCX e s' h).elim
  | .ok (.ret u), h =>
    obtain ⟨v, H', os, bare, un, hok', rv, q⟩ := h
    cases (show v = V.bl true from q)
    cases (show u = Value.bool true from rv)
    refine ⟨rfl, OldK.of_keep fun b o e => ?_, os, bare⟩
    cases q : H b with
    | none => exact un.keep b o e q (by intro z; exact absurd (show b ∈ ([] : List Addr) from z) (by simp)) (by simp)
    | some u =>
      obtain ⟨_, _, ob, xs, z⟩ := hA b u q
      subst z
      have k1 := (hok b _ q).1
      have k2 := (hok' b _ (un.frzs b ob _ q)).1
      rw [e] at k1
      cases k1
      exact k2
theorem law_callG {P : Program} {w : World} {K : PySem.W.Frag} {mg mb : Str → Option Value} {CX : CXT} {k : Nat} {fa a : Addr} {fd : FuncData} {x : Str} {sp : Sp} {s₁ : Shared} {vs : List Value} {ns : List Int}
    (KX : K.In s₁.heap) (hns : s₁.heap.Ns mainGlobals mg) (hb : s₁.heap.Ns builtinsNs mb) (hbb : ∀ x : Str, x ≠ "__name__" → mb x = bootBuiltins x) (hlim : s₁.heap.NoLimit) (hg : s₁.gens = #[])
    (ha : s₁.heap.get? a = some { cls := .type "list", data := .seq vs.toArray }) (hi : IntsAre vs ns) (hl : ns.length ≤ sizeLine) (hr : Room k callerA)
    (F : ∀ base : Heap, K.In base → base.Ns mainGlobals mg → FnG P w K mg base CX k fa fd [x] sp) (hbind : ∀ (s : Shared) (u : Value), BindsTo s fd ⟨[u], []⟩ [(x, u)])
    (hsp : ∀ H : Hp, Only H → SqL K H a (ns.map V.int) → sp [.ref a] H (fun v _ => v = .bl true) fun _ _ _ => False)
    (hCX : ∀ H e s', CX [] H s₁ (fun _ _ _ => False) e s' → False) :
    codeAny (model P w) callerA (.call (.ref fa) ⟨[.ref a], []⟩) (fun r s' => r = .ok (.ret (.bool true)) ∧ OldK s₁.heap s'.heap ∧ s'.os = s₁.os ∧ AllBare s'.gens) s₁ := by
  have rv := vals_ints hi
  cases hk : K.lookup a with
  | some o =>
    have e := KX a o hk
    rw [ha] at e
    cases e
    exact callG KX hns hb hbb hlim hg ha hr F hbind (hsp (fun _ => none) (fun _ => .inl rfl) (.inr ⟨_, vs.toArray, _, hk, rfl, rfl, rfl, by rw [List.size_toArray, hi.length]; exact hl, by simpa using rv⟩)) (hCX _)
      (fun b u z => by cases z) (fun b u z => by cases z)
  | none =>
    refine callG (H := onlyH a (.frz { cls := .type "list", data := .seq vs.toArray } (.lst (ns.map V.int)))) KX hns hb hbb hlim hg ha hr F hbind (hsp _ (fun b => ?_) (.inl (.inr ⟨_, onlyH_self⟩))) (hCX _) (fun b u z => ?_) (fun b u z => ?_)
    · unfold onlyH
      split
      · exact .inr ⟨_, _, rfl⟩
      · exact .inl rfl
    · obtain ⟨rfl, rfl⟩ := onlyH_some z
      exact ⟨ha, by rw [List.length_map]; exact hl, vs, _, rv, ha⟩
    · obtain ⟨rfl, rfl⟩ := onlyH_some z
      exact ⟨rfl, hk, _, _, rfl⟩
theorem walk_ofG {l : PySem.W.OpenLaw} {n k : Nat} {q : Program} {loose : List Str} {XP : (Str → Option Value) → Heap → Prop} {YP : World → Heap → Prop} {d : DefRec} {K : Params → PySem.W.Frag} {CX : World → CXT} {sp : World → Sp} {x : Str}
    (hn : l.most = some n) (hn2 : n ≤ sizeLine) (hdf : d.params.defaults = []) (hr : Room k callerA)
    (hY : ∀ (w : World) (h : Heap), YP w h → (K w.params).In h)
    (F : ∀ (w : World) (mg : Str → Option Value) (fa : Addr) (h : Heap), (K w.params).In h → h.Ns mainGlobals mg → mg d.name = some (.ref fa) →
      ∃ fd : FuncData, (∀ (s : Shared) (u : Value), BindsTo s fd ⟨[u], []⟩ [(x, u)]) ∧
        ∀ base : Heap, (K w.params).In base → base.Ns mainGlobals mg → FnG l.prog w (K w.params) mg base (CX w) k fa fd [x] (sp w))
    (hsp : ∀ (w : World) (H : Hp) (a : Addr) (ns : List Int), ns.length ≤ n → Only H → SqL (K w.params) H a (ns.map V.int) → sp w [.ref a] H (fun v _ => v = .bl true) fun _ _ _ => False)
    (hCX : ∀ (w : World) (H : Hp) (s : Shared) (e : Value) (s' : Shared), CX w [] H s (fun _ _ _ => False) e s' → False) :
    PySem.W.WalkO q loose XP YP l.row.toRowW d [] (fun f vs => PySem.call f vs) := by
  refine Att.attach_call hn hdf fun w s₀ s₁ mg mb fa o pm cd doc a vs ns G Y ho hd hcd hmg hobj hints hlen hg => ?_
  obtain ⟨fd, hb, hF⟩ := F w mg fa _ (hY w _ Y) G.T.g hmg
  exact law_callG (hY w _ Y) G.T.g G.T.b G.T.builtins G.T.nolimit hg hobj hints (Nat.le_trans hlen hn2) hr hF hb (fun H hO hS => hsp w H a ns hlen hO hS) fun H e s' => hCX w H s₁ e s'
/-! ### stems and rings; a couple of walks as data -/
/-- no room twice side by side, nothing straight back -/
structure Gd (W : List Str) : Prop where
  one : ∀ (i : Nat) (a b : Str), W[i]? = some a → W[i + 1]? = some b → a ≠ b
  two : ∀ (i : Nat) (a b : Str), W[i]? = some a → W[i + 2]? = some b → a ≠ b
def Pal (W : List Str) (t : Nat) : Prop := ∀ i, i ≤ t → W[i]? = W[W.length - 1 - i]?
structure CoreAt (W : List Str) (t : Nat) : Prop where
  lt : 2 * t < W.length
  pal : Pal W t
  fin : W.length = 1 ∨ (2 * t + 4 ≤ W.length ∧ W[t + 1]? ≠ W[W.length - 2 - t]?)
theorem core_uniq {W : List Str} {t s : Nat} (h : CoreAt W t) (h' : CoreAt W s) : t = s := by
  have key : ∀ {t s : Nat}, CoreAt W t → CoreAt W s → ¬ t < s := by
    intro t s h h' c
    rcases h.fin with e | ⟨_, e⟩
    · have := h'.lt; omega
    · exact e (by rw [show W.length - 2 - t = W.length - 1 - (t + 1) by omega]; exact h'.pal (t + 1) (by omega))
  have := key h h'
  have := key h' h
  omega
/-- the ring behind so many steps of the stem -/
def rg (W : List Str) (t : Nat) : List Str := (W.drop t).take (W.length - 2 * t)
def sm (W : List Str) (t : Nat) : List Str := W.take (t + 1)
theorem rg_len {W : List Str} {t : Nat} : (rg W t).length = W.length - 2 * t := by
  unfold rg
  rw [List.length_take, List.length_drop]
  omega
theorem rg_get {W : List Str} {t i : Nat} (h : i < W.length - 2 * t) : (rg W t)[i]? = W[t + i]? := by
  unfold rg
  rw [List.getElem?_take, if_pos h, List.getElem?_drop]
/-! data: a couple of walks -/
def dTT (xs ys : List Str) : PyData := .tuple [.tuple (xs.map .str), .tuple (ys.map .str)]
section
variable {K : PySem.W.Frag} {H : Hp} {c s g c' s' g' : Addr} {xs ys xs' ys' : List Str} {Q : VK}
end
/-! ### min of a list of tuples of texts -/
def dT (w : List Str) : PyData := .tuple (w.map .str)
/-- a before b, as tuples of texts -/
def ltW (a b : List Str) : Bool := PySem.W.dataLt (dT a) (dT b)
def minW (x : List Str) (xs : List (List Str)) : List Str := xs.foldl (fun a y => if ltW y a = true then y else a) x
/-- rows of texts in a heap -/
def Rws (K : PySem.W.Frag) (H : Hp) (xs : List V) (ds : List (List Str)) : Prop := xs.length = ds.length ∧ ∀ (i : Nat) (d : List Str), ds[i]? = some d → ∃ t, xs[i]? = some (.ref t) ∧ SqT K H t (d.map V.str)
theorem Rws.dps {K : PySem.W.Frag} {H : Hp} : ∀ {xs : List V} {ds : List (List Str)}, Rws K H xs ds → DpAll K H xs (ds.map dT)
  | [], [], _ => .nil
  | [], _ :: _, h => by cases h.1
  | _ :: _, [], h => by cases h.1
  | x :: xs, d :: ds, h => by
    obtain ⟨t, e, hs⟩ := h.2 0 d rfl
    cases Option.some.inj e
    exact .cons (.tup hs (dp_strs d)) (Rws.dps ⟨by have := h.1; simpa using this, fun i d hd => h.2 (i + 1) d hd⟩)
theorem Rws.same {K : PySem.W.Frag} {G H : Hp} {xs : List V} {ds : List (List Str)} (e : Same G H) (h : Rws K G xs ds) : Rws K H xs ds :=
  ⟨h.1, fun i d hd => by obtain ⟨t, h1, h2⟩ := h.2 i d hd; exact ⟨t, h1, Same.sqt e h2⟩⟩
theorem Rws.snoc {K : PySem.W.Frag} {G : Hp} {xs : List V} {ds : List (List Str)} {t : Addr} {d : List Str} (h : Rws K G xs ds) (e : SqT K G t (d.map V.str)) : Rws K G (xs ++ [.ref t]) (ds ++ [d]) := by
  refine ⟨by rw [List.length_append, List.length_append, h.1]; rfl, fun i z hz => ?_⟩
  rcases Nat.lt_or_ge i ds.length with c | c
  · rw [List.getElem?_append_left c] at hz
    obtain ⟨s, h1, h2⟩ := h.2 i z hz
    exact ⟨s, by rw [List.getElem?_append_left (by rw [h.1]; exact c)]; exact h1, h2⟩
  · rw [List.getElem?_append_right c] at hz
    have hi : i - ds.length = 0 := by
      rcases Nat.lt_or_ge (i - ds.length) 1 with y | y
      · omega
      · rw [List.getElem?_eq_none (by simp; omega)] at hz; cases hz
    rw [hi] at hz
    cases Option.some.inj hz
    exact ⟨t, by rw [List.getElem?_append_right (by rw [h.1]; exact c), h.1, hi]; rfl, e⟩
def rMinT (K : PySem.W.Frag) : List V → Hp → VK → Prop := fun vs H Q => ∃ (a : Addr) (xs : List V) (m0 : List Str) (ms : List (List Str)), vs = [V.ref a] ∧ SqL K H a xs ∧ Rws K H xs (m0 :: ms) ∧ (∀ m ∈ m0 :: ms, ∀ z ∈ m, SOk z) ∧
  ∀ t, SqT K H t ((minW m0 ms).map V.str) → (∃ i : Nat, (m0 :: ms)[i]? = some (minW m0 ms) ∧ xs[i]? = some (V.ref t)) → Q (.ref t) H
/-! ### rings of a walk that is led elsewhere -/
/-- R begun at its second place -/
def turn1 (R : List Str) : List Str := R.tail ++ R.tail.take 1
/-- R is a ring or one room -/
structure IsR (R : List Str) : Prop where
  gd : Gd R
  co : CoreAt R 0
/-- w shrinks to the stem S, the ring R, the stem turned about -/
def HasR (w R : List Str) : Prop := ∃ t, CoreAt (shr w) t ∧ R = rg (shr w) t
/-- z goes round as the rooms C do, closed up -/
def Rd (C z : List Str) : Prop := ∃ p q, C = p ++ q ∧ q ≠ [] ∧ z = q ++ p ++ q.take 1
/-- two rings that go round alike -/
def SameR (R R' : List Str) : Prop := R.length = R'.length ∧ ∀ z, Rd R.dropLast z ↔ Rd R'.dropLast z
theorem SameR.refl (R : List Str) : SameR R R := ⟨rfl, fun _ => Iff.rfl⟩
theorem SameR.trans {A B C : List Str} (h : SameR A B) (h' : SameR B C) : SameR A C := ⟨h.1.trans h'.1, fun z => (h.2 z).trans (h'.2 z)⟩
/-! ### the least of rows of texts -/
/-! ### all turns of a ring; one walk as data for repr -/
/-- the ring begun at its k-th place -/
def tn (R : List Str) (k : Nat) : List Str := (R.drop k).dropLast ++ R.take (k + 1)
def rds (R : List Str) : List (List Str) := (List.range (R.length - 1)).map (tn R)
/-- the name of a ring -/
def nmR (R : List Str) : List Str := match rds R with
  | [] => []
  | x :: xs => minW x xs
section
variable {K : PySem.W.Frag} {H : Hp} {s : Addr} {xs : List Str} {Q : VK}
end
/-! ### periods, roots; t * k of a long row -/
/-- f goes round alike behind k of n places -/
def Per {α : Type} (f : Nat → α) (n k : Nat) : Prop := ∀ i, i < n → f ((i + k) % n) = f i
section
variable {α : Type} {f : Nat → α} {n k d e : Nat}
theorem per_n (f : Nat → α) (n : Nat) : Per f n n := fun i hi => by rw [Nat.add_mod_right, Nat.mod_eq_of_lt hi]
theorem per_iter (h : Per f n k) (m : Nat) : ∀ i, i < n → f ((i + m * k) % n) = f i := by
  induction m with
  | zero => intro i hi; rw [Nat.zero_mul, Nat.add_zero, Nat.mod_eq_of_lt hi]
  | succ m ih =>
    intro i hi
    have hn : 0 < n := by omega
    have e : (i + (m + 1) * k) % n = ((i + m * k) % n + k) % n := by
      rw [Nat.mod_add_mod]
      congr 1
      rw [Nat.succ_mul]
      omega
    rw [e, h _ (Nat.mod_lt _ hn), ih i hi]
/-- the fewest places behind which f goes round alike -/
structure Few (f : Nat → α) (n d : Nat) : Prop where
  one : 1 ≤ d
  le : d ≤ n
  per : Per f n d
  least : ∀ k, 1 ≤ k → k < d → ¬ Per f n k
theorem few_dvd (h : Few f n d) : n % d = 0 := by
  apply Classical.byContradiction
  intro c
  have h1 := h.one
  have h2 := h.le
  have hr : n % d < d := Nat.mod_lt _ h1
  refine h.least (n % d) (by omega) hr (fun i hi => ?_)
  have hn : 0 < n := by omega
  have e := per_iter h.per (n / d) ((i + n % d) % n) (Nat.mod_lt _ hn)
  rw [Nat.mod_add_mod] at e
  have e2 : i + n % d + n / d * d = i + n := by
    have := Nat.div_add_mod n d
    rw [Nat.mul_comm] at this
    omega
  rw [e2, Nat.add_mod_right, Nat.mod_eq_of_lt hi] at e
  exact e.symm
theorem few_uniq (h : Few f n d) (h' : Few f n e) : d = e := by
  rcases Nat.lt_trichotomy d e with c | c | c
  · exact absurd h.per (h'.least d h.one c)
  · exact c
  · exact absurd h'.per (h.least e h'.one c)
theorem per_mod (hk : n % k = 0) (h1 : 1 ≤ k) : Per f n k ↔ ∀ i, i < n → f (i % k) = f i := by
  constructor
  · intro h i hi
    have hkn : k ≤ n := Nat.le_of_dvd (by omega) (Nat.dvd_of_mod_eq_zero hk)
    have hlt := Nat.mod_lt i h1
    have e := per_iter h (i / k) (i % k) (by omega)
    have e2 : i % k + i / k * k = i := by
      have := Nat.mod_add_div i k
      rw [Nat.mul_comm] at this
      exact this
    rw [e2, Nat.mod_eq_of_lt hi] at e
    exact e.symm
  · intro h i hi
    have hn : 0 < n := by omega
    have e1 := h ((i + k) % n) (Nat.mod_lt _ hn)
    rw [Nat.mod_mod_of_dvd _ (Nat.dvd_of_mod_eq_zero hk), Nat.add_mod_right, h i hi] at e1
    exact e1.symm
theorem repF_len (q : Nat) (L : List α) : (List.replicate q L).flatten.length = q * L.length := by simp
end
section
variable {R W : List Str} {n k d t : Nat}
theorem per_ext (hc : R[0]? = R[n]?) (h : Few (fun i => R[i]?) n d) : ∀ j, j ≤ n → R[j % d]? = R[j]? := by
  intro j hj
  have hd := few_dvd h
  rcases Nat.lt_or_ge j n with c | c
  · exact (per_mod hd h.one).mp h.per j c
  · have e : j = n := by omega
    subst e
    rw [hd, hc]
/-- the root: the stem, so many steps of the ring, the stem turned about -/
def rtW (W : List Str) (t d : Nat) : List Str := sm W t ++ ((rg W t).drop 1).take d ++ (sm W t).reverse.tail
theorem sm_len (h : t < W.length) : (sm W t).length = t + 1 := by unfold sm; rw [List.length_take]; omega
theorem rg_closed (hC : CoreAt W t) (hn : W.length = 2 * t + n + 1) : (rg W t)[0]? = (rg W t)[n]? := by
  rw [rg_get (by omega), rg_get (by omega), Nat.add_zero]
  have e := hC.pal t (Nat.le_refl t)
  rw [e]
  congr 1
  omega
theorem rt_len (hC : CoreAt W t) (hn : W.length = 2 * t + n + 1) (hd : d ≤ n) : (rtW W t d).length = 2 * t + d + 1 := by
  unfold rtW
  rw [List.length_append, List.length_append, List.length_tail, List.length_reverse, sm_len (by omega), List.length_take, List.length_drop, rg_len]
  omega
theorem rt_low (hn : W.length = 2 * t + n + 1) (hd : d ≤ n) {i : Nat} (hi : i ≤ t + d) : (rtW W t d)[i]? = W[i]? := by
  unfold rtW
  have e1 : (sm W t).length = t + 1 := sm_len (by omega)
  have e2 : (((rg W t).drop 1).take d).length = d := by rw [List.length_take, List.length_drop, rg_len]; omega
  rw [List.getElem?_append_left (by rw [List.length_append]; omega)]
  by_cases c : i ≤ t
  · rw [List.getElem?_append_left (by omega)]
    unfold sm
    rw [List.getElem?_take, if_pos (by omega)]
  · rw [List.getElem?_append_right (by omega), e1, List.getElem?_take, if_pos (by omega), List.getElem?_drop, rg_get (by omega)]
    congr 1
    omega
theorem rt_high (hC : CoreAt W t) (hn : W.length = 2 * t + n + 1) (h : Few (fun i => (rg W t)[i]?) n d) {i : Nat} (h1 : t ≤ i) (h2 : i ≤ 2 * t + d) : (rtW W t d)[i]? = W[i + (n - d)]? := by
  have hd := h.le
  have hdv := few_dvd h
  by_cases c : i ≤ t + d
  · rw [rt_low hn hd c]
    have hx := per_ext (rg_closed hC hn) h
    have a1 := hx (i - t) (by omega)
    have a2 := hx (i - t + (n - d)) (by omega)
    have e : (i - t + (n - d)) % d = (i - t) % d := by
      have e3 : n - d = (n / d - 1) * d := by
        have := Nat.div_add_mod n d
        rw [hdv, Nat.add_zero, Nat.mul_comm] at this
        rw [Nat.sub_mul, Nat.one_mul, this]
      rw [e3, Nat.add_mul_mod_self_right]
    rw [e] at a2
    have a3 := a1.symm.trans a2
    rw [rg_get (by omega), rg_get (by omega)] at a3
    rw [show t + (i - t) = i by omega, show t + (i - t + (n - d)) = i + (n - d) by omega] at a3
    exact a3
  · unfold rtW
    have e1 : (sm W t).length = t + 1 := sm_len (by omega)
    have e2 : (((rg W t).drop 1).take d).length = d := by rw [List.length_take, List.length_drop, rg_len]; omega
    rw [List.getElem?_append_right (by rw [List.length_append]; omega), List.length_append, e1, e2, List.getElem?_tail, List.getElem?_reverse (by omega), e1]
    unfold sm
    rw [List.getElem?_take, if_pos (by omega), hC.pal _ (by omega)]
    congr 1
    omega
theorem few_three (hC : CoreAt W t) (hn : W.length = 2 * t + n + 1) (hn1 : 1 ≤ n) (h : Few (fun i => (rg W t)[i]?) n d) : 3 ≤ d ∧ 3 ≤ n ∧ W[t + 1]? ≠ W[t + n - 1]? := by
  have h1 := h.one
  have hd := h.le
  have hf := hC.fin.resolve_left (by omega)
  have hne : W[t + 1]? ≠ W[t + n - 1]? := by
    have := hf.2
    rw [show W.length - 2 - t = t + n - 1 by omega] at this
    exact this
  refine ⟨?_, by omega, hne⟩
  apply Classical.byContradiction
  intro c
  have hx := per_ext (rg_closed hC hn) h
  have a1 := hx 1 (by omega)
  have a2 := hx (n - 1) (by omega)
  have hdv := few_dvd h
  have e : 1 % d = (n - 1) % d := by
    have h12 : d = 1 ∨ d = 2 := by omega
    rcases h12 with rfl | rfl
    · rw [Nat.mod_one, Nat.mod_one]
    · omega
  rw [e] at a1
  have a3 := a1.symm.trans a2
  rw [rg_get (by omega), rg_get (by omega)] at a3
  exact hne (by rw [show t + n - 1 = t + (n - 1) by omega]; exact a3)
structure RootOk (W : List Str) (t n d : Nat) : Prop where
  gd : Gd (rtW W t d)
  co : CoreAt (rtW W t d) t
  sm : TT.sm (rtW W t d) t = TT.sm W t
  rg : TT.rg (rtW W t d) t = (TT.rg W t).take (d + 1)
  few : Few (fun i => (TT.rg (rtW W t d) t)[i]?) d d
  same : rtW (rtW W t d) t d = rtW W t d
theorem root_ok (g : Gd W) (hC : CoreAt W t) (hn : W.length = 2 * t + n + 1) (hn1 : 1 ≤ n) (h : Few (fun i => (rg W t)[i]?) n d) : RootOk W t n d := by
  obtain ⟨h3, hn3, hne⟩ := few_three hC hn hn1 h
  have hd := h.le
  have hl := rt_len hC hn hd
  have some_lt : ∀ {i : Nat} {a : Str}, (rtW W t d)[i]? = some a → i < 2 * t + d + 1 := by
    intro i a e
    rcases Nat.lt_or_ge i (rtW W t d).length with c | c
    · omega
    · rw [List.getElem?_eq_none c] at e; cases e
  have e_sm : TT.sm (rtW W t d) t = TT.sm W t := by
    have e1 : (TT.sm W t).length = t + 1 := sm_len (by omega)
    unfold rtW
    rw [List.append_assoc]
    show List.take (t + 1) _ = _
    rw [List.take_append_of_le_length (by omega)]
    exact List.take_of_length_le (by omega)
  have e_rg : TT.rg (rtW W t d) t = (TT.rg W t).take (d + 1) := by
    refine List.ext_getElem? fun i => ?_
    by_cases c : i < d + 1
    · rw [rg_get (by omega), rt_low hn hd (by omega), List.getElem?_take, if_pos c, rg_get (by omega)]
    · rw [List.getElem?_eq_none (by rw [rg_len]; omega), List.getElem?_eq_none (by rw [List.length_take]; omega)]
  refine ⟨⟨fun i a b ha hb => ?_, fun i a b ha hb => ?_⟩, ⟨by omega, fun i hi => ?_, .inr ⟨by omega, ?_⟩⟩, e_sm, e_rg, ?_, ?_⟩
  · have hi := some_lt hb
    by_cases c : i + 1 ≤ t + d
    · rw [rt_low hn hd (by omega)] at ha hb
      exact g.one i a b ha hb
    · rw [rt_high hC hn h (by omega) (by omega)] at ha hb
      exact g.one (i + (n - d)) a b ha (by rw [show i + (n - d) + 1 = i + 1 + (n - d) by omega]; exact hb)
  · have hi := some_lt hb
    by_cases c : i + 2 ≤ t + d
    · rw [rt_low hn hd (by omega)] at ha hb
      exact g.two i a b ha hb
    · rw [rt_high hC hn h (by omega) (by omega)] at ha hb
      exact g.two (i + (n - d)) a b ha (by rw [show i + (n - d) + 2 = i + 2 + (n - d) by omega]; exact hb)
  · rw [hl, rt_low hn hd (by omega), rt_high hC hn h (by omega) (by omega), hC.pal i hi]
    congr 1
    omega
  · rw [hl, rt_low hn hd (by omega), rt_high hC hn h (by omega) (by omega), show 2 * t + d + 1 - 2 - t + (n - d) = t + n - 1 by omega]
    exact hne
  · have gt : ∀ i, i < d → ((TT.rg W t).take (d + 1))[i]? = (TT.rg W t)[i]? := fun i hi => by rw [List.getElem?_take, if_pos (by omega)]
    rw [e_rg]
    refine ⟨h.one, Nat.le_refl d, per_n _ d, fun k k1 k2 hp => h.least k k1 k2 (fun i hi => ?_)⟩
    have hx := per_ext (rg_closed hC hn) h
    have hd0 : 0 < d := by omega
    have hn0 : 0 < n := by omega
    have b1 := hx ((i + k) % n) (Nat.le_of_lt (Nat.mod_lt _ hn0))
    have b2 := hx i (by omega)
    rw [Nat.mod_mod_of_dvd _ (Nat.dvd_of_mod_eq_zero (few_dvd h))] at b1
    have b3 : ((TT.rg W t).take (d + 1))[(i % d + k) % d]? = ((TT.rg W t).take (d + 1))[i % d]? := hp (i % d) (Nat.mod_lt _ hd0)
    rw [gt _ (Nat.mod_lt _ hd0), gt _ (Nat.mod_lt _ hd0), Nat.mod_add_mod] at b3
    show (TT.rg W t)[(i + k) % n]? = (TT.rg W t)[i]?
    rw [← b1, b3, b2]
  · show TT.sm (rtW W t d) t ++ ((TT.rg (rtW W t d) t).drop 1).take d ++ (TT.sm (rtW W t d) t).reverse.tail = rtW W t d
    rw [e_sm, e_rg, List.drop_take, List.take_take]
    unfold rtW
    rw [show min d (d + 1 - 1) = d by omega]
/-! powers -/
def powW (A : List Str) : Nat → List Str
  | 0 => A.take 1
  | m + 1 => beh (powW A m) A
end
/-! a walk so many times -/
section
variable {A : List Str} {x : Str}
/-- unlike ones side by side -/
def Unl (w : List Str) : Prop := ∀ (i : Nat) (a b : Str), w[i]? = some a → w[i + 1]? = some b → a ≠ b
end
/-! ### t * k of a longer row -/
def rRepB (K : PySem.W.Frag) : R2 := fun x y H Q => ∃ l k xs, x = .ref l ∧ y = .int k ∧ SqT K H l xs ∧ xs ≠ [] ∧ 1 ≤ k ∧ k.toNat * xs.length ≤ 1000000 ∧ (k = 1 → Q (.ref l) H) ∧ (2 ≤ k → ∀ p, H p = none → Q (.ref p) (upd H p (.tup (List.replicate k.toNat xs).flatten)))
section
variable {K : PySem.W.Frag} {G H : Hp} {Q : VK} {a : Addr} {xs : List V} {k : Int} {m : Nat}
end
/-! repr of a number -/
def kReprI : List V → Hp → VK → Prop := fun xs H Q => ∃ i : Int, xs = [.int i] ∧ i.natAbs.log2 < 1920 ∧ Q (.str (toString i)) H
/-! l.index(x) of data -/
theorem hu65_of {k : Nat} {A : Around} (hr : Room k A) : A.units + 65 < cLine := by have := hr.un; omega
/-! ### powers and roots: roots of powers, turned about, led elsewhere -/
/-- where the ring begins, its steps, the steps of its root -/
structure RD (W : List Str) (t n d : Nat) : Prop where
  co : CoreAt W t
  len : W.length = 2 * t + n + 1
  pos : 1 ≤ n
  few : Few (fun i => (rg W t)[i]?) n d
section
variable {W V : List Str} {t n d t' n' d' m : Nat}
theorem RD.uniq (h : RD W t n d) (h' : RD W t' n' d') : t' = t ∧ n' = n ∧ d' = d := by
  obtain rfl := core_uniq h'.co h.co
  obtain rfl : n' = n := by have := h.len; have := h'.len; omega
  exact ⟨rfl, rfl, few_uniq h'.few h.few⟩
theorem RD.three (h : RD W t n d) : 3 ≤ d ∧ 3 ≤ n ∧ W[t + 1]? ≠ W[t + n - 1]? := few_three h.co h.len h.pos h.few
theorem RD.root (g : Gd W) (h : RD W t n d) : Gd (rtW W t d) ∧ RD (rtW W t d) t d d ∧ rtW (rtW W t d) t d = rtW W t d := by
  have r := root_ok g h.co h.len h.pos h.few
  exact ⟨r.gd, ⟨r.co, rt_len h.co h.len h.few.le, h.few.one, r.few⟩, r.same⟩
/-- the word of so many times round -/
def zW (W : List Str) (t m : Nat) : List Str := sm W t ++ (List.replicate m (rg W t).tail).flatten ++ (sm W t).reverse.tail
theorem z_len (h : RD W t n d) (m : Nat) : (zW W t m).length = 2 * t + m * n + 1 := by
  have := h.len
  unfold zW
  rw [List.length_append, List.length_append, repF_len, List.length_tail, rg_len, List.length_tail, List.length_reverse, sm_len (by omega), show W.length - 2 * t - 1 = n by omega]
  omega
/-! turned about -/
end
/-! one behind another, so many times -/
section
variable {A B o u v : List Str} {x z : Str}
/-- led along o -/
def cj (o w : List Str) : List Str := beh (beh o.reverse w) o
end
section
variable {W o : List Str} {t n d : Nat} {x z : Str}
end
/-! ### sets of tuples whose items are plain (ints, texts): the search -/
/-- items that ask nothing of a class -/
def PlainK {P : Program} {w : World} {K : Type} [DecidableEq K] (knd : KeyKind P w K) : Prop := ∀ (k : K) (v : Value), knd.is k v = true → ∀ n, ofAClassStatement n v = pure false ∧ ∃ b, hashByValue n v = pure b
theorem plain_mix (P : Program) (w : World) : PlainK (mixKind P w) := by
  intro k v h n
  cases k with
  | inl i =>
    obtain ⟨t, rfl⟩ := Value.isInt_shape (show v.isInt i = true from h)
    exact ⟨by cases n <;> rfl, true, by cases n <;> rfl⟩
  | inr x =>
    obtain ⟨t, rfl⟩ : ∃ t, v = .str x t := by
      cases v <;> first | exact absurd (show false = true from h) (by decide) | (rename_i y t; exact ⟨t, by rw [show y = x from beq_iff_eq.mp h]⟩)
    exact ⟨by cases n <;> rfl, false, by cases n <;> rfl⟩
section
variable {P : Program} {w : World} {K : Type} [DecidableEq K] {knd : KeyKind P w K} {A : Around} {E : Value → Shared → Prop} {s : Shared}
theorem items_plain (hp : PlainK knd) : ∀ {ks : List K} {vs : List Value}, ItemsAre knd ks vs → ∀ v ∈ vs, ∀ n, ofAClassStatement n v = pure false ∧ ∃ b, hashByValue n v = pure b
  | _, _, .nil, v, hv => by cases hv
  | _, _, .cons h1 h2, v, hv => by
    rcases List.mem_cons.mp hv with rfl | hv
    · exact hp _ _ h1
    · exact items_plain hp h2 v hv
theorem cls_of_tup (hp : PlainK knd) {ks : List K} {b : Addr} {Q : Bool → Shared → Prop} (hk : IsTupleKey knd s.heap ks b) (q : Q false s) : wpAny (model P w) A (ofAClassStatement 8 (.ref b)) Q E s := by
  have ht := hk.typeIs
  obtain ⟨ob, itm, m, hob, _, hda, hit⟩ := hk
  have hall := items_plain hp hit
  unfold ofAClassStatement
  refine wpAny_bind (wpAny_typeOf ht ?_)
  dsimp only
  simp only [show (("tuple" : String) == "tuple") = true by decide, if_true, Bool.not_true, Bool.false_eq_true, if_false]
  try refine wpAny_bind (wpAny_pure ?_)
  try simp only [Bool.not_true, Bool.false_eq_true, if_false]
  show wpAny _ _ (seqItems? (.ref b) >>= _) _ _ s
  refine wpAny_bind (wpAny_seqItems hob hda ?_)
  dsimp only
  refine wpAny_bind ?_
  show wpAny _ _ (forIn itm _ _) _ _ s
  rw [← Array.forIn_toList]
  refine wpAny_forIn_list _ (fun left acc s' => acc.1 = none ∧ s' = s ∧ ∀ v ∈ left, v ∈ itm.toList) _ ?_ ?_ _ _ ⟨rfl, rfl, fun v hv => hv⟩
  · rintro v left acc s' ⟨h1, rfl, h3⟩
    rw [(hall v (h3 v List.mem_cons_self) _).1]
    refine wpAny_bind (wpAny_pure ?_)
    simp only [Bool.false_eq_true, if_false]
    exact wpAny_pure ⟨rfl, rfl, fun u hu => h3 u (List.mem_cons_of_mem _ hu)⟩
  · rintro ⟨r1, r2⟩ s' ⟨h1, rfl, _⟩
    cases (show r1 = none from h1)
    exact wpAny_pure q
theorem hash_of_tup (hp : PlainK knd) {ks : List K} {b : Addr} {Q : Bool → Shared → Prop} (hk : IsTupleKey knd s.heap ks b) (q : ∀ r, Q r s) : wpAny (model P w) A (hashByValue 8 (.ref b)) Q E s := by
  have ht := hk.typeIs
  obtain ⟨ob, itm, m, hob, _, hda, hit⟩ := hk
  have hall := items_plain hp hit
  unfold hashByValue
  refine wpAny_bind (wpAny_specialOf ht F.slot_tuple_hash.lookup ?_)
  show wpAny _ _ (seqItems? (.ref b) >>= _) _ _ s
  refine wpAny_bind (wpAny_seqItems hob hda ?_)
  refine wpAny_bind ?_
  show wpAny _ _ (forIn itm _ _) _ _ s
  rw [← Array.forIn_toList]
  refine wpAny_forIn_list _ (fun left acc s' => acc.1 = none ∧ s' = s ∧ ∀ v ∈ left, v ∈ itm.toList) _ ?_ ?_ _ _ ⟨rfl, rfl, fun v hv => hv⟩
  · rintro v left acc s' ⟨h1, rfl, h3⟩
    obtain ⟨bb, eb⟩ := (hall v (h3 v List.mem_cons_self) _).2
    rw [eb]
    refine wpAny_bind (wpAny_pure ?_)
    cases bb with
    | true =>
      simp only [Bool.not_true, Bool.false_eq_true, if_false]
      exact wpAny_pure ⟨rfl, rfl, fun u hu => h3 u (List.mem_cons_of_mem _ hu)⟩
    | false =>
      simp only [Bool.not_false, if_true]
      first
        | exact wpAny_pure (wpAny_pure (q _))
        | exact wpAny_pure (wpAny_bind (wpAny_pure (q _)))
        | exact wpAny_pure (q _)
  · rintro ⟨r1, r2⟩ s' ⟨h1, rfl, _⟩
    cases (show r1 = none from h1)
    exact wpAny_pure (q _)
/-- tuples alone stand there -/
def TupsAt (knd : KeyKind P w K) (h : Heap) (ys : List Value) : Prop := ∀ y ∈ ys, ∃ ks c, y = Value.ref c ∧ IsTupleKey knd h ks c
theorem unseen_tup (hp : PlainK knd) {ks : List K} {b : Addr} {Q : Bool → Shared → Prop} (hk : IsTupleKey knd s.heap ks b) {ys : List Value} (hy : TupsAt knd s.heap ys) (q : Q false s) :
    wpAny (model P w) A (searchCouldBeSeen (.ref b) ys) Q E s := by
  unfold searchCouldBeSeen
  refine wpAny_bind ?_
  refine wpAny_forIn_list _ (fun left acc s' => acc.1 = none ∧ s' = s ∧ TupsAt knd s.heap left) _ ?_ ?_ _ _ ⟨rfl, rfl, hy⟩
  · rintro v left acc s' ⟨h1, rfl, h3⟩
    obtain ⟨ks2, c, rfl, hc⟩ := h3 v List.mem_cons_self
    have h4 : TupsAt knd s'.heap left := fun u hu => h3 u (List.mem_cons_of_mem _ hu)
    dsimp only
    by_cases hv : (b == c || (carriedByValue (.ref b) && carriedByValue (.ref c))) = true
    · exact wp_if_pos hv (wpAny_pure ⟨rfl, rfl, h4⟩)
    refine wp_if_neg hv (wpAny_bind (wpAny_eqIsQuiet_tuple hk ?_))
    simp only [Bool.not_true, Bool.false_eq_true, if_false]
    refine wpAny_bind (wpAny_eqIsQuiet_tuple hc ?_)
    simp only [Bool.not_true, Bool.false_eq_true, if_false]
    refine wpAny_bind (cls_of_tup hp hk ?_)
    simp only [Bool.false_eq_true, if_false]
    refine wpAny_bind (cls_of_tup hp hc ?_)
    simp only [Bool.false_eq_true, if_false]
    exact wpAny_pure ⟨rfl, rfl, h4⟩
  · rintro ⟨r1, r2⟩ s' ⟨h1, rfl, _⟩
    cases (show r1 = none from h1)
    exact wpAny_pure q
/-- its rows: each with its hash -/
def rowsK (knd : KeyKind P w K) (L : List (Addr × List K)) : List (Int × Value) := L.map fun p => (tupleKeyHash knd p.2, Value.ref p.1)
/-- a set of tuples at a, its table -/
structure SetAt (knd : KeyKind P w K) (h : Heap) (a : Addr) (L : List (Addr × List K)) (es : Array (Int × Value)) (ep : Nat) (t : SetTable) : Prop where
  ob : ∃ o, h.get? a = some o ∧ o.ExactSet ∧ o.data = .set es ep t
  rows : es.toList = rowsK knd L
  tab : TabOk t (L.map fun p => tupleKeyHash knd p.2)
  nd : (L.map (·.2)).Nodup
  tup : ∀ p ∈ L, IsTupleKey knd h p.2 p.1
  led : w.params.followText "set-order" = true ∨ t.led = true
  room : L.length * 5 < t.mask * 3
  few : L.length < 64
variable {a : Addr} {L : List (Addr × List K)} {es : Array (Int × Value)} {ep : Nat} {t : SetTable}
theorem SetAt.len (R : SetAt knd s.heap a L es ep t) : es.size = L.length := by
  rw [← Array.length_toList, R.rows]
  unfold rowsK
  rw [List.length_map]
theorem SetAt.tl (R : SetAt knd s.heap a L es ep t) : t.place.toList.length = L.length := by
  rw [Array.length_toList, R.tab.sz, List.length_map]
theorem SetAt.fit (R : SetAt knd s.heap a L es ep t) : t.fits es.size = true := by
  have h1 := R.tl
  rw [Array.length_toList] at h1
  have h2 := R.len
  have h3 := R.room
  unfold SetTable.fits SetTable.fill
  rw [R.tab.dm, Bool.and_eq_true, beq_iff_eq, decide_eq_true_eq]
  exact ⟨by omega, by show t.place.size + 0 ≤ t.mask; omega⟩
theorem SetAt.row (R : SetAt knd s.heap a L es ep t) {i : Nat} {p : Addr × List K} (h : L[i]? = some p) : es[i]? = some (tupleKeyHash knd p.2, Value.ref p.1) := by
  rw [← Array.getElem?_toList, R.rows]
  unfold rowsK
  rw [List.getElem?_map, h]
  rfl
theorem SetAt.stays (R : SetAt knd s.heap a L es ep t) : ¬ t.gaveWay = true := by
  unfold SetTable.gaveWay
  rw [mask_odd R.tab.mok]
  decide
/-- the c-th step of the way of h -/
abbrev stepAt (t : SetTable) (h : Int) (c : Nat) : SetTable.Probe := nth t.mask (runAt t.mask (SetTable.bits h % (t.mask + 1)) (SetTable.bits h)) c
theorem step_dummy (t : SetTable) (h : Int) (c : Nat) : (stepAt t h c).dummy = none := by
  have key : ∀ (n : Nat) (p : SetTable.Probe), p.dummy = none → (nth t.mask p n).dummy = none := by
    intro n
    induction n with
    | zero => exact fun p hp => hp
    | succ n ih =>
      intro p hp
      refine ih (adv t.mask p) ?_
      unfold adv
      split <;> exact hp
  exact key c _ rfl
theorem step_add (t : SetTable) (h : Int) (c q : Nat) : nth t.mask (stepAt t h c) q = stepAt t h (c + q) := (nth_add t.mask c _ q).symm
theorem step_j (t : SetTable) (h : Int) (c : Nat) : (stepAt t h c).j = way t.mask h c := rfl
theorem find_from (hp : PlainK knd) (R : SetAt knd s.heap a L es ep t) {x : Addr} {k : List K} (hx : IsTupleKey knd s.heap k x) (hu : A.units < cLine) (ad : Bool) {Z : Nat} (hZf : Z < 10 * SetTable.turns t.mask)
    (hZ : way t.mask (tupleKeyHash knd k) Z ∉ t.place.toList) (hZb : ∀ c, c < Z → way t.mask (tupleKeyHash knd k) c ∈ t.place.toList) {Q : SetFound → Shared → Prop}
    (hin : k ∈ L.map (·.2) → ∀ r, (ad = false → r.isSome = true) → Q (.there r) s) (hout : k ∉ L.map (·.2) → Q (.free (way t.mask (tupleKeyHash knd k) Z) false) s) :
    ∀ (f c : Nat) (stand : Option SetTable.Probe), stand.getD (t.probeStart (tupleKeyHash knd k)) = stepAt t (tupleKeyHash knd k) c → c ≤ Z → Z - c < f →
      (∀ (i : Nat) p, L[i]? = some p → p.2 = k → ∃ c', c ≤ c' ∧ c' < Z ∧ t.place.toList[i]? = some (way t.mask (tupleKeyHash knd k) c')) →
      wpAny (model P w) A (setSearchFrom a (.ref x) (tupleKeyHash knd k) ad f stand) Q E s := by
  obtain ⟨ob, hob, hex, hda⟩ := R.ob
  generalize hH : tupleKeyHash knd k = hh at hZ hZb hout
  have hOf : ∀ (i : Nat) p, L[i]? = some p → (es[i]?.map (·.1)).getD 0 = tupleKeyHash knd p.2 := fun i p e => by
    rw [R.row e]
    rfl
  intro f
  induction f with
  | zero => exact fun c stand _ _ hf _ => absurd hf (Nat.not_lt_zero _)
  | succ f ih =>
    intro c stand hst hc hf hre
    have hopen : setSearchFrom a (.ref x) hh ad (f + 1) stand = (do
        let (es, _, t) ← setState a
        if t.gaveWay then unsupported "set:on-a-table-that-gave-way"
        let some met := t.probe (fun i => (es[i]?.map (·.1)).getD 0) hh (stand.getD (t.probeStart hh)) | unsupported "internal:set-table-without-an-empty-slot"
        match met with
        | .empty j dummy =>
          match dummy with
          | none => return .free j false
          | some d =>
            if ad && t.slot d != .dummy then rule "set.search.the-dummy-was-taken"; return ← setSearchFrom a (.ref x) hh ad f none
            return .free d true
        | .candidate j i next =>
          if !t.led then
            if ← searchCouldBeSeen (.ref x) ((es.filter (·.1 == hh)).toList.map (·.2)) then unsupported "set:the-search-would-show-the-table"
          searchRest a (.ref x) hh ad f es t j i next) := setSearchFrom_succ a (.ref x) hh ad f stand
    rw [hopen]
    refine wpAny_bind (wpAny_setState_of hob hda R.fit ?_)
    dsimp only
    refine wp_if_neg R.stays ?_
    try refine wpAny_bind (wpAny_pure ?_)
    have spec := go_spec t R.tab.ris R.tab.dm (fun i => (es[i]?.map (·.1)).getD 0) hh (10 * SetTable.turns t.mask) (Z - c) _ (step_dummy t hh c) (by omega)
      (fun q hq => by rw [step_add]; exact hZb (c + q) (by omega)) (by rw [step_add, show c + (Z - c) = Z by omega]; exact hZ)
    rw [hst]
    rcases spec with ⟨q, i, hq, hi, hh1, hno, hpr⟩ | ⟨hno, hpr⟩
    · rw [step_add, step_j] at hi
      rw [step_add, step_add] at hpr
      have hil : i < L.length := by
        have := (List.getElem?_eq_some_iff.mp hi).1
        rw [R.tl] at this
        exact this
      obtain ⟨p, hLp⟩ : ∃ p, L[i]? = some p := ⟨_, List.getElem?_eq_getElem hil⟩
      have hmem := List.mem_of_getElem? hLp
      have hlive : t.slot (way t.mask hh (c + q)) = .live i := slot_live R.tab.ris hi
      have rest : wpAny (model P w) A (searchRest a (.ref x) hh ad f es t (way t.mask hh (c + q)) i (stepAt t hh (c + (q + 1)))) Q E s := by
        unfold searchRest
        rw [R.row hLp]
        dsimp only
        refine wpAny_bind (wpAny_holding (wpAny_eqBool_tuple hu (R.tup p hmem) hx ?_))
        refine wpAny_bind (wpAny_setState_of hob hda R.fit ?_)
        dsimp only
        by_cases hkk : p.2 = k
        · have hm : k ∈ L.map (·.2) := List.mem_map.mpr ⟨p, hmem, hkk⟩
          cases ad with
          | true =>
            refine wp_if_pos (by simp [hkk]) ?_
            exact wpAny_pure (hin hm none (fun z => by cases z))
          | false =>
            refine wp_if_neg (by simp) ?_
            try refine wpAny_bind (wpAny_pure ?_)
            rw [sameMem]
            dsimp only
            simp only [if_true, hlive, R.row hLp]
            refine wpAny_bind (wpAny_isSame_ref_self (wpAny_bind (wpAny_pure ?_)))
            simp only [if_true]
            refine wp_if_pos (by simp [hkk]) ?_
            exact wpAny_pure (hin hm (some i) (fun _ => rfl))
        · refine wp_if_neg (by simp [hkk]) ?_
          try refine wpAny_bind (wpAny_pure ?_)
          rw [sameMem]
          dsimp only
          simp only [if_true, hlive, R.row hLp]
          refine wpAny_bind (wpAny_isSame_ref_self (wpAny_bind (wpAny_pure ?_)))
          simp only [if_true]
          refine wp_if_neg (by simp [hkk]) ?_
          refine ih (c + (q + 1)) (some _) rfl (by omega) (by omega) fun i0 p0 h0 hk0 => ?_
          obtain ⟨c', a1, a2, a3⟩ := hre i0 p0 h0 hk0
          have a3' := a3
          rcases Nat.lt_trichotomy c' (c + q) with z | z | z
          · exfalso
            refine hno (c' - c) i0 (by omega) (by rw [step_add, show c + (c' - c) = c' by omega]; exact a3) ?_
            rw [hOf i0 p0 h0, hk0, hH]
          · exfalso
            rw [z] at a3
            have s0 := slot_live R.tab.ris a3
            rw [hlive] at s0
            injection s0 with s0
            rw [← s0, hLp] at h0
            exact hkk (by rw [Option.some.inj h0]; exact hk0)
          · exact ⟨c', by omega, a2, a3'⟩
      have hpr' : t.probe (fun i => (es[i]?.map (·.1)).getD 0) hh (stepAt t hh c) = some (.candidate (way t.mask hh (c + q)) i (stepAt t hh (c + (q + 1)))) := hpr
      rw [hpr']
      dsimp only
      by_cases hl : t.led = true
      · refine wp_if_neg (by simp [hl]) ?_
        try refine wpAny_bind (wpAny_pure ?_)
        exact rest
      · refine wp_if_pos (by simp [hl]) ?_
        refine wpAny_bind (unseen_tup hp hx (fun y hy => ?_) ?_)
        · obtain ⟨e, he, rfl⟩ := List.mem_map.mp hy
          have he1 : e ∈ es ∧ e.1 = hh := by simpa using he
          have he2 : e ∈ es.toList := by simpa using he1.1
          rw [R.rows] at he2
          obtain ⟨p2, hp2, rfl⟩ := List.mem_map.mp he2
          exact ⟨p2.2, p2.1, rfl, R.tup p2 hp2⟩
        · refine wp_if_neg (by decide) ?_
          try refine wpAny_bind (wpAny_pure ?_)
          exact rest
    · rw [step_add, show c + (Z - c) = Z by omega] at hpr
      have hpr' : t.probe (fun i => (es[i]?.map (·.1)).getD 0) hh (stepAt t hh c) = some (.empty (way t.mask hh Z) none) := hpr
      rw [hpr']
      dsimp only
      refine wpAny_pure (hout fun hm => ?_)
      obtain ⟨p0, h0, hk0⟩ := List.mem_map.mp hm
      obtain ⟨i0, hi0, e0⟩ := List.getElem_of_mem h0
      have h00 : L[i0]? = some p0 := by rw [List.getElem?_eq_getElem hi0, e0]
      obtain ⟨c', a1, a2, a3⟩ := hre i0 p0 h00 hk0
      refine hno (c' - c) i0 (by omega) (by rw [step_add, show c + (c' - c) = c' by omega]; exact a3) ?_
      rw [hOf i0 p0 h00, hk0, hH]
theorem find_at (hp : PlainK knd) (R : SetAt knd s.heap a L es ep t) {x : Addr} {k : List K} (hx : IsTupleKey knd s.heap k x) (hu : A.units < cLine) (ad : Bool) {Q : SetFound → Shared → Prop}
    (hin : k ∈ L.map (·.2) → ∀ r, (ad = false → r.isSome = true) → Q (.there r) s)
    (hout : ∀ Z, k ∉ L.map (·.2) → way t.mask (tupleKeyHash knd k) Z ∉ t.place.toList → (∀ c, c < Z → way t.mask (tupleKeyHash knd k) c ∈ t.place.toList) → Q (.free (way t.mask (tupleKeyHash knd k) Z) false) s) :
    wpAny (model P w) A (setSearch a (.ref x) (tupleKeyHash knd k) ad) Q E s := by
  have hroom := R.room
  obtain ⟨Z, hZf, hZ, hZb⟩ := R.tab.first (by rw [List.length_map]; omega) (tupleKeyHash knd k)
  have hZ1 : Z < 100000 := by
    have h := hZf
    unfold SetTable.turns at h
    rcases R.tab.mok with e | e | e <;> omega
  unfold setSearch
  refine find_from hp R hx hu ad hZf hZ hZb hin (fun hn => hout Z hn hZ hZb) 100000 0 none rfl (Nat.zero_le _) (by omega) fun i p hp2 hk => ?_
  have hi : (L.map fun p => tupleKeyHash knd p.2)[i]? = some (tupleKeyHash knd k) := by rw [List.getElem?_map, hp2, ← hk]; rfl
  have hil : i < t.place.toList.length := by
    rw [R.tl]
    exact (List.getElem?_eq_some_iff.mp hp2).1
  obtain ⟨c, hc, e⟩ := R.tab.before hZ hi (List.getElem?_eq_getElem hil)
  exact ⟨c, Nat.zero_le _, hc, by rw [List.getElem?_eq_getElem hil, e]⟩
end
/-! ### sets of tuples: adding, asking -/
section
variable {P : Program} {w : World} {K : Type} [DecidableEq K] {knd : KeyKind P w K} {A : Around} {E : Value → Shared → Prop} {s : Shared}
theorem tup_but {h h' : Heap} {k : List K} {a b : Addr} {o : Obj} {es : Array (Int × Value)} {ep : Nat} {t : SetTable} (hb : IsTupleKey knd h k b) (ho : h.get? a = some o) (hd : o.data = .set es ep t) (hs : Heap.SameBut a h h') : IsTupleKey knd h' k b := by
  obtain ⟨ob, itm, n, hob, r1, r2, r3⟩ := hb
  refine ⟨ob, itm, n, (hs.2 b fun e => ?_).trans hob, r1, r2, r3⟩
  subst e
  rw [ho] at hob
  cases hob
  rw [hd] at r2
  cases r2
theorem rows_ins (L : List (Addr × List K)) (p : Nat) (x : Addr) (k : List K) : rowsK knd (L.take p ++ (x, k) :: L.drop p) = (rowsK knd L).take p ++ (tupleKeyHash knd k, Value.ref x) :: (rowsK knd L).drop p := by
  simp only [rowsK, List.map_append, List.map_cons, List.map_take, List.map_drop]
theorem all_again {α : Type} : ∀ L : List α, (List.range L.length).filterMap (fun i => L[i]?) = L := by
  intro L
  refine snoc_ind (R := fun L => (List.range L.length).filterMap (fun i => L[i]?) = L) rfl (fun l z ih => ?_) L
  have e : (l ++ [z]).length = l.length + 1 := by simp
  have e2 : (List.range l.length).filterMap (fun i => (l ++ [z])[i]?) = l := by
    conv => rhs; rw [← ih]
    exact fm_congr fun i hi => List.getElem?_append_left (List.mem_range.mp hi)
  rw [e, List.range_succ, List.filterMap_append, e2]
  congr 1
  rw [List.filterMap_cons_some (b := z) (by rw [List.getElem?_append_right (Nat.le_refl _), Nat.sub_self]; rfl)]
  rfl
theorem rows_order (L : List (Addr × List K)) (es : Array (Int × Value)) (order : Array Nat) (hr : es.toList = rowsK knd L) (hp : order.toList.Perm (List.range L.length)) :
    ∃ L2, (order.filterMap (es[·]?)).toList = rowsK knd L2 ∧ L2.Perm L ∧ (L2.map fun p => tupleKeyHash knd p.2) = order.toList.map fun i => (es.map (·.1)).getD i 0 := by
  have ent : ∀ i : Nat, es[i]? = (L[i]?).map fun p => (tupleKeyHash knd p.2, Value.ref p.1) := fun i => by
    rw [← Array.getElem?_toList, hr]
    unfold rowsK
    rw [List.getElem?_map]
  refine ⟨order.toList.filterMap (fun i => L[i]?), ?_, ?_, ?_⟩
  · rw [Array.toList_filterMap]
    unfold rowsK
    rw [List.map_filterMap]
    exact fm_congr fun i _ => ent i
  · have h := hp.filterMap (fun i => L[i]?)
    rwa [all_again] at h
  · have hl : ∀ i ∈ order.toList, i < L.length := fun i hi => List.mem_range.mp (hp.mem_iff.mp hi)
    revert hl
    generalize order.toList = l
    intro hl
    induction l with
    | nil => rfl
    | cons i l ih =>
      have hi := hl i List.mem_cons_self
      rw [List.filterMap_cons_some (List.getElem?_eq_getElem hi), List.map_cons, List.map_cons, ih fun j hj => hl j (List.mem_cons_of_mem _ hj)]
      congr 1
      have e5 : (es.map (·.1))[i]? = some (tupleKeyHash knd (L[i]).2) := by rw [Array.getElem?_map, ent i, List.getElem?_eq_getElem hi]; rfl
      rw [Array.getD_eq_getD_getElem?, e5]
      rfl
variable {a : Addr} {L : List (Addr × List K)} {es : Array (Int × Value)} {ep : Nat} {t : SetTable}
theorem relay_set {o : Obj} (ho : s.heap.get? a = some o) (hex : o.ExactSet) (hd : o.data = .set es ep t) (hrows : es.toList = rowsK knd L) (hsz : t.place.size = es.size) (hdm : t.dummies = #[]) (hfl : es.size ≤ t.mask)
    (nd : (L.map (·.2)).Nodup) (tup : ∀ p ∈ L, IsTupleKey knd s.heap p.2 p.1) (ld : w.params.followText "set-order" = true ∨ t.led = true) (few : L.length < 64) {wanted M : Nat}
    (hw : SetTable.sizeAbove wanted - 1 = M) (hM : MaskOk M) (hw2 : SetTable.sizeAbove wanted ≤ 128) (hn : L.length * 5 < M * 3) {Q : Unit → Shared → Prop}
    (q : ∀ h' L' es' ep' t', Heap.SameBut a s.heap h' → SetAt knd h' a L' es' ep' t' → L'.Perm L → Q () { s with heap := h' }) : wpAny (model P w) A (setRelay a wanted) Q E s := by
  have hsl : es.size = L.length := by
    rw [← Array.length_toList, hrows]
    unfold rowsK
    rw [List.length_map]
  have hfits : t.fits es.size = true := by
    unfold SetTable.fits SetTable.fill
    rw [hdm, Bool.and_eq_true, beq_iff_eq, decide_eq_true_eq]
    exact ⟨hsz, by show t.place.size + 0 ≤ t.mask; omega⟩
  obtain ⟨t2, order, e, hp, T, em, el, _, _⟩ := relaid_ok t (hs := es.map (·.1)) (wanted := wanted) hw hM (by rw [Array.size_map, hsl]; omega)
  rw [Array.size_map, hsl] at hp
  obtain ⟨L2, r1, r2, r3⟩ := rows_order L es order hrows hp
  rw [← r3] at T
  have hs2 : (order.filterMap (es[·]?)).size = es.size := by
    rw [← Array.length_toList, r1, hsl, ← r2.length_eq]
    unfold rowsK
    rw [List.length_map]
  rw [setRelay_eq]
  refine wpAny_bind (wpAny_setState_of ho hd hfits ?_)
  dsimp only
  refine wp_if_neg (by rw [sizeLine_eq]; omega) ?_
  try refine wpAny_bind (wpAny_pure ?_)
  rw [e]
  dsimp only
  refine wpAny_bind (wp_if_neg (by rw [hs2]; simp) ?_)
  try refine wpAny_bind (wpAny_pure ?_)
  refine wpAny_pure (wpAny_storeSet_of ho hd ?_ (by rw [hs2, hsl, sizeLine_eq]; omega))
  have sb : Heap.SameBut a s.heap (s.heap.update a (Obj.putSet (order.filterMap (es[·]?)) t2)) := Heap.SameBut.update ..
  refine q _ L2 (order.filterMap (es[·]?)) (ep + 1) t2 sb ⟨⟨_, store_at ho hd, ⟨hex.1, hex.2.1, hex.2.2⟩, rfl⟩, r1, T, (r2.map (·.2)).nodup_iff.mpr nd, fun p hpm => tup_but (tup p (r2.mem_iff.mp hpm)) ho hd sb, by rw [el]; exact ld, ?_, by rw [r2.length_eq]; exact few⟩ r2
  rw [r2.length_eq, em]
  exact hn
theorem add_set (hp : PlainK knd) (R : SetAt knd s.heap a L es ep t) {x : Addr} {k : List K} (hx : IsTupleKey knd s.heap k x) (hu : A.units < cLine) (hfew : L.length + 1 < 64) {Q : Bool → Shared → Prop}
    (q : ∀ b h' L' es' ep' t', Heap.SameBut a s.heap h' → SetAt knd h' a L' es' ep' t' → (k ∈ L.map (·.2) → L' = L) → (k ∉ L.map (·.2) → L'.Perm ((x, k) :: L)) → Q b { s with heap := h' }) :
    wpAny (model P w) A (setAddHashed a (.ref x) (tupleKeyHash knd k)) Q E s := by
  obtain ⟨o, ho, hex, hd⟩ := R.ob
  have hsl := R.len
  have hroom := R.room
  unfold setAddHashed
  refine wpAny_holding ?_
  rw [show (100000 : Nat) = 99999 + 1 from rfl, setAddHashedIn_succ]
  refine wpAny_bind (wpAny_setState_of ho hd R.fit ?_)
  dsimp only
  refine wp_if_neg (by simp [byScan, Value.scannable]) ?_
  try refine wpAny_bind (wpAny_pure ?_)
  refine wpAny_bind (find_at hp R hx hu true (fun hm r _ => ?_) fun Z hm hZ hb => ?_)
  · exact wpAny_pure (q false s.heap L es ep t (Heap.SameBut.refl a s.heap) R (fun _ => rfl) fun z => absurd hm z)
  dsimp only
  refine wpAny_bind (wpAny_setState_of ho hd R.fit ?_)
  dsimp only
  obtain ⟨q1, q2, q3, q4, q5, q6, q7, q8, q9⟩ := R.tab.put hZ hb
  generalize hpt : t.put (way t.mask (tupleKeyHash knd k) Z) = pt at q1 q3 q4 q5 q6 q7 q8 q9 ⊢
  obtain ⟨t1, p⟩ := pt
  dsimp only at q1 q3 q4 q5 q6 q7 q8 q9 ⊢
  subst q1
  have hb2 : ∀ F : Bool → Sem Bool, (∀ r, wpAny (model P w) A (F r) Q E s) → wpAny (model P w) A (if t1.plain = true then hashByValue 8 (.ref x) >>= F else pure true >>= F) Q E s := fun F h => by
    by_cases c : t1.plain = true
    · exact wp_if_pos c (wpAny_bind (hash_of_tup hp hx h))
    · exact wp_if_neg c (wpAny_bind (wpAny_pure (h true)))
  have hin : (SetTable.insertAt es (SetTable.below t.place (way t.mask (tupleKeyHash knd k) Z)) (tupleKeyHash knd k, Value.ref x)).toList = rowsK knd (L.take (SetTable.below t.place (way t.mask (tupleKeyHash knd k) Z)) ++ (x, k) :: L.drop (SetTable.below t.place (way t.mask (tupleKeyHash knd k) Z))) := by
    rw [SetTable.toList_insertAt, rows_ins, R.rows]
  generalize hpp : SetTable.below t.place (way t.mask (tupleKeyHash knd k) Z) = p at q2 q3 hin ⊢
  have pm : (L.take p ++ (x, k) :: L.drop p).Perm ((x, k) :: L) := by
    have h : (L.take p ++ (x, k) :: L.drop p).Perm ((x, k) :: (L.take p ++ L.drop p)) := List.perm_middle
    rwa [List.take_append_drop] at h
  have hlen : (L.take p ++ (x, k) :: L.drop p).length = L.length + 1 := pm.length_eq
  have hhs : (L.take p ++ (x, k) :: L.drop p).map (fun p => tupleKeyHash knd p.2) = (L.map fun p => tupleKeyHash knd p.2).take p ++ tupleKeyHash knd k :: (L.map fun p => tupleKeyHash knd p.2).drop p := by
    simp only [List.map_append, List.map_cons, List.map_take, List.map_drop]
  rw [← hhs] at q3
  have nd1 : ((L.take p ++ (x, k) :: L.drop p).map (·.2)).Nodup := (pm.map (·.2)).nodup_iff.mpr (by
    rw [List.map_cons]
    exact List.nodup_cons.mpr ⟨hm, R.nd⟩)
  have hes : (SetTable.insertAt es p (tupleKeyHash knd k, Value.ref x)).size = L.length + 1 := by
    rw [← Array.length_toList, hin, ← hlen]
    unfold rowsK
    rw [List.length_map]
  generalize SetTable.insertAt es p (tupleKeyHash knd k, Value.ref x) = es1 at hin hes ⊢
  generalize L.take p ++ (x, k) :: L.drop p = L1 at pm hlen q3 nd1 hin
  refine hb2 _ fun r => ?_
  try dsimp only
  obtain ⟨t2, et2, q3', q4', q5', q9'⟩ : ∃ t2, (if r = true then t1 else { t1 with plain := false }) = t2 ∧ TabOk t2 (L1.map fun p => tupleKeyHash knd p.2) ∧ t2.mask = t.mask ∧ t2.led = t.led ∧ t2.fill = (L.map fun p => tupleKeyHash knd p.2).length + 1 := by
    refine ⟨_, rfl, ?_⟩
    cases r with
    | true => exact ⟨q3, q4, q5, q9⟩
    | false => exact ⟨⟨q3.ris, q3.dm, q3.sz, q3.mok, q3.bd, q3.reach⟩, q4, q5, q9⟩
  rw [et2]
  clear et2 q3 q4 q5 q6 q7 q8 q9 hb2 hpt
  refine wpAny_bind (wpAny_storeSet_of ho hd ?_ (by rw [hes, sizeLine_eq]; omega))
  have sb : Heap.SameBut a s.heap (s.heap.update a (Obj.putSet es1 t2)) := Heap.SameBut.update ..
  have ho1 := store_at (es' := es1) (t' := t2) ho hd
  generalize s.heap.update a (Obj.putSet es1 t2) = h1 at sb ho1 ⊢
  have tup1 : ∀ p ∈ L1, IsTupleKey knd h1 p.2 p.1 := fun p hpm => by
    rcases List.mem_cons.mp (pm.mem_iff.mp hpm) with e | hpm
    · rw [e]; exact tup_but hx ho hd sb
    · exact tup_but (R.tup p hpm) ho hd sb
  have ld1 : w.params.followText "set-order" = true ∨ t2.led = true := by rw [q5']; exact R.led
  by_cases hf : t2.tooFull = true
  · first
      | (refine wpAny_bind ?_; refine wp_if_pos (by simp [hf]) ?_)
      | (refine wp_if_pos (by simp [hf]) ?_; refine wpAny_bind ?_)
    have hfull : (L.length + 1) * 5 ≥ t2.mask * 3 := by
      have h := hf
      unfold SetTable.tooFull at h
      rw [decide_eq_true_eq, q9', List.length_map] at h
      exact h
    rw [hsl]
    have hsz1 : t2.place.size = es1.size := by
      have h := q3'.sz
      rw [List.length_map, hlen] at h
      rw [h, hes]
    have two : (t.mask = 7 ∧ L.length = 4) ∨ (t.mask = 31 ∧ L.length = 18) := by
      rcases R.tab.mok with e | e | e <;> rw [q4', e] at hfull <;> rw [e] at hroom <;> omega
    have go : ∀ M, SetTable.sizeAbove (SetTable.grown (L.length + 1)) - 1 = M → MaskOk M → SetTable.sizeAbove (SetTable.grown (L.length + 1)) ≤ 128 → (L.length + 1) * 5 < M * 3 →
        wpAny (model P w) A (setRelay a (SetTable.grown (L.length + 1))) (fun _ s' => wpAny (model P w) A (pure true) Q E s') E { s with heap := h1 } := fun M a1 a2 a3 a4 => by
      refine relay_set (s := { s with heap := h1 }) ho1 ⟨hex.1, hex.2.1, hex.2.2⟩ rfl hin hsz1 q3'.dm (by rw [hes, q4']; rcases two with ⟨e, e2⟩ | ⟨e, e2⟩ <;> omega) nd1 tup1 ld1 (by rw [hlen]; exact hfew) a1 a2 a3 (by rw [hlen]; exact a4) ?_
      exact fun h2 L2 es2 ep2 t3 sb2 R2 pm2 => wpAny_pure (q true h2 L2 es2 ep2 t3 (sb.trans sb2) R2 (fun z => absurd z hm) fun _ => pm2.trans pm)
    rcases two with ⟨_, e2⟩ | ⟨_, e2⟩
    · exact go 31 (by rw [e2, size_20]) (.inr (.inl rfl)) (by rw [e2, size_20]; decide) (by omega)
    · exact go 127 (by rw [e2, size_76]) (.inr (.inr rfl)) (by rw [e2, size_76]; decide) (by omega)
  · first
      | refine wp_if_neg (by simp [hf]) ?_
      | (refine wpAny_bind ?_; refine wp_if_neg (by simp [hf]) ?_; refine wpAny_pure ?_)
    refine wpAny_pure (q true h1 L1 es1 (ep + 1) t2 sb ⟨⟨_, ho1, ⟨hex.1, hex.2.1, hex.2.2⟩, rfl⟩, hin, q3', nd1, tup1, ld1, ?_, by rw [hlen]; exact hfew⟩ (fun z => absurd z hm) fun _ => pm)
    have h := hf
    unfold SetTable.tooFull at h
    rw [decide_eq_true_eq, q9', List.length_map] at h
    rw [hlen]
    omega
theorem has_set (hp : PlainK knd) (R : SetAt knd s.heap a L es ep t) {x : Addr} {k : List K} (hx : IsTupleKey knd s.heap k x) (hu : A.units < cLine) {Q : Option Nat → Shared → Prop}
    (q : ∀ r, (r.isSome = true ↔ k ∈ L.map (·.2)) → Q r s) : wpAny (model P w) A (setFind a (.ref x) (tupleKeyHash knd k)) Q E s := by
  obtain ⟨o, ho, hex, hd⟩ := R.ob
  unfold setFind
  rw [show (100000 : Nat) = 99999 + 1 from rfl]
  unfold setFindIn
  refine wpAny_bind (wpAny_setState_of ho hd R.fit ?_)
  dsimp only
  refine wp_if_neg (by simp [byScan, Value.scannable]) ?_
  try refine wpAny_bind (wpAny_pure ?_)
  refine wpAny_bind (find_at hp R hx hu false (fun hm r hr => ?_) fun Z hm hZ hb => ?_)
  · exact wpAny_pure (q r ⟨fun _ => hm, fun _ => hr rfl⟩)
  · exact wpAny_pure (q none ⟨(fun z => by cases z), fun z => absurd z hm⟩)
end
/-! ### sets of tuples of texts: the rules -/
/-- a set of such tuples, said of the heap; where the tuples stand is told beside it -/
structure Set0 (P : Program) (w : World) (h : Heap) (a : Addr) (L : List (Addr × List Key)) : Prop where
  ex : ∃ (es : Array (Int × Value)) (ep : Nat) (t : SetTable), (∃ o, h.get? a = some o ∧ o.ExactSet ∧ o.data = .set es ep t) ∧ es.toList = rowsK (mixKind P w) L ∧ TabOk t (L.map fun p => tupleKeyHash (mixKind P w) p.2) ∧ (L.map (·.2)).Nodup ∧
    (w.params.followText "set-order" = true ∨ t.led = true) ∧ L.length * 5 < t.mask * 3 ∧ L.length < 64
def SetTT (P : Program) (w : World) (a : Addr) (L : List (Addr × List Key)) : HO := .ext fun h => Set0 P w h a L
section
variable {P : Program} {w : World} {h : Heap} {a : Addr} {L : List (Addr × List Key)}
theorem SetAt.t0 {es : Array (Int × Value)} {ep : Nat} {t : SetTable} (R : SetAt (mixKind P w) h a L es ep t) : Set0 P w h a L := ⟨es, ep, t, R.ob, R.rows, R.tab, R.nd, R.led, R.room, R.few⟩
theorem Set0.full (R : Set0 P w h a L) (ht : ∀ p ∈ L, IsTupleKey (mixKind P w) h p.2 p.1) : ∃ es ep t, SetAt (mixKind P w) h a L es ep t := by
  obtain ⟨es, ep, t, h1, h2, h3, h4, h6, h7, h8⟩ := R.ex
  exact ⟨es, ep, t, h1, h2, h3, h4, ht, h6, h7, h8⟩
theorem setTT_ok {H : Hp} (R : Set0 P w h a L) : ObjOk P w H h a (SetTT P w a L) := by
  obtain ⟨_, _, _, ⟨o, ho, _⟩, _⟩ := id R.ex
  refine ⟨R, ⟨o, ho⟩, fun h1 h2 p k => ?_⟩
  obtain ⟨es, ep, t, ⟨o2, ho2, r⟩, q⟩ := Set0.ex p
  exact ⟨es, ep, t, ⟨o2, k o2 ho2, r⟩, q⟩
theorem set0_fresh (ho : h.get? a = some { cls := .type "set", dict := none, data := .set #[] 0 (.fresh 0 0 (!w.params.followText "set-order")) }) : Set0 P w h a [] := by
  refine ⟨#[], 0, _, ⟨_, ho, ⟨rfl, rfl, rfl⟩, rfl⟩, rfl, ⟨List.Pairwise.nil, rfl, rfl, .inl rfl, (fun x hx => by cases hx), fun i h j hi => by simp at hi⟩, List.nodup_nil, ?_, by show 0 * 5 < 7 * 3; decide, by show 0 < 64; decide⟩
  show _ ∨ (!w.params.followText "set-order") = true
  cases w.params.followText "set-order" with
  | true => exact .inl rfl
  | false => exact .inr rfl
end
section
variable {X : Cx} {pins : List (Addr × Obj)} {σ : L2.St} {H : Hp} {s : Shared}
theorem inv_tup {b : Addr} {k : List Key} (I : Inv X pins σ H s) (h : SqT X.K H b (k.map kV)) : IsTupleKey (mixKind X.prog X.w) s.heap k b := by
  obtain ⟨its, r, ⟨o, ho, hc, n, hd⟩, _⟩ := I.tuple h
  exact ⟨o, its.toArray, n, ho, hc, hd, by simpa using items_are r⟩
/-- set(), to be filled with tuples -/
def rSet0T (P : Program) (w : World) : List V → Hp → VK → Prop := fun xs H Q => xs = [] ∧ ∀ p, H p = none → Q (.ref p) (upd H p (SetTT P w p []))
theorem cr_set0T : CallR X (.type "set") (rSet0T X.prog X.w) := by
  intro pins s σ H xs us Q I r h
  obtain ⟨rfl, q⟩ := h
  cases r
  refine setR_new fun _ => ?_
  have new : Set0 X.prog X.w (s.heap.push { cls := .type "set", dict := none, data := .set #[] 0 (.fresh 0 0 (!X.w.params.followText "set-order")) }) s.heap.objs.size [] := set0_fresh (Heap.get?_push_size _ rfl)
  exact ⟨.ref _, upd H s.heap.objs.size (SetTT X.prog X.w s.heap.objs.size []), I.laid (t' := s.toks) (fun b u e => Heap.get?_push_of_some _ e) (Nat.le_refl _) (setTT_ok new), rfl, q _ (I.hok.fresh (Nat.le_refl _))⟩
/-- all its tuples stand -/
def TupsIn (K : PySem.W.Frag) (H : Hp) (L : List (Addr × List Key)) : Prop := ∀ p ∈ L, SqT K H p.1 (p.2.map kV)
/-- found.add(t) -/
def rSAddT (K : PySem.W.Frag) (P : Program) (w : World) : V → List V → Hp → VK → Prop := fun x xs H Q => ∃ (a b : Addr) (k : List Key) (L : List (Addr × List Key)), x = V.ref a ∧ xs = [V.ref b] ∧ SqT K H b (k.map kV) ∧ H a = some (SetTT P w a L) ∧ TupsIn K H L ∧ L.length + 1 < 64 ∧
  ∀ L', (k ∈ L.map (·.2) → L' = L) → (k ∉ L.map (·.2) → L'.Perm ((b, k) :: L)) → Q .non (upd H a (SetTT P w a L'))
theorem set_noDict {h : Heap} {a : Addr} {o : Obj} (ho : h.get? a = some o) (hx : o.ExactSet) : ∀ b, Value.ref a = .ref b → ∃ ob, h.get? b = some ob ∧ ob.dict = none := fun b e => by
  cases e
  exact ⟨o, ho, hx.2.1⟩
theorem mt_saddT (hu : X.A.units + 2 < cLine) : MtR X "set.add" (rSAddT X.K X.prog X.w) := by
  intro pins s σ H x xs v us Q I rx rxs h
  obtain ⟨a, b, k, L, rfl, rfl, hb, ha, hL, hf, q⟩ := h
  cases rx
  rw [Vals.ref1 rxs]
  obtain ⟨es, ep, t, R⟩ := ((I.hok a _ ha).1 : Set0 X.prog X.w s.heap a L).full fun p hp => inv_tup I (hL p hp)
  have hk := inv_tup I hb
  obtain ⟨o, ho, hex, hd⟩ := R.ob
  have hT : s.TypeIs (.ref a) "set" := ⟨o, ho, hex.1⟩
  refine wpAny_call_entry F.slot_set_add hT F.entry_set_add ?_ (F.args_set_add_2 _ _)
  unfold Builtin.«set.add» Builtin.Frozenset.oneOther
  simp only [List.isEmpty_nil, bind_assoc]
  unfold Builtin.Frozenset.addrOf setAdd
  refine wpAny_bind (wpAny_pure ?_)
  try dsimp only
  refine wpAny_bind (wpAny_pure ?_)
  try dsimp only
  refine wpAny_bind (wpAny_holding (wpAny_bind (wpAny_pyHash_tuple (by first | omega | (show X.A.units < cLine; omega) | (show X.A.units + 1 < cLine; omega)) hk ?_)))
  refine add_set (s := { s with toks := s.toks + (k.length + 1) }) (plain_mix _ _) R hk (by first | omega | (show X.A.units < cLine; omega) | (show X.A.units + 1 < cLine; omega)) hf fun r h' L' es' ep' t' sb R' c1 c2 => ?_
  show wpAny _ _ (ret Value.none) _ _ _
  refine wpAny_pure ⟨_, rfl, ?_⟩
  obtain ⟨o', ho', _⟩ := R'.ob
  exact ⟨.non, upd H a (SetTT X.prog X.w a L'), I.write (e := a) (t' := s.toks + (k.length + 1)) (by rw [ha]; trivial) (.inl rfl) (fun c u hc e => (sb.2 c hc).trans e) ⟨o', ho'⟩ (setTT_ok R'.t0), rfl, q L' c1 c2⟩
/-- t in found -/
def rSInT (K : PySem.W.Frag) (P : Program) (w : World) : V → V → Hp → VK → Prop := fun x y H Q => ∃ (b a : Addr) (k : List Key) (L : List (Addr × List Key)), x = V.ref b ∧ y = V.ref a ∧ SqT K H b (k.map kV) ∧ H a = some (SetTT P w a L) ∧ TupsIn K H L ∧ ∀ c : Bool, (c = true ↔ k ∈ L.map (fun p : Addr × List Key => p.2)) → Q (.bl c) H
theorem or_sinT (hu : X.A.units + 4 < cLine) : OpR X (compareOp .In) (rSInT X.K X.prog X.w) := by
  intro pins s σ H x y v u Q I rx ry h
  obtain ⟨b, a, k, L, rfl, rfl, hb, ha, hL, q⟩ := h
  cases rx
  cases ry
  obtain ⟨es, ep, t, R⟩ := ((I.hok a _ ha).1 : Set0 X.prog X.w s.heap a L).full fun p hp => inv_tup I (hL p hp)
  have hk := inv_tup I hb
  obtain ⟨o, ho, hex, hd⟩ := R.ob
  have hT : s.TypeIs (.ref a) "set" := ⟨o, ho, hex.1⟩
  show wpAny _ _ (do return Value.bool (← contains (.ref a) (.ref b))) _ _ s
  refine wpAny_bind ?_
  unfold contains
  try with_reducible refine wpAny_holding ?_
  refine wpAny_bind (wpAny_specialOf hT F.slot_set_contains.lookup ?_)
  show wpAny _ _ (if (some (Value.builtin "set.__contains__") == some Value.none) = true then _ else _) _ _ s
  rw [if_neg (by rw [beq_builtin_none]; exact Bool.false_ne_true)]
  refine wpAny_bind (wpAny_callSpecialUnlessNone?_slot (name := Str.ofString "__contains__") hT F.slot_set_contains (wpAny_call_entry F.slot_set_contains hT entry_set_contains ?_ (F.args_set_contains_2 _ _)))
  unfold Builtin.«frozenset.__contains__» Builtin.Frozenset.oneOther
  simp only [List.isEmpty_nil, bind_assoc]
  unfold Builtin.Frozenset.addrOf Builtin.Frozenset.withSetAsKey setContains
  refine wpAny_bind (wpAny_pure ?_)
  try dsimp only
  refine wpAny_bind (wpAny_pure ?_)
  try dsimp only
  refine wpAny_bind (wpAny_tryCatch (wpAny_holding (wpAny_bind (wpAny_pyHash_tuple (by first | omega | (show X.A.units < cLine; omega) | (show X.A.units + 1 < cLine; omega)) hk ?_))))
  refine wpAny_bind (has_set (s := { s with toks := s.toks + (k.length + 1) }) (plain_mix _ _) R hk (by first | omega | (show X.A.units < cLine; omega) | (show X.A.units + 1 < cLine; omega)) fun r hr => ?_)
  refine wpAny_pure ?_
  show wpAny _ _ (ret (Value.bool r.isSome)) _ _ _
  exact wpAny_pure ⟨_, rfl, wpAny_truthy_bool (wpAny_pure ⟨.bl r.isSome, H, I.tok _, rfl, q r.isSome hr⟩)⟩
/-! the method call found.add(e) -/
def tSAddT (K : PySem.W.Frag) (P : Program) (w : World) (to : TE) (t : TA) : TE := fun σ H Q => to σ H fun x H1 => (∃ a L, x = V.ref a ∧ H1 a = some (SetTT P w a L)) ∧ t σ H1 fun xs H2 => rSAddT K P w x xs H2 Q
variable {o e : Expr} {es : List Expr} {to : TE} {t : TA} {apos cpos : Pos}
theorem pe_saddT (hu : X.A.units + 2 < cLine) (ho : PE X o to) (ha : PA X (e :: es) t)
    (hbase : attributeBase o "add" X.env (eval o X.env) = eval o X.env := by rfl)
    (hfew : ((backTo cpos (starEach (e :: es) X.env)).all (fun x => !x.1) && (backToKw cpos (keywordEach [] X.env)).all (fun x => x.1.isSome)
      && decide ((e :: es).length + ([] : List Keyword).length + (if ([] : List Keyword).isEmpty then 0 else 1) < 30)) = true := by rfl)
    (hline : (apos.endLine == cpos.line) = true := by rfl) (hs : starEach (e :: es) X.env = (false, eval e X.env) :: starEach es X.env := by rfl) (hplain : (backTo cpos (starEach es X.env)).any (·.1) = false := by rfl) :
    PE X (.Call (.Attribute o "add" apos) (e :: es) [] cpos) (tSAddT X.K X.prog X.w to t) := by
  refine ⟨fun pins s σ H Q I h => ?_⟩
  refine wpAny_Call_method_late hbase hfew hline rfl (thn (ho.run pins s σ H _ I h) fun v s1 ⟨x, H1, I1, r1, ty, q1⟩ => ?_)
  obtain ⟨a, L, rfl, hka⟩ := ty
  obtain ⟨_, _, _, ⟨o1, ho1, hx1, _⟩, _⟩ := Set0.ex ((I1.hok a _ hka).1 : Set0 X.prog X.w s1.heap a L)
  cases r1
  refine ⟨"set", "set.add", F.plainAttrs_set, F.slot_set_add, F.type_set_add, ⟨o1, ho1, hx1.1⟩, set_noDict ho1 hx1, ?_⟩
  have hA := ha.run cpos pins s1 σ H1 _ I1 q1
  rw [hs] at hA ⊢
  refine Calls.callWith_builtin (by show (false || (backTo cpos (starEach es X.env)).any (·.1)) = false; rw [hplain]; rfl) (Calls.evalArgs_plain ?_)
  exact thn hA fun us s2 ⟨vs, H2, I2, r2, q2⟩ => mt_saddT hu pins s2 σ H2 (.ref a) vs (.ref a) us Q I2 rfl r2 q2
end
/-! ### min, max of two texts; sorted of pairs of texts -/
/-- the lesser of two texts, as Python orders them -/
def ltS (a b : Str) : Bool := decide (a.cps.toList < b.cps.toList)
section
variable {prog : Program} {w : World} {A : Around} {E : Value → Shared → Prop} {s : Shared}
theorem cmp_strs (val : Nat → Str) {Pv : Nat → Value → Prop} (hv : ∀ i v, Pv i v → ∃ t, v = .str (val i) t) : CmpOf prog w A .Lt Pv (fun i j => ltS (val i) (val j)) := fun i j vi vj s Q E hi hj h => by
  obtain ⟨t, rfl⟩ := hv i vi hi
  obtain ⟨u, rfl⟩ := hv j vj hj
  exact richCompare_gives (op := .Lt) (typeIs_str s _ t) (typeIs_str s _ u) F.slot_str_lt F.entry_str_lt (F.args_str_lt_2 _ _) (gives_str_lt _ _ t u) (fun x => nomatch x) h
theorem cmp_strs_gt (val : Nat → Str) {Pv : Nat → Value → Prop} (hv : ∀ i v, Pv i v → ∃ t, v = .str (val i) t) : CmpOf prog w A .Gt Pv (fun i j => ltS (val j) (val i)) := fun i j vi vj s Q E hi hj h => by
  obtain ⟨t, rfl⟩ := hv i vi hi
  obtain ⟨u, rfl⟩ := hv j vj hj
  exact richCompare_gives (op := .Gt) (typeIs_str s _ t) (typeIs_str s _ u) F.slot_str_gt F.entry_str_gt (F.args_str_gt_2 _ _) (gives_str_gt _ _ t u) (fun x => nomatch x) h
/-- two values in a tuple, walked -/
theorem two_walk (hh : A.handled = none) {x y : Value} {op : CmpOp} {bt : Nat → Nat → Bool} {Q : Value → Shared → Prop} (hc : CmpOf prog w A.in1 op (fun i v => (#[x, y] : Array Value)[i]? = some v) bt)
    (q : ∀ h' tk, (∀ c o, s.heap.get? c = some o → h'.get? c = some o) → Q (if bt 1 0 = true then y else x) { s with heap := h', toks := tk }) :
    wpAny (model prog w) A.in1 (pyIter (.ref s.heap.objs.size)) (fun it s₂ => ∃ I fp wr n P St bt', it = .ref I ∧ Walks prog w A.in1 I fp wr n P St ∧ St 0 s₂.heap ∧ (∀ b ∈ fp, b < s₂.heap.objs.size) ∧ 0 < n ∧ CmpOf prog w A.in1 op P bt' ∧
      ∀ v h' tk, P (argBest bt' (n - 1)) v → (∀ b o, b ∉ wr → s₂.heap.get? b = some o → h'.get? b = some o) → Q v { s₂ with heap := h', toks := tk }) E
      { s with heap := s.heap.push { cls := .type "tuple", data := .seq #[x, y] } } := by
  have hT : (s.heap.push { cls := .type "tuple", data := .seq #[x, y] }).IsTuple s.heap.objs.size #[x, y] := ⟨_, Heap.get?_push_size _ rfl, rfl, 0, rfl⟩
  have hsz : (s.heap.push { cls := .type "tuple", data := .seq #[x, y] }).objs.size = s.heap.objs.size + 1 := Heap.size_push ..
  refine wpAny_pyIter_tuple hT ⟨_, [_, s.heap.objs.size], [_], _, _, _, _, rfl, Walks.tuple (A := A.in1) hh _ s.heap.objs.size (by rw [hsz]; exact Nat.ne_of_lt (Nat.lt_succ_self _)) #[x, y], ⟨⟨_, Heap.get?_push_size _ rfl, rfl, rfl⟩, hT.push _⟩, fun c hc2 => ?_, by show 0 < 2; decide, hc, fun v h' tk hP hk => ?_⟩
  · show c < ((s.heap.push _).push _).objs.size
    rw [Heap.size_push, hsz]
    rcases List.mem_cons.mp hc2 with rfl | hc2
    · rw [hsz]; exact Nat.lt_succ_self _
    · rw [List.mem_singleton.mp hc2]; exact Nat.lt_succ_of_lt (Nat.lt_succ_self _)
  · have hv : v = if bt 1 0 = true then y else x := by
      have hP' : (#[x, y] : Array Value)[argBest bt 1]? = some v := hP
      unfold argBest argBest at hP'
      by_cases c : bt 1 0 = true
      · rw [if_pos c] at hP' ⊢
        exact (Option.some.inj hP').symm
      · rw [if_neg c] at hP' ⊢
        exact (Option.some.inj hP').symm
    rw [hv]
    refine q h' tk fun c o e => hk c o (fun hm => ?_) (Heap.get?_push_of_some _ (Heap.get?_push_of_some _ e))
    have hlt := Heap.lt_size e
    rw [List.mem_singleton.mp hm, hsz] at hlt
    exact absurd hlt (Nat.not_lt.mpr (Nat.le_succ _))
end
section
variable {X : Cx}
def kMinS : List V → Hp → VK → Prop := fun xs H Q => ∃ a b : Str, xs = [.str a, .str b] ∧ Q (.str (if ltS b a = true then b else a)) H
def kMaxS : List V → Hp → VK → Prop := fun xs H Q => ∃ a b : Str, xs = [.str a, .str b] ∧ Q (.str (if ltS a b = true then b else a)) H
theorem two_at {a b : Str} {t u : Tok} : ∀ (i : Nat) (v : Value), (#[Value.str a t, Value.str b u] : Array Value)[i]? = some v → ∃ t', v = .str ((#[a, b] : Array Str).getD i a) t'
  | 0, v, h => ⟨t, (Option.some.inj h).symm⟩
  | 1, v, h => ⟨u, (Option.some.inj h).symm⟩
  | i + 2, v, h => by simp at h
theorem call_minS (hc : X.calm = true) : CallR X (.builtin "min") kMinS := by
  intro pins s σ H xs us Q I r h
  obtain ⟨a, b, rfl, q⟩ := h
  obtain ⟨u1, u2, rfl, ⟨t, rfl⟩, ⟨u, rfl⟩⟩ := vals2 r
  refine call_min_two (two_walk (I.ok.hd hc) (cmp_strs (fun i => (#[a, b] : Array Str).getD i a) two_at) fun h' tk k => ?_)
  show EP X pins σ Q (if ltS b a = true then Value.str b u else Value.str a t) _
  by_cases c : ltS b a = true
  · rw [if_pos c] at q ⊢
    exact ⟨.str b, H, I.kept k, ⟨_, rfl⟩, q⟩
  · rw [if_neg c] at q ⊢
    exact ⟨.str a, H, I.kept k, ⟨_, rfl⟩, q⟩
theorem call_maxS (hc : X.calm = true) : CallR X (.builtin "max") kMaxS := by
  intro pins s σ H xs us Q I r h
  obtain ⟨a, b, rfl, q⟩ := h
  obtain ⟨u1, u2, rfl, ⟨t, rfl⟩, ⟨u, rfl⟩⟩ := vals2 r
  refine call_max_two (two_walk (I.ok.hd hc) (cmp_strs_gt (fun i => (#[a, b] : Array Str).getD i a) two_at) fun h' tk k => ?_)
  show EP X pins σ Q (if ltS a b = true then Value.str b u else Value.str a t) _
  by_cases c : ltS a b = true
  · rw [if_pos c] at q ⊢
    exact ⟨.str b, H, I.kept k, ⟨_, rfl⟩, q⟩
  · rw [if_neg c] at q ⊢
    exact ⟨.str a, H, I.kept k, ⟨_, rfl⟩, q⟩
end
/-! pairs of texts in a row -/
def PrsT (K : PySem.W.Frag) (H : Hp) (xs : List V) (ds : List Dr) : Prop := xs.length = ds.length ∧ ∀ (i : Nat) (d : Dr), ds[i]? = some d → ∃ t, xs[i]? = some (.ref t) ∧ SqT K H t [.str d.1, .str d.2]
/-- what a pair is ordered by -/
def keyD (d : Dr) : List (Int ⊕ List Nat) := [.inr d.1.cps.toList, .inr d.2.cps.toList]
/-- d is no greater than e -/
def leD (d e : Dr) : Prop := lexLt itemOrd (keyD e) (keyD d) = false
/-- the tuple at v has these two texts -/
def IsPr (h : Heap) (v : Value) (d : Dr) : Prop := ∃ a o n t u, v = .ref a ∧ h.get? a = some o ∧ o.cls = .type "tuple" ∧ o.data = .seq #[.str d.1 t, .str d.2 u] n
theorem IsPr.uniq {h : Heap} {v : Value} {d e : Dr} (x : IsPr h v d) (y : IsPr h v e) : d = e := by
  obtain ⟨a, o, n, t, u, rfl, h1, _, h3⟩ := x
  obtain ⟨a', o', n', t', u', e1, h1', _, h3'⟩ := y
  cases e1
  rw [h1] at h1'
  cases h1'
  rw [h3] at h3'
  injection h3' with e2 _
  have e3 := congrArg Array.toList e2
  simp only [List.cons.injEq, Value.str.injEq] at e3
  exact Prod.ext e3.1.1 e3.2.1.1
theorem IsPr.key {h : Heap} {v : Value} {d : Dr} (x : IsPr h v d) : PyProof.Rows.G.tupKeyC h (fun _ => true) v = some (keyD d) := by
  obtain ⟨a, o, n, t, u, rfl, h1, h2, h3⟩ := x
  unfold PyProof.Rows.G.tupKeyC
  have e1 : PyProof.Rows.G.isTupObj h (.ref a) = true := by simp [PyProof.Rows.G.isTupObj, h1, h2]
  rw [if_pos e1]
  simp only [tupKey, h1, h3]
  rfl
theorem tups_all {h : Heap} : ∀ {vs : List Value}, (∀ v ∈ vs, ∃ d, IsPr h v d) → ∃ fs, TupsOf h (fun _ => true) vs fs
  | [], _ => ⟨[], .nil⟩
  | v :: vs, hv => by
    obtain ⟨fs, hfs⟩ := tups_all fun y hy => hv y (List.mem_cons_of_mem _ hy)
    obtain ⟨d, a, o, n, t, u, rfl, h1, h2, h3⟩ := hv v List.mem_cons_self
    exact ⟨.str d.1 t :: fs, .cons ⟨a, o, _, n, rfl, h1, h2, h3, rfl, (fun z => by cases z), fun _ => ⟨d.1, t, rfl⟩⟩ hfs⟩
section
variable {X : Cx}
def rSortPr (K : PySem.W.Frag) : List V → Hp → VK → Prop := fun vs H Q => ∃ (a : Addr) (xs : List V) (ds : List Dr) (G0 : Hp), vs = [V.ref a] ∧ Same G0 H ∧ SqL K H a xs ∧ PrsT K G0 xs ds ∧ ds.length ≤ 1000 ∧
  ∀ (ys : List V) (es : List Dr) (p : Addr), PrsT K G0 ys es → es.Perm ds → es.Pairwise leD → H p = none → Q (.ref p) (upd H p (.lst ys))
open Classical in
theorem cr_sortPr : CallR X (.builtin "sorted") (rSortPr X.K) := by
  intro pins s σ H vs us Q I r h
  obtain ⟨a, xs, ds, G0, rfl, g0, hs, hP, hn, q⟩ := h
  obtain ⟨its, rv, hl, hz⟩ := I.list hs
  rw [Vals.ref1 r]
  have hlen := rv.length
  have hxr : ∀ x ∈ xs, ∃ a, x = V.ref a := fun x hx => by
    obtain ⟨i, hi, e⟩ := List.getElem_of_mem hx
    obtain ⟨t, h1, _⟩ := hP.2 i _ (List.getElem?_eq_getElem (by rw [← hP.1]; exact hi))
    rw [List.getElem?_eq_getElem hi, e] at h1
    exact ⟨t, Option.some.inj h1⟩
  obtain ⟨e1, e2⟩ := refs_back rv hxr
  have atI : ∀ (i : Nat) (d : Dr), ds[i]? = some d → ∃ v, its[i]? = some v ∧ IsPr s.heap v d ∧ ∃ t, backV v = .ref t ∧ SqT X.K G0 t [.str d.1, .str d.2] := fun i d hd => by
    obtain ⟨t, h1, h2⟩ := hP.2 i d hd
    obtain ⟨u, hu, ru⟩ := rv.get h1
    cases (show u = Value.ref t from ru)
    obtain ⟨its2, r2, ⟨o, ho, hc, n, hd2⟩, _⟩ := I.tuple (Same.sqt g0 h2)
    obtain ⟨v1, v2, rfl, ⟨t1, rfl⟩, ⟨t2, rfl⟩⟩ := vals2 r2
    exact ⟨.ref t, hu, ⟨t, o, n, t1, t2, rfl, ho, hc, hd2⟩, t, rfl, h2⟩
  have allv : ∀ v ∈ its, ∃ d, IsPr s.heap v d ∧ ∃ t, backV v = .ref t ∧ SqT X.K G0 t [.str d.1, .str d.2] := fun v hv => by
    obtain ⟨i, hi, e⟩ := List.getElem_of_mem hv
    have hi2 : i < ds.length := by rw [← hP.1]; omega
    obtain ⟨v', h1, h2, h3⟩ := atI i _ (List.getElem?_eq_getElem hi2)
    rw [List.getElem?_eq_getElem hi, e] at h1
    cases Option.some.inj h1
    exact ⟨_, h2, h3⟩
  obtain ⟨g, hg⟩ : ∃ g : Value → Dr, ∀ v ∈ its, IsPr s.heap v (g v) ∧ ∃ t, backV v = .ref t ∧ SqT X.K G0 t [.str (g v).1, .str (g v).2] :=
    ⟨fun v => if hv : ∃ d, IsPr s.heap v d ∧ ∃ t, backV v = .ref t ∧ SqT X.K G0 t [.str d.1, .str d.2] then Classical.choose hv else ((""), ("")), fun v hv => by
      have := allv v hv
      simp only [dif_pos this]
      exact Classical.choose_spec this⟩
  have eds : ds = its.map g := by
    refine List.ext_getElem? fun i => ?_
    rw [List.getElem?_map]
    by_cases hi : i < ds.length
    · obtain ⟨v, h1, h2, _⟩ := atI i _ (List.getElem?_eq_getElem hi)
      rw [h1, List.getElem?_eq_getElem hi]
      exact congrArg some (h2.uniq (hg v (List.mem_of_getElem? h1)).1)
    · rw [List.getElem?_eq_none (by omega), List.getElem?_eq_none (by rw [← hlen, hP.1]; omega)]
      rfl
  obtain ⟨fs, hfs⟩ := tups_all fun v hv => ⟨g v, (hg v hv).1⟩
  refine PyProof.Rows.G.sorted_tups hl.isList hfs (fun v hv => ⟨_, (hg v hv).1.key⟩) (by rw [← hlen]; exact hz) fun st hperm hsort _ => ?_
  have hpl : (arrOf st).toList.Perm (its.zip its) := by
    have e := Array.perm_iff_toList_perm.mp hperm
    rw [pairsOf_toList] at e
    exact e
  have hsame : ∀ p ∈ (arrOf st).toList, p.1 = p.2 ∧ p.2 ∈ its := fun p hp => by
    have hm := hpl.mem_iff.mp hp
    obtain ⟨h1, h2⟩ := mem_zip_self hm
    exact ⟨h1, by rw [← h1]; exact h2⟩
  obtain ⟨out, hout⟩ : ∃ out, out = (arrOf st).toList.map Prod.snd := ⟨_, rfl⟩
  have hop : out.Perm its := by
    have h1 := hpl.map Prod.snd
    rw [List.map_snd_zip (Nat.le_refl _)] at h1
    rw [hout]
    exact h1
  have hin : ∀ v ∈ out, v ∈ its := fun v hv => hop.mem_iff.mp hv
  have hsrt : (out.map g).Pairwise leD := by
    rw [List.pairwise_map, List.pairwise_iff_getElem]
    intro i j hi hj hij
    have hlo : out.length = (arrOf st).toList.length := by rw [hout, List.length_map]
    have hjs : j < (arrOf st).size := by rw [← Array.length_toList]; omega
    have hsz : (pairsOf its).size = (arrOf st).size := hperm.size_eq.symm
    have key : ∀ k (hk : k < out.length), KK (PyProof.Rows.G.tupKindC s.heap (fun _ => true)) (arrOf st) k = keyD (g out[k]) := fun k hk => by
      have hk2 : k < (arrOf st).toList.length := by omega
      have e3 : (arrOf st)[k]? = some ((arrOf st).toList[k]) := by rw [← Array.getElem?_toList, List.getElem?_eq_getElem hk2]
      have hm := hsame _ (List.getElem_mem hk2)
      have e4 : out[k] = ((arrOf st).toList[k]).2 := by simp [hout]
      unfold KK
      rw [e3]
      show (PyProof.Rows.G.tupKeyC s.heap (fun _ => true) ((arrOf st).toList[k]).1).getD [] = _
      rw [hm.1, e4, (hg _ hm.2).1.key]
      rfl
    have e := hsort i j (Nat.le_of_lt hij) (by rw [hsz]; exact hjs)
    rw [key i hi, key j hj] at e
    exact e
  have hz2 : (out.map backV).length ≤ sizeLine := by rw [List.length_map, hop.length_eq, ← hlen]; exact hz
  obtain ⟨ep, he'⟩ := PyProof.Rows.sortedAll_at s.heap its ((arrOf st).map (·.2))
  have eo : ((arrOf st).map (·.2)) = out.toArray := by
    apply Array.ext'
    rw [Array.toList_map, hout]
  rw [eo] at he' ⊢
  refine ⟨.ref _, upd H (s.heap.objs.size + 1) (.lst (out.map backV)), I.laid (t' := s.toks) (fun _ _ => PyProof.Rows.sortedAll_old) (Nat.le_succ _) ⟨hz2, out, ep, vals_back fun u hu => e2 u (hin u hu), he'⟩, rfl, q _ (out.map g) _ ⟨by rw [List.length_map, List.length_map], fun i d hd => ?_⟩ (by rw [eds]; exact hop.map g) hsrt (I.hok.fresh (Nat.le_succ _))⟩
  rw [List.getElem?_map] at hd
  cases hv : out[i]? with
  | none => rw [hv] at hd; cases hd
  | some v =>
    rw [hv] at hd
    obtain ⟨_, t, h1, h2⟩ := hg v (hin v (List.mem_of_getElem? hv))
    rw [← Option.some.inj hd]
    exact ⟨t, by rw [List.getElem?_map, hv, ← h1]; rfl, h2⟩
end
/-! ### sorted of a row of texts, list or tuple; pieces that are never come to; either of two readings -/
section
variable {prog : Program} {w : World} {A : Around} {E : Value → Shared → Prop} {s : Shared}
/-- the items of a tuple, in a list of one's own -/
theorem collect_tup {l : Addr} {o : Obj} {vs : List Value} {n : Nat} {Q : List Value → Shared → Prop} (ho : s.heap.get? l = some o) (hc : o.cls = .type "tuple") (hd : o.data = .seq vs.toArray n)
    (q : Q vs { s with heap := (s.heap.push (seqObj "list" #[] 0)).update s.heap.objs.size (Obj.mapSeq (· ++ vs.toArray)) }) (hL : vs.length ≤ sizeLine) : wpAny (model prog w) A (collect (.ref l)) Q E s := by
  have h0 : (s.heap.push (seqObj "list" #[] 0)).get? s.heap.objs.size = some (seqObj "list" #[] 0) := Heap.get?_push_size _ rfl
  have h1 : (s.heap.push (seqObj "list" #[] 0)).get? l = some o := Heap.get?_push_of_some _ ho
  unfold collect
  refine wpAny_bind (wpAny_runValue (codeAny_builtin entry_proto_collect' ?_))
  show wpAny _ _ (do again (.builtin "list.__iadd__" ⟨[← newList [], .ref l], []⟩)) _ _ s
  refine wpAny_bind (wpAny_newList (wpAny_pure ⟨Code.quiet_builtin _ (by decide +kernel), codeAny_builtin entry_list_iadd' ?_⟩))
  show wpAny _ _ (Builtin.List.listExtendWith (.ref s.heap.objs.size) (.ref l) (.ref s.heap.objs.size)) _ _ { s with heap := s.heap.push (seqObj "list" #[] 0) }
  unfold Builtin.List.listExtendWith
  refine wpAny_bind (wpAny_typeOf (T := "tuple") ⟨o, h1, hc⟩ ?_)
  have ht : (Value.type "tuple" == Value.type "tuple") = true := by rfl
  rw [if_pos (by rw [ht]; simp)]
  refine wpAny_bind (listItems_at h1 hd ?_)
  refine wpAny_bind (listItems_at (xs := #[]) (n := 0) h0 rfl ?_)
  rw [if_neg (by simp)]
  refine wpAny_bind (listUpdate_at (xs := #[]) (n := 0) h0 rfl ?_ (Nat.zero_le _) (by show (#[] ++ vs.toArray).size ≤ sizeLine + 1; simp only [Array.size_append, List.size_toArray, List.length_nil]; omega))
  refine wpAny_pure ?_
  show wpAny (model prog w) A (do
      let o ← load s.heap.objs.size
      match o.data with
      | .seq xs _ => pure xs.toList
      | _ => unsupported "internal:collect") Q E { s with heap := (s.heap.push (seqObj "list" #[] 0)).update s.heap.objs.size (Obj.mapSeq (· ++ vs.toArray)) }
  refine wpAny_bind (wpAny_load (get?_update_seq h0 _) ?_)
  show wpAny _ _ (pure ((#[] : Array Value) ++ vs.toArray).toList) Q E _
  rw [show ((#[] : Array Value) ++ vs.toArray).toList = vs by simp]
  exact wpAny_pure q
theorem sorted_tupS {l : Addr} {o : Obj} {vs : List Value} {n : Nat} {ss : List Str} {Q : Value → Shared → Prop} (ho : s.heap.get? l = some o) (hc : o.cls = .type "tuple") (hd : o.data = .seq vs.toArray n) (hS : StrsAre vs ss) (hL : vs.length ≤ sizeLine)
    (q : ∀ (out : Array Value) (ss' : List Str), StrsAre out.toList ss' → ss'.Perm ss → sortedS ss' = true → Q (.ref (s.heap.objs.size + 1)) { s with heap := sortedAll s.heap vs out }) :
    wpAny (model prog w) A (call (.builtin "sorted") [.ref l]) Q E s := by
  refine Calls.call_function_entry kind_sorted plain_sorted entry_sorted (args_sorted1 _) ?_
  unfold Builtin.«sorted»
  refine wpAny_bind (m := checkCount "sorted" 1 1 _) (wpAny_pure ?_)
  refine wpAny_bind (collect_tup ho hc hd ?_ hL)
  refine wpAny_bind (wpAny_newList ?_)
  have hz : ((s.heap.push (seqObj "list" #[] 0)).update s.heap.objs.size (Obj.mapSeq (· ++ vs.toArray))).objs.size = s.heap.objs.size + 1 := by rw [Heap.size_update, size_push']
  have hnew : (((s.heap.push (seqObj "list" #[] 0)).update s.heap.objs.size (Obj.mapSeq (· ++ vs.toArray))).push (seqObj "list" vs.toArray 0)).get? (s.heap.objs.size + 1) = some (seqObj "list" vs.toArray 0) := by
    rw [← hz]
    exact Heap.get?_push_size _ rfl
  show wpAny _ _ _ _ _ { s with heap := ((s.heap.push (seqObj "list" #[] 0)).update s.heap.objs.size (Obj.mapSeq (· ++ vs.toArray))).push (seqObj "list" vs.toArray 0) }
  rw [hz]
  refine wpAny_bind (wpAny_holding (wpAny_call_entry slot_list_sort ⟨_, hnew, rfl⟩ entry_list_sort (list_sort_treeKAny strKind_oneLt hnew hS.keysOf (fun v₁ v₂ rest e => keyKind_strs (by rw [← e]; exact hS)) hL fun st hp hs => ⟨_, rfl, ?_⟩) (args_list_sort _)))
  obtain ⟨ss', b1, b2, b3⟩ := sorted_out_str hS hp hs
  exact wpAny_pure ⟨_, rfl, q _ ss' b1 b2 b3⟩
end
/-! sorted of texts in a list or a tuple -/
section
variable {X : Cx}
def rSortedQ (K : PySem.W.Frag) : List V → Hp → VK → Prop := fun vs H Q => ∃ (a : Addr) (xs : List Str), vs = [V.ref a] ∧ (SqL K H a (xs.map V.str) ∨ SqT K H a (xs.map V.str)) ∧ xs.length < 64 ∧
  ∀ (ys : List Str) (p : Addr), ys.Perm xs → sortedS ys = true → H p = none → Q (.ref p) (upd H p (.lst (ys.map V.str)))
theorem cr_sortedQ : CallR X (.builtin "sorted") (rSortedQ X.K) := by
  intro pins s σ H vs us Q I r h
  obtain ⟨a, xs, rfl, hs | hs, h64, q⟩ := h
  · exact cr_sortedS pins s σ H _ us Q I r ⟨a, xs, rfl, hs, h64, q⟩
  · obtain ⟨its, rv, ⟨o, ho, hc, n, hd⟩, hz⟩ := I.tuple hs
    rw [Vals.ref1 r]
    have hlen0 := rv.length
    rw [List.length_map] at hlen0
    refine sorted_tupS ho hc hd rv.strs (by rw [sizeLine_eq]; omega) fun out ys h1 h2 h3 => ?_
    obtain ⟨ep, he'⟩ := PyProof.Rows.sortedAll_at s.heap its out
    have hlen : (ys.map V.str).length ≤ sizeLine := by rw [List.length_map, h2.length_eq]; exact small64 h64
    exact ⟨.ref _, upd H (s.heap.objs.size + 1) (.lst (ys.map V.str)), I.laid (t' := s.toks) (fun _ _ => PyProof.Rows.sortedAll_old) (Nat.le_succ _) ⟨hlen, out.toList, ep, vals_of_strs h1, he'⟩, rfl, q ys _ h2 h3 (I.hok.fresh (Nat.le_succ _))⟩
/-! never come to; one of two -/
theorem ps_never {st : Stmt} : PS X st (fun _ _ _ => False) := ⟨fun _ _ _ _ _ _ h => h.elim⟩
def tEith (t u : TE) : TE := fun σ H Q => t σ H Q ∨ u σ H Q
def iEith (t u : TI) : TI := fun σ H R => t σ H R ∨ u σ H R
theorem pi_eith {tg it : Expr} {t u : TI} (h : PI X tg it t) (h' : PI X tg it u) : PI X tg it (iEith t u) := ⟨fun pins s σ H R I x => x.elim (fun x => h.run pins s σ H R I x) (fun x => h'.run pins s σ H R I x)⟩
def gEith (t u : TG) : TG := fun v σ H Q => t v σ H Q ∨ u v σ H Q
theorem pg_eith {tg : Expr} {t u : TG} (h : PG X tg t) (h' : PG X tg u) : PG X tg (gEith t u) := ⟨fun pins s σ H v u Q I r x => x.elim (fun x => h.run pins s σ H v u Q I r x) (fun x => h'.run pins s σ H v u Q I r x)⟩
end
theorem k_sortedQ {X : Cx} {K : PySem.W.Frag} (e : X.K = K) : CallR X (.builtin "sorted") (rSortedQ K) := by subst e; exact cr_sortedQ
theorem k_sortPr {X : Cx} {K : PySem.W.Frag} (e : X.K = K) : CallR X (.builtin "sorted") (rSortPr K) := by subst e; exact cr_sortPr
theorem k_all {X : Cx} {K : PySem.W.Frag} (e : X.K = K) (hc : X.calm = true) : CallR X (.builtin "all") (rAll K) := by subst e; exact cr_all hc
theorem k_isiT {X : Cx} {K : PySem.W.Frag} (e : X.K = K) : CallR X (.builtin "isinstance") (rIsiT K) := by subst e; exact call_isiT
/-! ### instances: fields, methods, making; the written part named -/
section
variable {X : Cx} {K : PySem.W.Frag} {P : Program} {w : World} {o e value : Expr} {es : List Expr} {f : Str} {pos pos' apos cpos p1 p2 : Pos} {ta tv to : TE} {t : TA} {C : Addr}
theorem k_fld (h : X.K = K) (he : PE X e ta) (hb : attributeBase e f X.env (eval e X.env) = eval e X.env := by rfl) : PE X (.Attribute e f pos) (tFld K ta f) := h ▸ pe_fld he hb
theorem k_ps_fld (h : X.K = K) (ha : PE X o ta) (hv : PE X value tv) (hs : swapsWith value (some (.Attribute o f pos')) pos.line X.env = pure false := by rfl) : PS X (.Assign [.Attribute o f pos'] value pos) (sFld K ta tv f) := h ▸ ps_fld ha hv hs
/-! sets -/
theorem k_set0K (hp : X.prog = P) (hw : X.w = w) : CallR X (.type "set") (rSet0K P w) := by subst hp hw; exact cr_set0K
theorem k_set0T (hp : X.prog = P) (hw : X.w = w) : CallR X (.type "set") (rSet0T P w) := by subst hp hw; exact cr_set0T
theorem k_sinK (hp : X.prog = P) (hw : X.w = w) : OpR X (compareOp .In) (rSInK P w false) := by subst hp hw; exact or_sinK
theorem k_sinT (h : X.K = K) (hp : X.prog = P) (hw : X.w = w) (hu : X.A.units + 4 < cLine) : OpR X (compareOp .In) (rSInT K P w) := by subst h hp hw; exact or_sinT hu
theorem k_saddK (hp : X.prog = P) (hw : X.w = w) (ho : PE X o to) (ha : PA X (e :: es) t)
    (hbase : attributeBase o "add" X.env (eval o X.env) = eval o X.env := by rfl)
    (hfew : ((backTo cpos (starEach (e :: es) X.env)).all (fun x => !x.1) && (backToKw cpos (keywordEach [] X.env)).all (fun x => x.1.isSome)
      && decide ((e :: es).length + ([] : List Keyword).length + (if ([] : List Keyword).isEmpty then 0 else 1) < 30)) = true := by rfl)
    (hline : (apos.endLine == cpos.line) = true := by rfl) (hs : starEach (e :: es) X.env = (false, eval e X.env) :: starEach es X.env := by rfl) (hplain : (backTo cpos (starEach es X.env)).any (·.1) = false := by rfl) :
    PE X (.Call (.Attribute o "add" apos) (e :: es) [] cpos) (tSAddK P w to t) := by subst hp hw; exact pe_saddK ho ha hbase hfew hline hs hplain
theorem k_saddT (h : X.K = K) (hp : X.prog = P) (hw : X.w = w) (hu : X.A.units + 2 < cLine) (ho : PE X o to) (ha : PA X (e :: es) t)
    (hbase : attributeBase o "add" X.env (eval o X.env) = eval o X.env := by rfl)
    (hfew : ((backTo cpos (starEach (e :: es) X.env)).all (fun x => !x.1) && (backToKw cpos (keywordEach [] X.env)).all (fun x => x.1.isSome)
      && decide ((e :: es).length + ([] : List Keyword).length + (if ([] : List Keyword).isEmpty then 0 else 1) < 30)) = true := by rfl)
    (hline : (apos.endLine == cpos.line) = true := by rfl) (hs : starEach (e :: es) X.env = (false, eval e X.env) :: starEach es X.env := by rfl) (hplain : (backTo cpos (starEach es X.env)).any (·.1) = false := by rfl) :
    PE X (.Call (.Attribute o "add" apos) (e :: es) [] cpos) (tSAddT K P w to t) := by subst h hp hw; exact pe_saddT hu ho ha hbase hfew hline hs hplain
theorem k_pg_unl {es : List Expr} {k : Nat} {t : TGs} {n : Nat} (h : X.K = K) (hc : X.calm = true) (hg : PGs X es t)
    (hn : (assignEach es X.env).length = n := by rfl) (hst : (assignEach es X.env).findIdx? (·.1) = none := by rfl) : PG X (.Tuple es k pos) (gUnl K n t) := h ▸ pg_unl hc hg hn hst
end
/-! a method, a class by their promises -/
def Dm (P : Program) (w : World) (K : PySem.W.Frag) (mg : Str → Option Value) (base : Heap) (CX : CXT) (k : Nat) (C : Addr) (m : Str) (ps : List Str) (sp : Sp) : Prop :=
  ∃ f fd, Meth K C m f ∧ FnOk P w K mg base CX k f fd ps sp ∧ Binds K fd ps []
def Dk (P : Program) (w : World) (K : PySem.W.Frag) (mg : Str → Option Value) (base : Heap) (CX : CXT) (k : Nat) (x : Str) (C : Addr) (ps : List Str) (sp : Sp) : Prop :=
  ∃ f fd, Mk K C f ∧ FnOk P w K mg base CX k f fd ps sp ∧ mg x = some (.ref C) ∧ Binds K fd ps []
section
variable {X : Cx} {CX : CXT} {k k' : Nat} {C : Addr} {ps : List Str} {sp : Sp} {E : XK} {x m : Str} {p pos apos : Pos} {o e : Expr} {es : List Expr} {ta : TE} {t : TA}
theorem pe_dm {pl : Sem Bool} (F : Dm X.prog X.w X.K X.mg X.base CX k C m ps sp) (c : Cls X.K C) (hr : Room k' X.A) (hx : Passes CX X E) (he : PE X o ta) (ha : PA X (e :: es) t) (hk : k ≤ k' := by decide)
    (hst : starEach (e :: es) X.env = (false, eval e X.env) :: starEach es X.env := by rfl) (hpl : (backTo pos (starEach es X.env)).any (·.1) = false := by rfl)
    (ht : eval (.Call (.Attribute o m apos) (e :: es) [] pos) X.env = (do
      let ov ← eval o X.env
      standAt apos.atName
      let (f, first) ← holding [ov] (getMethod ov m pl)
      callWith pos f first (backTo pos (starEach (e :: es) X.env)) (backToKw pos (keywordEach [] X.env))) := by rfl) :
    PE X (.Call (.Attribute o m apos) (e :: es) [] pos) (tMeth C m sp [] E ta t) := by
  obtain ⟨f, fd, hm, F, hb⟩ := F
  exact pe_meth (pl := pl) he c hm F (hr.mono hk) hb .nil hx ha hst hpl ht
theorem pe_dm0 {pl : Sem Bool} (F : Dm X.prog X.w X.K X.mg X.base CX k C m ps sp) (c : Cls X.K C) (hr : Room k' X.A) (hx : Passes CX X E) (he : PE X o ta) (hk : k ≤ k' := by decide)
    (ht : eval (.Call (.Attribute o m apos) [] [] pos) X.env = (do
      let ov ← eval o X.env
      standAt apos.atName
      let (f, first) ← holding [ov] (getMethod ov m pl)
      callWith pos f first (backTo pos (starEach [] X.env)) (backToKw pos (keywordEach [] X.env))) := by rfl) :
    PE X (.Call (.Attribute o m apos) [] [] pos) (tMeth C m sp [] E ta tNil) := by
  obtain ⟨f, fd, hm, F, hb⟩ := F
  exact pe_meth0 (pl := pl) he c hm F (hr.mono hk) hb .nil hx ht
theorem pe_dk (F : Dk X.prog X.w X.K X.mg X.base CX k x C ps sp) (hr : Room k' X.A) (hg : Gl X x) (hx : Passes CX X E) (ha : PA X (e :: es) t) (hk : k + 1 ≤ k' := by decide)
    (hdb : (x == ("__debug__" : Str)) = false := by decide) (he : starEach (e :: es) X.env = (false, eval e X.env) :: starEach es X.env := by rfl) (hpl : (backTo pos (starEach es X.env)).any (·.1) = false := by rfl) :
    PE X (.Call (.Name x p) (e :: es) [] pos) (tMake C sp [] E t) := by
  obtain ⟨f, fd, M, F, hm, hb⟩ := F
  exact pe_make M F (hr.mono hk) hg hm hb .nil hx ha hdb he hpl
end
/-! readings -/
section
variable {K : PySem.W.Frag} {P : Program} {w : World} {σ : L2.St} {H : Hp} {Q : VK} {D : Ends} {ta tv to : TE} {t : TA} {f m : Str} {C a dx : Addr} {sp : Sp} {E : XK} {fs : List (Str × V)} {v : V}
theorem r_fld (h : ta σ H fun x H1 => ∃ a C dx fs v, x = .ref a ∧ H1 a = some (.ins C dx fs) ∧ Cls K C ∧ NoAttr K C f ∧ fs.lookup f = some v ∧ Q v H1) : tFld K ta f σ H Q := h
theorem r_fld' {R : V → Prop} (h : H a = some (.ins C dx fs)) (c : Cls K C) (n : NoAttr K C f) (l : fs.lookup f = some v) (q : R v) : ∃ a' C dx fs v, V.ref a = .ref a' ∧ H a' = some (.ins C dx fs) ∧ Cls K C ∧ NoAttr K C f ∧ fs.lookup f = some v ∧ R v := ⟨a, C, dx, fs, v, rfl, h, c, n, l, q⟩
theorem r_sfld (h : tv σ H fun y H1 => ta σ H1 fun x H2 => ∃ a C dx fs, x = .ref a ∧ H2 a = some (.ins C dx fs) ∧ Cls K C ∧ NoAttr K C f ∧ fs.length < 1000 ∧ D.nx σ (upd H2 a (.ins C dx (putF f y fs)))) : sFld K ta tv f D σ H := h
theorem r_meth (h : ta σ H fun x H1 => ∃ a dx fs, x = .ref a ∧ H1 a = some (.ins C dx fs) ∧ fs.lookup m = none ∧ t σ H1 fun vs H2 => sp (x :: (vs ++ [])) H2 Q E) : tMeth C m sp [] E ta t σ H Q := h
theorem r_make (h : t σ H fun vs H1 => ∀ x dx, H1 x = none → H1 dx = none → dx ≠ x → sp (.ref x :: (vs ++ [])) (upd (upd H1 dx (.own x)) x (.ins C dx [])) (fun v H2 => v = .non ∧ Q (.ref x) H2) E) : tMake C sp [] E t σ H Q := h
theorem r_saddK (h : to σ H fun x H1 => (∃ a S n, x = V.ref a ∧ H1 a = some (SetK P w a S n)) ∧ t σ H1 fun xs H2 => rSAddK P w x xs H2 Q) : tSAddK P w to t σ H Q := h
theorem r_saddT (h : to σ H fun x H1 => (∃ a L, x = V.ref a ∧ H1 a = some (SetTT P w a L)) ∧ t σ H1 fun xs H2 => rSAddT K P w x xs H2 Q) : tSAddT K P w to t σ H Q := h
end
/-! ### readings: a comprehension over a text, a chain, isinstance -/
section
variable {K : PySem.W.Frag} {σ : L2.St} {G H : Hp} {Q : VK} {D : Ends} {te tl ta tb tc : TE} {g : TG} {tt : TT} {vs : List Nat} {r r' : R2} {a tp : Addr} {z : Str} {xs cs : List V}
theorem r_chain (h : ta σ H fun x H1 => tb σ H1 fun y H2 => r x y H2 fun z H3 => ∃ k, z = .bl k ∧ (if k = true then tc σ H3 fun w' H4 => r' y w' H4 Q else Q (.bl false) H3)) : tChain r r' ta tb tc σ H Q := h
theorem r_lcS (h : tl σ H fun x H1 => ∃ z, x = .str z ∧ LcJ g tt te vs σ Q (Its z) H1) : tLc (iStr tl) g tt te vs σ H Q := h
theorem lcS {M : Addr → Prop} (hn : z.cps.size < 2 ^ 20) (g0 : Same G H) (Pv : Nat → List V → Hp → Hp → Prop)
    (h0 : ∀ L, H L = none → Pv 0 [] G (upd H L (.lst [])))
    (hst : ∀ L (i : Nat) (c : Nat) acc G' H' (Em : V → Hp → Prop) (Sk : Hp → Prop), i < z.cps.size → H L = none → H' L = some (.lst acc) → G' L = none → acc.length ≤ i → Stp M G H G' H' → Pv i acc G' H' → z.cps[i]? = some c →
      (∀ y G2 H2, Stp M G H G2 H2 → H2 L = some (.lst acc) → G2 L = none → Pv (i + 1) (acc ++ [y]) G2 (upd H2 L (.lst (acc ++ [y]))) → Em y H2) →
      (∀ G2 H2, Stp M G H G2 H2 → H2 L = some (.lst acc) → G2 L = none → Pv (i + 1) acc G2 H2 → Sk H2) →
      g (.str ⟨#[c]⟩) (wipe σ vs) H' fun σ2 H2 => wipe σ2 vs = wipe σ vs ∧ tt σ2 H2 fun b H3 => if b = true then te σ2 H3 Em else Sk H3)
    (hd : ∀ L acc G' H', H L = none → acc.length ≤ z.cps.size → Stp M G H G' H' → H' L = some (.lst acc) → G' L = none → Pv z.cps.size acc G' H' → Q (.ref L) H') :
    ∃ z', V.str z = .str z' ∧ LcJ g tt te vs σ Q (Its z') H :=
  ⟨z, rfl, lc_by (M := M) (Y := fun i v => ∃ c, z.cps[i]? = some c ∧ v = .str ⟨#[c]⟩) walk_str hn g0 Pv h0 (fun _ _ _ _ _ _ _ => trivial)
    (fun L i x acc G' H' Em Sk h1 h2 h3 h4 h5 h6 h7 h8 h9 h10 => by obtain ⟨c, hc, rfl⟩ := h8; exact hst L i c acc G' H' Em Sk h1 h2 h3 h4 h5 h6 h7 hc h9 h10) hd⟩
theorem c_isiS (q : Q (.bl true) H) : rIsi K [.str z, .ty "str"] H Q := ⟨_, _, .type "str", .type "str", true, rfl, .ty _, .base (.str z), kit_ty (by decide +kernel), q⟩
theorem ty_lst (h : SqL K H a xs) : TyX K H (.ref a) (.type "list") := by
  rcases h with h | ⟨o, its, n, h1, h2, _⟩
  · rcases h with h | ⟨o, h⟩
    · exact .base (.lst h)
    · exact .base (.frz h)
  · exact .kList h1 h2
theorem ty_tup (h : SqT K H a xs) : TyX K H (.ref a) (.type "tuple") := by
  rcases h with h | ⟨o, its, n, h1, h2, _⟩
  · rcases h with h | ⟨o, h⟩
    · exact .base (.tup h)
    · exact .fTuple h
  · exact .kTuple h1 h2
/-- isinstance(x, (list, tuple)) of a list or a tuple -/
theorem c_isiLT (h : SqL K H a xs ∨ SqT K H a xs) (hT : H tp = some (.tup [.ty "list", .ty "tuple"])) (q : Q (.bl true) H) : rIsiT K [.ref a, .ref tp] H Q := by
  have hp : Paired ClsV [.ty "list", .ty "tuple"] [Value.type "list", Value.type "tuple"] := .cons (.ty _) (.cons (.ty _) .nil)
  rcases h with h | h
  · exact ⟨_, tp, _, _, _, true, rfl, hT, hp, ty_lst h, kitAny_cons (b := true) (kit_ty (by decide +kernel)) (fun z => by cases z) (fun _ => rfl), q⟩
  · exact ⟨_, tp, _, _, _, true, rfl, hT, hp, ty_tup h, kitAny_cons (b := false) (kit_ty (by decide +kernel)) (fun _ => kitAny_cons (b := true) (kit_ty (by decide +kernel)) (fun z => by cases z) (fun _ => rfl)) (fun z => by cases z), q⟩
theorem c_allB {bs : List Bool} (h : SqL K H a (bs.map V.bl)) (q : Q (.bl (bs.all id)) H) : rAll K [.ref a] H Q := ⟨a, bs, rfl, h, q⟩
/-- of a row known beforehand -/
theorem forQ' {p : Addr} {tb : TS} (htl : ∀ R : VK, R (.ref p) H → tl σ H R) (g0 : Same G H) (hs : SqL K G p xs ∨ SqT K G p xs) (Pv : Nat → L2.St → Hp → Prop) (h0 : Pv 0 σ H) (hG : ∀ i σ H, i ≤ xs.length → Pv i σ H → Same G H)
    (hst : ∀ i x σ H, i < xs.length → xs[i]? = some x → Pv i σ H → g x σ H fun σ2 H2 => tb { D with nx := Pv (i + 1), ct := Pv (i + 1), bk := D.nx } σ2 H2) (hd : ∀ σ H, Pv xs.length σ H → D.nx σ H) :
    tFor (iEith (iList K tl) (iTup K tl)) g tb D σ H := by
  rcases hs with hs | hs
  · exact .inl (htl _ (loopL (g0.seq hs) Pv h0 (fun i σ H a b => (hG i σ H a b).seq hs) hst hd))
  · exact .inr (htl _ (loopT (Same.sqt g0 hs) Pv h0 (fun i σ H a b => Same.sqt (hG i σ H a b) hs) hst hd))
end
/-! ### pairs of texts handed in: each a list or a tuple; the lesser ahead -/
def SqQ (K : PySem.W.Frag) (H : Hp) (a : Addr) (xs : List V) : Prop := SqL K H a xs ∨ SqT K H a xs
theorem SqQ.same {K : PySem.W.Frag} {G H : Hp} {a : Addr} {xs : List V} (h : SqQ K G a xs) (g : Same G H) : SqQ K H a xs := h.elim (fun h => .inl (g.seq h)) (fun h => .inr (Same.sqt g h))
def PrsQ (K : PySem.W.Frag) (H : Hp) (xs : List V) (ds : List Dr) : Prop := xs.length = ds.length ∧ ∀ (i : Nat) (d : Dr), ds[i]? = some d → ∃ t, xs[i]? = some (.ref t) ∧ SqQ K H t [.str d.1, .str d.2]
theorem PrsQ.same {K : PySem.W.Frag} {G H : Hp} {xs : List V} {ds : List Dr} (h : PrsQ K G xs ds) (g : Same G H) : PrsQ K H xs ds :=
  ⟨h.1, fun i d e => by obtain ⟨t, e1, e2⟩ := h.2 i d e; exact ⟨t, e1, e2.same g⟩⟩
theorem PrsT.same {K : PySem.W.Frag} {G H : Hp} {xs : List V} {ds : List Dr} (h : PrsT K G xs ds) (g : Same G H) : PrsT K H xs ds :=
  ⟨h.1, fun i d e => by obtain ⟨t, e1, e2⟩ := h.2 i d e; exact ⟨t, e1, Same.sqt g e2⟩⟩
theorem PrsQ.nil {K : PySem.W.Frag} {H : Hp} : PrsQ K H [] [] := ⟨rfl, fun i d h => by simp at h⟩
theorem PrsT.nil {K : PySem.W.Frag} {H : Hp} : PrsT K H [] [] := ⟨rfl, fun i d h => by simp at h⟩
theorem snoc_at {α : Type} {l : List α} {x d : α} {i : Nat} (h : (l ++ [x])[i]? = some d) : l[i]? = some d ∧ i < l.length ∨ i = l.length ∧ d = x := by
  by_cases hl : i < l.length
  · rw [List.getElem?_append_left hl] at h
    exact .inl ⟨h, hl⟩
  · rw [List.getElem?_append_right (by omega)] at h
    have e0 : i - l.length = 0 := by
      rcases Nat.eq_zero_or_pos (i - l.length) with z | z
      · exact z
      · rw [List.getElem?_eq_none (by simp; omega)] at h; cases h
    rw [e0] at h
    exact .inr ⟨by omega, (Option.some.inj h).symm⟩
theorem PrsQ.snoc {K : PySem.W.Frag} {H : Hp} {xs : List V} {ds : List Dr} {t : Addr} {d : Dr} (h : PrsQ K H xs ds) (e : SqQ K H t [.str d.1, .str d.2]) : PrsQ K H (xs ++ [.ref t]) (ds ++ [d]) := by
  refine ⟨by rw [List.length_append, List.length_append, h.1]; rfl, fun i d' hi => ?_⟩
  rcases snoc_at hi with ⟨h1, h2⟩ | ⟨rfl, rfl⟩
  · obtain ⟨t', e1, e2⟩ := h.2 i d' h1
    exact ⟨t', by rw [List.getElem?_append_left (by rw [h.1]; exact h2)]; exact e1, e2⟩
  · exact ⟨t, by rw [List.getElem?_append_right (by rw [h.1]; exact Nat.le_refl _), h.1, Nat.sub_self]; rfl, e⟩
theorem PrsT.snoc {K : PySem.W.Frag} {H : Hp} {xs : List V} {ds : List Dr} {t : Addr} {d : Dr} (h : PrsT K H xs ds) (e : SqT K H t [.str d.1, .str d.2]) : PrsT K H (xs ++ [.ref t]) (ds ++ [d]) := by
  refine ⟨by rw [List.length_append, List.length_append, h.1]; rfl, fun i d' hi => ?_⟩
  rcases snoc_at hi with ⟨h1, h2⟩ | ⟨rfl, rfl⟩
  · obtain ⟨t', e1, e2⟩ := h.2 i d' h1
    exact ⟨t', by rw [List.getElem?_append_left (by rw [h.1]; exact h2)]; exact e1, e2⟩
  · exact ⟨t, by rw [List.getElem?_append_right (by rw [h.1]; exact Nat.le_refl _), h.1, Nat.sub_self]; rfl, e⟩
def ris (d : Dr) : Dr := (if ltS d.2 d.1 = true then d.2 else d.1, if ltS d.1 d.2 = true then d.2 else d.1)
def kD (d : Dr) : List Key := [.inr d.1, .inr d.2]
theorem kD_inj {d e : Dr} (h : kD d = kD e) : d = e := by
  unfold kD at h
  injection h with h1 h2
  injection h2 with h2 _
  exact Prod.ext (Sum.inr.inj h1) (Sum.inr.inj h2)
theorem lt_u4 {n : Nat} (h : n + 64 < cLine) : n + 4 < cLine := by omega
theorem lt_u2 {n : Nat} (h : n + 64 < cLine) : n + 2 < cLine := by omega
section
variable {K : PySem.W.Frag} {H : Hp} {Q : VK} {p : Addr} {xs : List V} {v : V} {i : Int} {n : Nat} {zs : List Str} {z : Str}
theorem r_inQ (h : SqQ K H p (zs.map V.str)) (q : Q (.bl (decide (z ∈ zs))) H) : rIn K false (.str z) (.ref p) H Q := h.elim (fun h => r_inL h q) (fun h => r_inT h q)
theorem c_minS {a b : Str} (q : Q (.str (if ltS b a = true then b else a)) H) : kMinS [.str a, .str b] H Q := ⟨a, b, rfl, q⟩
theorem c_maxS {a b : Str} (q : Q (.str (if ltS a b = true then b else a)) H) : kMaxS [.str a, .str b] H Q := ⟨a, b, rfl, q⟩
end
/-! ### dicts by names; a dict comprehension over names -/
def kvs (rs : List Str) (vs : List V) : List (Key × V) := (rs.zip vs).map fun p => (.inr p.1, p.2)
theorem kvs_snoc {rs : List Str} {vs : List V} {z : Str} {y : V} (h : vs.length = rs.length) : kvs (rs ++ [z]) (vs ++ [y]) = kvs rs vs ++ [(.inr z, y)] := by
  unfold kvs
  rw [List.zip_append h.symm, List.map_append]
  rfl
theorem kvs_put {rs : List Str} {vs : List V} {z : Str} {y : V} (hz : z ∉ rs) : putK (kvs rs vs) (.inr z : Key) y = kvs rs vs ++ [(.inr z, y)] := by
  unfold putK
  rw [if_neg]
  intro h
  obtain ⟨p, hp, e⟩ := List.any_eq_true.mp h
  obtain ⟨q, hq, rfl⟩ := List.mem_map.mp hp
  have e' := Sum.inr.inj (of_decide_eq_true e)
  exact hz (e' ▸ (List.of_mem_zip hq).1)
theorem kvs_len {rs : List Str} {vs : List V} (h : vs.length = rs.length) : (kvs rs vs).length = rs.length := by unfold kvs; rw [List.length_map, List.length_zip, h, Nat.min_self]
theorem kvs_get : ∀ {rs : List Str} {vs : List V} {i : Nat} {z : Str} {v : V}, rs.Nodup → rs[i]? = some z → vs[i]? = some v → valV (kvs rs vs) (.inr z : Key) = some v
  | [], _, i, z, v, _, h, _ => by simp at h
  | r :: rs, [], i, z, v, _, _, h => by simp at h
  | r :: rs, u :: vs, 0, z, v, _, h1, h2 => by
    cases Option.some.inj h1
    cases Option.some.inj h2
    exact valV_pos rfl
  | r :: rs, u :: vs, i + 1, z, v, hn, h1, h2 => by
    have h1' : rs[i]? = some z := h1
    have hne : r ≠ z := fun e => (List.nodup_cons.mp hn).1 (e ▸ List.mem_of_getElem? h1')
    exact (valV_neg (kne hne)).trans (kvs_get (List.nodup_cons.mp hn).2 h1' h2)
theorem take_nodup_not {α : Type} {l : List α} (h : l.Nodup) {i : Nat} {z : α} (e : l[i]? = some z) : z ∉ l.take i := by
  intro m
  obtain ⟨j, hj, ej⟩ := List.mem_iff_getElem.mp m
  rw [List.length_take] at hj
  rw [List.getElem_take] at ej
  have hi : i < l.length := (List.getElem?_eq_some_iff.mp e).1
  have ei := (List.getElem?_eq_some_iff.mp e).2
  have := (List.getElem_inj (h₀ := by omega) (h₁ := hi) h).mp (ej.trans ei.symm)
  omega
section
variable {K : PySem.W.Frag} {σ : L2.St} {G H : Hp} {Q : VK} {tl tk tv : TE} {g : TG} {tt : TT} {own : List Nat} {p : Addr} {rs : List Str} {M : Addr → Prop}
theorem dcN (htl : ∀ R : VK, R (.ref p) H → tl σ H R) (hs : SqT K G p (rs.map V.str)) (hnd : rs.Nodup) (hl : rs.length < 64) (g0 : Same G H) (Pv : Nat → List V → Hp → Hp → Prop)
    (h0 : ∀ D, H D = none → Pv 0 [] G (upd H D (.dK [])))
    (hst : ∀ D i z vs G' H' (Em : V → V → Hp → Prop) (Sk : Hp → Prop), rs[i]? = some z → H D = none → H' D = some (.dK (kvs (rs.take i) vs)) → G' D = none → vs.length = i → Stp M G H G' H' → Pv i vs G' H' →
      (∀ y G2 H2, Stp M G H G2 H2 → H2 D = some (.dK (kvs (rs.take i) vs)) → G2 D = none → Pv (i + 1) (vs ++ [y]) G2 (upd H2 D (.dK (kvs (rs.take (i + 1)) (vs ++ [y])))) → Em (.str z) y H2) →
      g (.str z) (wipe σ own) H' fun σ2 H2 => wipe σ2 own = wipe σ own ∧ tt σ2 H2 fun b H3 => if b = true then tk σ2 H3 fun y H4 => tv σ2 H4 fun v H5 => Em y v H5 else Sk H3)
    (hd : ∀ D vs G' H', H D = none → vs.length = rs.length → Stp M G H G' H' → H' D = some (.dK (kvs rs vs)) → G' D = none → Pv rs.length vs G' H' → Q (.ref D) H') :
    tDc (iTup K tl) g tt tk tv own σ H Q := by
  refine htl _ ⟨p, rfl, ⟨_, Same.sqt g0 hs⟩, fun D hD => ?_⟩
  refine dc_tup (xs := rs.map V.str) (fun i H' => ∃ vs G', vs.length = i ∧ H' D = some (.dK (kvs (rs.take i) vs)) ∧ G' D = none ∧ Stp M G H G' H' ∧ Pv i vs G' H') ⟨[], G, rfl, upd_same, none_of g0 hD, Stp.newM g0 hD, h0 D hD⟩
    (fun i H' _ pv => ?_) (fun i x H' hx pv => ?_) (fun H' pv => ?_)
  · obtain ⟨_, G', _, _, _, st, _⟩ := pv
    exact Same.sqt (st.gg.trans st.gh) hs
  · obtain ⟨vs, G', hv, hDk, gD, st, pv⟩ := pv
    obtain ⟨z, hz, rfl⟩ := map_get hx
    have hi : i < rs.length := (List.getElem?_eq_some_iff.mp hz).1
    have htl2 : (rs.take i).length = i := by rw [List.length_take]; omega
    refine hst D i z vs G' H' _ _ hz hD hDk gD hv st pv (fun y G2 H2 st2 hD2 gD2 pv2 => ?_)
    refine ⟨_, .inr z, rfl, hD2, by rw [kvs_len (by rw [hv, htl2])]; rw [htl2, sizeLine_eq]; omega, ?_⟩
    rw [kvs_put (take_nodup_not hnd hz), ← kvs_snoc (by rw [hv, htl2]), ← take_succ_get hz]
    refine ⟨vs ++ [y], G2, by rw [List.length_append, hv]; rfl, upd_same, gD2, ?_, pv2⟩
    exact ⟨fun a o m z => by rw [upd_ne (ne_of_none z hD)]; exact st2.up a o m z, st2.gg, fun a o z => by rw [upd_ne (ne_of_none z gD2)]; exact st2.gh a o z, st2.fr', fun a o z => by rw [upd_ne (ne_of_none z hD)]; exact st2.th a o z⟩
  · obtain ⟨vs, G', hv, hDk, gD, st, pv⟩ := pv
    rw [List.length_map] at hv hDk pv
    rw [List.take_length] at hDk
    exact hd D vs G' H' hD hv st hDk gD pv
end
/-! ### who is beside whom; three each to each; the lesser ahead -/
theorem str_of_list {a b : Str} (h : a.cps.toList = b.cps.toList) : a = b := by
  cases a with
  | mk a => cases b with
    | mk b => exact congrArg Str.mk (Array.ext' h)
theorem ltS_asymm {a b : Str} (h : ltS a b = true) : ltS b a = false := by
  unfold ltS at h ⊢
  exact decide_eq_false (List.lt_asymm (of_decide_eq_true h))
theorem ltS_tri {a b : Str} (h1 : ltS a b = false) (h2 : ltS b a = false) : a = b := by
  unfold ltS at h1 h2
  exact str_of_list (List.le_antisymm (of_decide_eq_false h2) (of_decide_eq_false h1))
theorem ris_or {d : Dr} (h : d.1 ≠ d.2) : ris d = d ∨ ris d = (d.2, d.1) := by
  unfold ris
  cases h1 : ltS d.2 d.1 <;> cases h2 : ltS d.1 d.2
  · exact absurd (ltS_tri h2 h1) h
  · exact .inl rfl
  · exact .inr rfl
  · rw [ltS_asymm h1] at h2; cases h2
def Loopless (ds : List Dr) : Prop := ∀ d ∈ ds, d.1 ≠ d.2
theorem mem_nb {ds : List Dr} (hl : Loopless ds) {x z : Str} : z ∈ nb ds x ↔ (x, z) ∈ ds ∨ (z, x) ∈ ds := by
  unfold nb
  rw [List.mem_map]
  constructor
  · rintro ⟨d, hd, rfl⟩
    obtain ⟨hd2, hh⟩ := List.mem_filter.mp hd
    unfold oth
    by_cases c : d.1 = x
    · rw [if_pos c]
      subst c
      exact .inl hd2
    · rw [if_neg c]
      unfold hasD at hh
      rw [decide_eq_false c, Bool.false_or] at hh
      have e := of_decide_eq_true hh
      subst e
      exact .inr hd2
  · rintro (h | h)
    · exact ⟨(x, z), List.mem_filter.mpr ⟨h, by unfold hasD; simp⟩, by unfold oth; rw [if_pos rfl]⟩
    · exact ⟨(z, x), List.mem_filter.mpr ⟨h, by unfold hasD; simp⟩, by unfold oth; rw [if_neg (hl _ h)]⟩
theorem mem_ris {ds : List Dr} (hl : Loopless ds) {x z : Str} : ((x, z) ∈ ds.map ris ∨ (z, x) ∈ ds.map ris) ↔ ((x, z) ∈ ds ∨ (z, x) ∈ ds) := by
  have key : ∀ x z, (x, z) ∈ ds.map ris → ((x, z) ∈ ds ∨ (z, x) ∈ ds) := fun x z h => by
    obtain ⟨d, hd, e⟩ := List.mem_map.mp h
    rcases ris_or (hl d hd) with h | h
    · rw [← e, h]; exact .inl hd
    · rw [h] at e
      cases e
      exact .inr hd
  have back : ∀ x z, (x, z) ∈ ds → ((x, z) ∈ ds.map ris ∨ (z, x) ∈ ds.map ris) := fun x z h => by
    rcases ris_or (hl _ h) with e | e
    · exact .inl (List.mem_map.mpr ⟨_, h, e⟩)
    · exact .inr (List.mem_map.mpr ⟨_, h, e⟩)
  constructor
  · rintro (h | h)
    · exact key _ _ h
    · exact (key _ _ h).symm
  · rintro (h | h)
    · exact back _ _ h
    · exact (back _ _ h).symm
theorem loopless_ris {ds : List Dr} (hl : Loopless ds) : Loopless (ds.map ris) := fun d hd => by
  obtain ⟨e, he, rfl⟩ := List.mem_map.mp hd
  rcases ris_or (hl e he) with h | h
  · rw [h]; exact hl e he
  · rw [h]; exact (hl e he).symm
theorem nb_ris {ds : List Dr} (hl : Loopless ds) {x z : Str} : z ∈ nb (ds.map ris) x ↔ z ∈ nb ds x := by
  rw [mem_nb hl, mem_nb (loopless_ris hl), mem_ris hl]
theorem nb_perm {ds es : List Dr} (h : es.Perm ds) (x : Str) : (nb es x).Perm (nb ds x) := (h.filter _).map _
/-- no three with doors each to each -/
def NoTri (ds : List Dr) : Prop := ∀ a b c, b ∈ nb ds a → c ∈ nb ds b → c ∉ nb ds a
theorem NoTri.of {ds es : List Dr} (h : NoTri ds) (e : ∀ x z, z ∈ nb es x → z ∈ nb ds x) : NoTri es := fun a b c h1 h2 h3 => h a b c (e _ _ h1) (e _ _ h2) (e _ _ h3)
theorem nb_sym {ds : List Dr} (hl : Loopless ds) {x z : Str} (h : z ∈ nb ds x) : x ∈ nb ds z := (mem_nb hl).mpr ((mem_nb hl).mp h).symm
theorem nb_irr {ds : List Dr} (hl : Loopless ds) {x : Str} : x ∉ nb ds x := fun h => by
  rcases (mem_nb hl).mp h with h | h
  · exact hl _ h rfl
  · exact hl _ h rfl
theorem nb_less {ds es : List Dr} (h : ∀ d ∈ es, d ∈ ds) (hl : Loopless ds) {x z : Str} (m : z ∈ nb es x) : z ∈ nb ds x :=
  (mem_nb hl).mpr (((mem_nb (fun d hd => hl d (h d hd))).mp m).imp (h _) (h _))
/-- one door more -/
theorem tri_add {R : Str → Str → Prop} (sym : ∀ x y, R x y → R y x) (irr : ∀ x, ¬ R x x) (nt : ∀ x y z, R x y → R y z → ¬ R x z) {a b : Str} (hab : a ≠ b) (hc : ∀ r, R a r → ¬ R b r) (x y z : Str)
    (h1 : R x y ∨ (x = a ∧ y = b) ∨ (x = b ∧ y = a)) (h2 : R y z ∨ (y = a ∧ z = b) ∨ (y = b ∧ z = a)) (h3 : R x z ∨ (x = a ∧ z = b) ∨ (x = b ∧ z = a)) : False := by
  rcases h1 with h1 | ⟨e1, e2⟩ | ⟨e1, e2⟩ <;> rcases h2 with h2 | ⟨e3, e4⟩ | ⟨e3, e4⟩ <;> rcases h3 with h3 | ⟨e5, e6⟩ | ⟨e5, e6⟩ <;> subst_vars <;>
    first
    | exact nt _ _ _ h1 h2 h3
    | exact hc _ h3 h2
    | exact hc _ h2 h3
    | exact hc _ (sym _ _ h2) (sym _ _ h1)
    | exact hc _ (sym _ _ h1) (sym _ _ h2)
    | exact hc _ h1 (sym _ _ h2)
    | exact hc _ (sym _ _ h2) h1
    | exact hc _ h1 (sym _ _ h3)
    | exact hc _ (sym _ _ h3) h1
    | exact hc _ (sym _ _ h3) (sym _ _ h1)
    | exact hc _ (sym _ _ h1) (sym _ _ h3)
    | exact hc _ (sym _ _ h1) h3
    | exact hc _ h3 (sym _ _ h1)
    | exact hc _ (sym _ _ h1) h2
    | exact hc _ h2 (sym _ _ h1)
    | exact absurd rfl hab
    | exact irr _ h1 | exact irr _ h2 | exact irr _ h3
    | exact absurd (by assumption) hab | exact absurd (Eq.symm (by assumption)) hab
/-! the class House, a house -/
structure HouseC (K : PySem.W.Frag) (mg : Str → Option Value) (C : Addr) : Prop where
  g : mg "House" = some (.ref C)
  cl : Cls K C
  n1 : NoAttr K C "_rooms"
  n2 : NoAttr K C "_doors"
  n3 : NoAttr K C "_near"
abbrev hfs (r d N : Addr) : List (Str × V) := [("_rooms", .ref r), ("_doors", .ref d), ("_near", .ref N)]
theorem hfs_d {r d N : Addr} : (hfs r d N).lookup ("_doors" : Str) = some (V.ref d) := by rfl
theorem hfs_n {r d N : Addr} : (hfs r d N).lookup ("_near" : Str) = some (V.ref N) := by rfl
section
variable {K : PySem.W.Frag} {mg : Str → Option Value} {C a : Addr} {H : Hp} {dx : Addr} {r d N : Addr} {R : V → Prop}
theorem hf_d (Z : HouseC K mg C) (h : H a = some (.ins C dx (hfs r d N))) (q : R (.ref d)) : ∃ a' C dx fs v, V.ref a = .ref a' ∧ H a' = some (.ins C dx fs) ∧ Cls K C ∧ NoAttr K C "_doors" ∧ fs.lookup ("_doors" : Str) = some v ∧ R v := r_fld' h Z.cl Z.n2 hfs_d q
theorem hf_n (Z : HouseC K mg C) (h : H a = some (.ins C dx (hfs r d N))) (q : R (.ref N)) : ∃ a' C dx fs v, V.ref a = .ref a' ∧ H a' = some (.ins C dx fs) ∧ Cls K C ∧ NoAttr K C "_near" ∧ fs.lookup ("_near" : Str) = some v ∧ R v := r_fld' h Z.cl Z.n3 hfs_n q
end
/-! ### rows of texts or pairs of texts: held against the empty one; pop at a place -/
def ItOk (K : PySem.W.Frag) (G : Hp) (v : V) : Prop := (∃ z, v = .str z ∧ SOk z) ∨ ∃ (t : Addr) (d : Dr), v = .ref t ∧ SqT K G t [.str d.1, .str d.2] ∧ SOk d.1 ∧ SOk d.2
theorem ItOk.same {K : PySem.W.Frag} {G H : Hp} {v : V} (h : ItOk K G v) (g : Same G H) : ItOk K H v := by
  rcases h with ⟨z, e, s⟩ | ⟨t, d, e, q, s⟩
  · exact .inl ⟨z, e, s⟩
  · exact .inr ⟨t, d, e, Same.sqt g q, s⟩
theorem it_data {K : PySem.W.Frag} {H : Hp} {v : V} (h : ItOk K H v) : ∃ d, Dp K H v d ∧ d.canLay0 = true ∧ d.depth ≤ 2 := by
  rcases h with ⟨z, rfl, s⟩ | ⟨t, d, rfl, q, s1, s2⟩
  · exact ⟨.str z, .str z, s, by simp [PyData.depth]⟩
  · have q' : SqT K H t (([d.1, d.2] : List Str).map V.str) := q
    refine ⟨.tuple (([d.1, d.2] : List Str).map PyData.str), .tup q' (dp_strs _), ?_, ?_⟩
    · have h := sh_tup (ns := [d.1, d.2]) (fun z hz => by rcases List.mem_cons.mp hz with rfl | hz; exact s1; rw [List.mem_singleton.mp hz]; exact s2)
      exact SeqAt.canLay_of_shaped h
    · simp [PyData.depth, PyData.depthAll]
theorem its_data {K : PySem.W.Frag} {H : Hp} : ∀ xs : List V, (∀ v ∈ xs, ItOk K H v) → ∃ ds, DpAll K H xs ds ∧ PyData.canLayAll0 ds = true ∧ PyData.depthAll ds ≤ 3
  | [], _ => ⟨[], .nil, rfl, by simp [PyData.depthAll]⟩
  | v :: r, h => by
    obtain ⟨d, h1, h2, h3⟩ := it_data (h v List.mem_cons_self)
    obtain ⟨ds, g1, g2, g3⟩ := its_data r fun y hy => h y (List.mem_cons_of_mem _ hy)
    exact ⟨d :: ds, .cons h1 g1, by simp [PyData.canLayAll0, h2, g2], by simp only [PyData.depthAll]; omega⟩
section
variable {K : PySem.W.Frag} {H : Hp} {Q : VK} {p q : Addr} {xs : List V} {y : V} {d : Nat} {i : Int}
theorem r_neNil (h : SqL K H p xs) (hx : ∀ v ∈ xs, ItOk K H v) (h' : SqL K H q []) (k : Q (.bl (!xs.isEmpty)) H) : rNeD K (.ref p) (.ref q) H Q := by
  obtain ⟨ds, h1, h2, h3⟩ := its_data xs hx
  refine ⟨.list ds, .list [], .lst h h1, .lst h' .nil, ?_, rfl, ?_⟩
  · unfold SeqAt.shaped
    rw [show (PyData.list ds).canLay0 = PyData.canLayAll0 ds from by simp [PyData.canLay0], h2, Bool.true_and]
    exact decide_eq_true (by simp only [PyData.depth]; omega)
  · have e : PyData.eqv (.list ds) (.list []) = xs.isEmpty := by
      cases h1 with
      | nil => rfl
      | cons _ _ => simp [PyData.eqv, PyData.eqvAll]
    rw [e]
    exact k
theorem c_popAt {l : Addr} (h : H l = some (.lst xs)) (e : i = (d : Int)) (hd : xs[d]? = some y) (hz : xs.length < 1000) (k : Q y (upd H l (.lst (xs.eraseIdx d)))) : rPopAt (.ref l) [.int i] H Q := by
  subst e
  have hl : d < xs.length := (List.getElem?_eq_some_iff.mp hd).1
  exact ⟨l, xs, d, d, y, rfl, rfl, h, by omega, by omega, by
    have e := PySem.seqIndex_of (k := (d : Int)) (n := xs.length) (by omega) (by omega)
    rw [e, Int.toNat_natCast], hd, k⟩
theorem erase_perm {α : Type} {l : List α} {d : Nat} {y : α} (h : l[d]? = some y) : (y :: l.eraseIdx d).Perm l := by
  obtain ⟨hl, e⟩ := List.getElem?_eq_some_iff.mp h
  rw [List.eraseIdx_eq_take_drop_succ]
  have h2 : l = l.take d ++ y :: l.drop (d + 1) := by
    rw [← e, ← List.drop_eq_getElem_cons hl, List.take_append_drop]
  exact (List.perm_middle.symm).trans (by rw [← h2])
end
theorem perm_map {α β : Type} (f : α → β) {ys zs : List β} (h : ys.Perm zs) : ∀ l : List α, zs = l.map f → ∃ l' : List α, l'.Perm l ∧ ys = l'.map f := by
  induction h with
  | nil => intro l e; exact ⟨[], by rw [List.map_eq_nil_iff.mp e.symm], rfl⟩
  | cons x _ ih =>
    intro l e
    cases l with
    | nil => cases e
    | cons a l0 =>
      rw [List.map_cons] at e
      injection e with e1 e2
      obtain ⟨l', h1, h2⟩ := ih l0 e2
      exact ⟨a :: l', h1.cons a, by rw [List.map_cons, e1, h2]⟩
  | swap x y r =>
    intro l e
    match l, e with
    | a :: b :: l0, e =>
      simp only [List.map_cons, List.cons.injEq] at e
      exact ⟨b :: a :: l0, .swap a b l0, by simp only [List.map_cons]; rw [e.1, e.2.1, e.2.2]⟩
  | trans _ _ ih1 ih2 =>
    intro l e
    obtain ⟨l1, h1, e1⟩ := ih2 l e
    obtain ⟨l2, h2, e2⟩ := ih1 l1 e1
    exact ⟨l2, h2.trans h1, e2⟩
theorem prs_perm {K : PySem.W.Frag} {G : Hp} {xs ys : List V} {ds : List Dr} (h : PrsT K G xs ds) (p : ys.Perm xs) : ∃ ds', PrsT K G ys ds' ∧ ds'.Perm ds := by
  have hm : (xs.zip ds).map Prod.fst = xs := List.map_fst_zip (by rw [h.1]; exact Nat.le_refl _)
  have hm2 : (xs.zip ds).map Prod.snd = ds := List.map_snd_zip (by rw [h.1]; exact Nat.le_refl _)
  obtain ⟨l', h1, e1⟩ := perm_map Prod.fst p (xs.zip ds) hm.symm
  have hz : ∀ q ∈ l', ∃ t, q.1 = V.ref t ∧ SqT K G t [.str q.2.1, .str q.2.2] := fun q hq => by
    have hq' := h1.mem_iff.mp hq
    obtain ⟨i, hi, e⟩ := List.getElem_of_mem hq'
    rw [List.length_zip] at hi
    rw [List.getElem_zip] at e
    obtain ⟨t, a1, a2⟩ := h.2 i ds[i] (List.getElem?_eq_getElem (by omega))
    rw [List.getElem?_eq_getElem (by omega)] at a1
    subst e
    exact ⟨t, Option.some.inj a1, a2⟩
  refine ⟨l'.map Prod.snd, ⟨by rw [e1, List.length_map, List.length_map], fun i d hd => ?_⟩, by rw [← hm2]; exact h1.map _⟩
  rw [List.getElem?_map] at hd
  cases hq : l'[i]? with
  | none => rw [hq] at hd; cases hd
  | some q =>
    rw [hq] at hd
    cases Option.some.inj hd
    obtain ⟨t, a1, a2⟩ := hz q (List.mem_of_getElem? hq)
    exact ⟨t, by rw [e1, List.getElem?_map, hq, ← a1]; rfl, a2⟩
theorem ris_swap (d : Dr) : ris (d.2, d.1) = ris d := by
  unfold ris
  cases h1 : ltS d.1 d.2 <;> cases h2 : ltS d.2 d.1
  · have e := ltS_tri h1 h2
    simp [h1, h2, e]
  · simp [h1, h2]
  · simp [h1, h2]
  · rw [ltS_asymm h1] at h2; cases h2
theorem DrAll.prs {K : PySem.W.Frag} {G : Hp} {xs : List V} {ds : List Dr} (h : DrAll G xs ds) : PrsT K G xs ds :=
  ⟨h.1, fun i d e => by obtain ⟨t, o, h1, h2, _⟩ := h.2 i d e; exact ⟨t, h1, .inl (.inr ⟨o, h2⟩)⟩⟩
/-! ### how few steps: by levels -/
def kvN (fs : List (Str × Nat)) : List (Key × V) := fs.map fun p => (.inr p.1, .int (p.2 : Int))
/-- z is n steps from b, by some way -/
inductive Wn (ds : List Dr) (b : Str) : Nat → Str → Prop where
  | zero : Wn ds b 0 b
  | succ {n : Nat} {x z : Str} : Wn ds b n x → z ∈ nb ds x → Wn ds b (n + 1) z
theorem Wn.inn {ds : List Dr} {rs : List Str} {b z : Str} {n : Nat} (hb : b ∈ rs) (hn : ∀ x z, z ∈ nb ds x → z ∈ rs) (h : Wn ds b n z) : z ∈ rs := by
  cases h with
  | zero => exact hb
  | succ _ h => exact hn _ _ h
structure Spans (ds : List Dr) (b : Str) (fs : List (Str × Nat)) : Prop where
  nd : (fs.map Prod.fst).Nodup
  val : ∀ z n, (z, n) ∈ fs → Wn ds b n z ∧ ∀ m, Wn ds b m z → n ≤ m
  all : ∀ m z, Wn ds b m z → z ∈ fs.map Prod.fst
structure Bfs (ds : List Dr) (b : Str) (k : Nat) (fs : List (Str × Nat)) (edge : List Str) : Prop where
  nd : (fs.map Prod.fst).Nodup
  val : ∀ z n, (z, n) ∈ fs → Wn ds b n z ∧ n ≤ k ∧ ∀ m, Wn ds b m z → n ≤ m
  all : ∀ m z, m ≤ k → Wn ds b m z → z ∈ fs.map Prod.fst
  edge : ∀ z, z ∈ edge ↔ (z, k) ∈ fs
theorem Bfs.start (ds : List Dr) (b : Str) : Bfs ds b 0 [(b, 0)] [b] := by
  refine ⟨by simp, fun z n h => ?_, fun m z hm h => ?_, fun z => ?_⟩
  · rw [List.mem_singleton] at h
    cases h
    exact ⟨.zero, Nat.le_refl _, fun m _ => Nat.zero_le m⟩
  · cases h with
    | zero => simp
    | succ _ _ => omega
  · simp
theorem Bfs.done {ds : List Dr} {b : Str} {k : Nat} {fs : List (Str × Nat)} (h : Bfs ds b k fs []) : Spans ds b fs := by
  refine ⟨h.nd, fun z n hz => ⟨(h.val z n hz).1, (h.val z n hz).2.2⟩, fun m z hw => ?_⟩
  induction hw with
  | zero => exact h.all 0 b (Nat.zero_le _) .zero
  | succ hx hz ih =>
    obtain ⟨p, hp, e⟩ := List.mem_map.mp ih
    obtain ⟨x', n⟩ := p
    cases e
    have hv := h.val _ _ hp
    have hne : n ≠ k := fun e => by
      have := (h.edge _).mpr (e ▸ hp)
      cases this
    exact h.all (n + 1) _ (by omega) (.succ hv.1 hz)
/-- amid a level: more were found, all beside the ones ahead -/
structure Mid (ds : List Dr) (k : Nat) (fs0 : List (Str × Nat)) (edge : List Str) (fs : List (Str × Nat)) (ahead : List Str) : Prop where
  eq : fs = fs0 ++ ahead.map fun z => (z, k + 1)
  nd : (fs.map Prod.fst).Nodup
  by_ : ∀ a ∈ ahead, ∃ x ∈ edge, a ∈ nb ds x
theorem Mid.start {ds : List Dr} {b : Str} {k : Nat} {fs : List (Str × Nat)} {edge : List Str} (h : Bfs ds b k fs edge) : Mid ds k fs edge fs [] :=
  ⟨by simp, h.nd, fun _ h => (by cases h)⟩
theorem Mid.add {ds : List Dr} {k : Nat} {fs0 fs : List (Str × Nat)} {edge ahead : List Str} {x a : Str} (h : Mid ds k fs0 edge fs ahead) (hx : x ∈ edge) (ha : a ∈ nb ds x) (hn : a ∉ fs.map Prod.fst) :
    Mid ds k fs0 edge (fs ++ [(a, k + 1)]) (ahead ++ [a]) := by
  refine ⟨by rw [h.eq, List.map_append, List.append_assoc]; rfl, ?_, fun y hy => ?_⟩
  · rw [List.map_append, List.nodup_append]
    exact ⟨h.nd, List.nodup_cons.mpr ⟨fun z => (by cases z), List.nodup_nil⟩, fun c hc e he => by
      rw [List.map_singleton, List.mem_singleton] at he
      intro ec
      rw [ec, he] at hc
      exact hn hc⟩
  · rcases List.mem_append.mp hy with hy | hy
    · exact h.by_ y hy
    · rw [List.mem_singleton.mp hy]; exact ⟨x, hx, ha⟩
theorem Mid.next {ds : List Dr} {b : Str} {k : Nat} {fs0 fs : List (Str × Nat)} {edge ahead : List Str} (h0 : Bfs ds b k fs0 edge) (h : Mid ds k fs0 edge fs ahead) (hd : ∀ x ∈ edge, ∀ a ∈ nb ds x, a ∈ fs.map Prod.fst) : Bfs ds b (k + 1) fs ahead := by
  have keys : ∀ z, z ∈ fs.map Prod.fst ↔ z ∈ fs0.map Prod.fst ∨ z ∈ ahead := fun z => by
    rw [h.eq, List.map_append, List.mem_append, List.map_map]
    have e : (Prod.fst ∘ fun z : Str => (z, k + 1)) = id := rfl
    rw [e, List.map_id]
  have apart : ∀ z, z ∈ ahead → z ∉ fs0.map Prod.fst := fun z hz hz0 => by
    have hn := h.nd
    rw [h.eq, List.map_append, List.nodup_append] at hn
    exact hn.2.2 z hz0 z (by rw [List.map_map]; exact List.mem_map.mpr ⟨z, hz, rfl⟩) rfl
  have mem : ∀ z n, (z, n) ∈ fs ↔ (z, n) ∈ fs0 ∨ z ∈ ahead ∧ n = k + 1 := fun z n => by
    rw [h.eq, List.mem_append, List.mem_map]
    constructor
    · rintro (h | ⟨y, hy, e⟩)
      · exact .inl h
      · cases e; exact .inr ⟨hy, rfl⟩
    · rintro (h | ⟨hy, e⟩)
      · exact .inl h
      · exact .inr ⟨z, hy, by rw [e]⟩
  refine ⟨h.nd, fun z n hz => ?_, fun m z hm hw => ?_, fun z => ?_⟩
  · rcases (mem z n).mp hz with hz | ⟨hza, rfl⟩
    · have := h0.val z n hz
      exact ⟨this.1, by omega, this.2.2⟩
    · obtain ⟨x, hx, ha⟩ := h.by_ z hza
      refine ⟨.succ (h0.val x k ((h0.edge x).mp hx)).1 ha, Nat.le_refl _, fun m hm => ?_⟩
      rcases Nat.lt_or_ge k m with c | c
      · omega
      · exact absurd (h0.all m z c hm) (apart z hza)
  · rw [keys]
    rcases Nat.lt_or_ge k m with c | c
    · have em : m = k + 1 := by omega
      subst em
      cases hw with
      | @succ n0 x z0 hx hz =>
        have hx0 := h0.all k x (Nat.le_refl _) hx
        obtain ⟨⟨x', n⟩, hp, e⟩ := List.mem_map.mp hx0
        cases e
        have hv := h0.val _ _ hp
        by_cases e : n = k
        · subst e
          exact (keys z).mp (hd _ ((h0.edge _).mpr hp) z hz)
        · exact .inl (h0.all (n + 1) z (by omega) (.succ hv.1 hz))
    · exact .inl (h0.all m z c hw)
  · rw [mem]
    constructor
    · intro h; exact .inr ⟨h, rfl⟩
    · rintro (h | ⟨h, _⟩)
      · have := (h0.val z _ h).2.1
        omega
      · exact h
/-! ### sorted(d), min(d): d a dict by texts -/
section
variable {X : Cx}
def rSortedD : List V → Hp → VK → Prop := fun vs H Q => ∃ (a : Addr) (kvs : List (Key × V)) (ss : List Str), vs = [V.ref a] ∧ H a = some (.dK kvs) ∧ kvs.map (·.1) = ss.map Sum.inr ∧
  ∀ (ys : List Str) (p : Addr), ys.Perm ss → sortedS ys = true → H p = none → Q (.ref p) (upd H p (.lst (ys.map V.str)))
end
/-! ### rising rows of texts; who hangs together -/
theorem ltS_cps (a b : Str) : ltCps a.cps.toList b.cps.toList = ltS a b := by unfold ltS; rw [ltCps_eq]
def leS (a b : Str) : Prop := ltS b a = false
theorem leS_trans {a b c : Str} (h1 : leS a b) (h2 : leS b c) : leS a c := by
  unfold leS ltS at *
  have h1 : a.cps.toList ≤ b.cps.toList := of_decide_eq_false h1
  have h2 : b.cps.toList ≤ c.cps.toList := of_decide_eq_false h2
  exact decide_eq_false (List.le_trans h1 h2)
theorem leS_anti {a b : Str} (h1 : leS a b) (h2 : leS b a) : a = b := ltS_tri h2 h1
theorem rising_pw : ∀ (p : Str) (l : List Str), risingS p l = true → (p :: l).Pairwise leS
  | p, [], _ => by simp
  | p, x :: r, h => by
    have h' : (!ltCps x.cps.toList p.cps.toList && risingS x r) = true := h
    rw [Bool.and_eq_true, ltS_cps, Bool.not_eq_true'] at h'
    have ih := rising_pw x r h'.2
    refine List.pairwise_cons.mpr ⟨fun y hy => ?_, ih⟩
    rcases List.mem_cons.mp hy with rfl | hy
    · exact h'.1
    · exact leS_trans h'.1 ((List.pairwise_cons.mp ih).1 y hy)
theorem sorted_pw {l : List Str} (h : sortedS l = true) : l.Pairwise leS := by
  cases l with
  | nil => exact List.Pairwise.nil
  | cons x r => exact rising_pw x r h
theorem pw_sorted {l : List Str} (h : l.Pairwise leS) : sortedS l = true := sortedS_of_pairwise l (h.imp fun {a b} h => by rw [ltS_cps]; exact h)
theorem sorted_uniq {ys zs : List Str} (p : ys.Perm zs) (h1 : sortedS ys = true) (h2 : sortedS zs = true) : ys = zs :=
  List.Perm.eq_of_pairwise (le := leS) (fun a b _ _ x y => leS_anti x y) (sorted_pw h1) (sorted_pw h2) p
/-! who can be come to -/
def Con (es : List Dr) (b z : Str) : Prop := ∃ n, Wn es b n z
theorem Con.refl {es : List Dr} {b : Str} : Con es b b := ⟨0, .zero⟩
theorem Wn.cons {es : List Dr} (hl : Loopless es) {a b z : Str} {n : Nat} (h : b ∈ nb es a) (w : Wn es b n z) : Wn es a (n + 1) z := by
  induction w with
  | zero => exact .succ .zero h
  | succ _ h2 ih => exact .succ ih h2
theorem Wn.turn {es : List Dr} (hl : Loopless es) {b z : Str} {n : Nat} (w : Wn es b n z) : Wn es z n b := by
  induction w with
  | zero => exact .zero
  | succ _ h ih => exact ih.cons hl (nb_sym hl h)
theorem Con.symm {es : List Dr} (hl : Loopless es) {b z : Str} (h : Con es b z) : Con es z b := by
  obtain ⟨n, w⟩ := h
  exact ⟨n, w.turn hl⟩
theorem Wn.app {es : List Dr} {a b z : Str} {n m : Nat} (w : Wn es a n b) (v : Wn es b m z) : Wn es a (n + m) z := by
  induction v with
  | zero => exact w
  | succ _ h ih => exact .succ ih h
theorem Con.trans {es : List Dr} {a b z : Str} (h : Con es a b) (g : Con es b z) : Con es a z := by
  obtain ⟨n, w⟩ := h
  obtain ⟨m, v⟩ := g
  exact ⟨_, w.app v⟩
open Classical in
noncomputable def comp (es : List Dr) (rs : List Str) (b : Str) : List Str := rs.filter fun z => decide (Con es b z)
def Least (es : List Dr) (rs : List Str) (b : Str) : Prop := ∀ z ∈ rs, Con es b z → leS b z
open Classical in
noncomputable def partsOf (es : List Dr) (rs xs : List Str) : List (List Str) := (xs.filter fun b => decide (Least es rs b)).map (comp es rs)
/-! ### min of a dict by texts; steps found one by one -/
section
variable {X : Cx}
def rMinD : List V → Hp → VK → Prop := fun vs H Q => ∃ (a : Addr) (kvs : List (Key × V)) (ss : List Str), vs = [V.ref a] ∧ H a = some (.dK kvs) ∧ kvs.map (·.1) = ss.map Sum.inr ∧ ss ≠ [] ∧ ∀ m, m ∈ ss → (∀ j ∈ ss, leS m j) → Q (.str m) H
end
/-! a row of rooms found, gone through from its front -/
structure Que (ds : List Dr) (b : Str) (fs : List (Str × Nat)) (at_ : Nat) : Prop where
  nd : (fs.map Prod.fst).Nodup
  fst : b ∈ fs.map Prod.fst
  val : ∀ z n, (z, n) ∈ fs → Wn ds b n z ∧ ∀ m, Wn ds b m z → n ≤ m
  mono : fs.Pairwise fun p q => p.2 ≤ q.2
  near : ∀ x k, fs[at_]? = some (x, k) → ∀ p ∈ fs, p.2 ≤ k + 1
  done : ∀ i x k, i < at_ → fs[i]? = some (x, k) → ∀ a ∈ nb ds x, a ∈ fs.map Prod.fst
theorem Que.start (ds : List Dr) (b : Str) : Que ds b [(b, 0)] 0 := by
  refine ⟨by simp, by simp, fun z n h => ?_, by simp, fun x k h p hp => ?_, fun i x k h => (by omega)⟩
  · rw [List.mem_singleton] at h
    cases h
    exact ⟨.zero, fun m _ => Nat.zero_le m⟩
  · rw [List.mem_singleton.mp hp]
    exact Nat.zero_le _
theorem Que.add {ds : List Dr} {b x z : Str} {k at_ : Nat} {fs : List (Str × Nat)} (h : Que ds b fs at_) (hx : fs[at_]? = some (x, k)) (hz : z ∈ nb ds x) (hn : z ∉ fs.map Prod.fst) : Que ds b (fs ++ [(z, k + 1)]) at_ := by
  have hat : at_ < fs.length := (List.getElem?_eq_some_iff.mp hx).1
  have ex := (List.getElem?_eq_some_iff.mp hx).2
  have hxk := h.val x k (List.mem_of_getElem? hx)
  have low : ∀ m w, Wn ds b m w → m ≤ k → w ∈ fs.map Prod.fst := fun m w hw => by
    induction hw with
    | zero => intro _; exact h.fst
    | succ hw hz ih =>
      intro hm
      obtain ⟨⟨x', n'⟩, hp, e⟩ := List.mem_map.mp (ih (by omega))
      cases e
      have h1 := (h.val _ _ hp).2 _ hw
      obtain ⟨i, hi, ei⟩ := List.getElem_of_mem hp
      have hia : i < at_ := by
        rcases Nat.lt_or_ge i at_ with c | c
        · exact c
        · rcases Nat.lt_or_ge at_ i with c2 | c2
          · have := (List.pairwise_iff_getElem.mp h.mono) at_ i hat hi c2
            rw [ex, ei] at this
            have : k ≤ n' := this
            omega
          · have e2 : i = at_ := by omega
            subst e2
            rw [ex] at ei
            cases ei
            omega
      exact h.done i _ n' hia (by rw [List.getElem?_eq_getElem hi, ei]) _ hz
  refine ⟨?_, ?_, fun y n hy => ?_, ?_, fun x' k' hx' p hp => ?_, fun i x' k' hi hx' a ha => ?_⟩
  · rw [List.map_append, List.nodup_append]
    exact ⟨h.nd, List.nodup_cons.mpr ⟨fun z => (by cases z), List.nodup_nil⟩, fun c hc e he => by
      rw [List.map_singleton, List.mem_singleton] at he
      intro ec
      rw [ec, he] at hc
      exact hn hc⟩
  · rw [List.map_append]; exact List.mem_append_left _ h.fst
  · rcases List.mem_append.mp hy with hy | hy
    · exact h.val y n hy
    · rw [List.mem_singleton] at hy
      cases hy
      refine ⟨.succ hxk.1 hz, fun m hm => ?_⟩
      rcases Nat.lt_or_ge k m with c | c
      · exact c
      · exact absurd (low m _ hm c) hn
  · rw [List.pairwise_append]
    refine ⟨h.mono, by simp, fun p hp q hq => ?_⟩
    rw [List.mem_singleton.mp hq]
    exact h.near x k hx p hp
  · rw [List.getElem?_append_left hat, hx] at hx'
    cases hx'
    rcases List.mem_append.mp hp with hp | hp
    · exact h.near x k hx p hp
    · rw [List.mem_singleton.mp hp]
      exact Nat.le_refl _
  · rw [List.getElem?_append_left (by omega)] at hx'
    rw [List.map_append]
    exact List.mem_append_left _ (h.done i x' k' hi hx' a ha)
theorem Que.next {ds : List Dr} {b x : Str} {k at_ : Nat} {fs : List (Str × Nat)} (h : Que ds b fs at_) (hx : fs[at_]? = some (x, k)) (hd : ∀ a ∈ nb ds x, a ∈ fs.map Prod.fst) : Que ds b fs (at_ + 1) := by
  refine ⟨h.nd, h.fst, h.val, h.mono, fun x' k' hx' p hp => ?_, fun i x' k' hi hx' a ha => ?_⟩
  · have h1 := h.near x k hx p hp
    have hat : at_ < fs.length := (List.getElem?_eq_some_iff.mp hx).1
    have ex := (List.getElem?_eq_some_iff.mp hx).2
    have hat' : at_ + 1 < fs.length := (List.getElem?_eq_some_iff.mp hx').1
    have ex' := (List.getElem?_eq_some_iff.mp hx').2
    have := (List.pairwise_iff_getElem.mp h.mono) at_ (at_ + 1) hat hat' (by omega)
    rw [ex, ex'] at this
    have : k ≤ k' := this
    omega
  · rcases Nat.lt_or_ge i at_ with c | c
    · exact h.done i x' k' c hx' a ha
    · have e : i = at_ := by omega
      rw [e, hx] at hx'
      cases hx'
      exact hd a ha
theorem Que.end {ds : List Dr} {b : Str} {at_ : Nat} {fs : List (Str × Nat)} (h : Que ds b fs at_) (hat : fs.length ≤ at_) : Spans ds b fs := by
  refine ⟨h.nd, h.val, fun m z hw => ?_⟩
  induction hw with
  | zero => exact h.fst
  | succ hw hz ih =>
    obtain ⟨⟨x', n'⟩, hp, e⟩ := List.mem_map.mp ih
    cases e
    obtain ⟨i, hi, ei⟩ := List.getElem_of_mem hp
    exact h.done i _ n' (by omega) (by rw [List.getElem?_eq_getElem hi, ei]) _ hz
/-! ### a known dict put anew; what two lists of doors tell alike -/
theorem Wn.of {ds es : List Dr} {b z : Str} {n : Nat} (e : ∀ x z, z ∈ nb ds x → z ∈ nb es x) (h : Wn ds b n z) : Wn es b n z := by
  induction h with
  | zero => exact .zero
  | succ _ h ih => exact .succ ih (e _ _ h)
theorem Spans.of {ds es : List Dr} {b : Str} {fs : List (Str × Nat)} (e : ∀ x z, z ∈ nb ds x ↔ z ∈ nb es x) (h : Spans ds b fs) : Spans es b fs :=
  ⟨h.nd, fun z n hz => ⟨(h.val z n hz).1.of (fun x z => (e x z).mp), fun m hm => (h.val z n hz).2 m (hm.of (fun x z => (e x z).mpr))⟩, fun m z hw => h.all m z (hw.of (fun x z => (e x z).mpr))⟩
section
variable {K : PySem.W.Frag} {G H : Hp} {y a p : Addr} {k : List (Key × V)} {u : HO} {xs : List V} {ds : List Dr} {n : Nat}
theorem Same.put (h : Same G H) : Same (upd G y u) (upd H y u) := fun b o e => by
  by_cases c : b = y
  · subst c; rw [upd_same] at e ⊢; exact e
  · rw [upd_ne c] at e ⊢; exact h b o e
end
/-! repr of None or of a number -/
def kReprX : List V → Hp → VK → Prop := fun xs H Q => (∃ i : Int, xs = [.int i] ∧ i.natAbs.log2 < 1920 ∧ Q (.str (toString i)) H) ∨ (xs = [.non] ∧ Q (.str "None") H)
/-! ### repr of a list of lists of texts -/
def dLL (pss : List (List Str)) : List PyData := pss.map fun zs => PyData.list (zs.map PyData.str)
/-! data: what a value means, without a heap; slots of a def by what they hold -/
/-- a thing as it reads -/
inductive D where
  | non | bl (b : Bool) | int (i : Int) | str (x : Str) | ty (n : String) | fn (a : Addr)
  | lst (ds : List D) | tup (ds : List D) | tun (ds : List D) | dct (es : List (Key × D)) | dcT (es : List (List Key × D)) | dcz (es : List (Key × D)) | dcZ (es : List (List Key × D)) | tuk (ks : List Key) | obj (C : Addr) (fs : List (Str × D))
section
variable (K : PySem.W.Frag)
mutual
/-- the value v means d in what is known -/
inductive Rp (G : Hp) : V → D → Prop
  | non : Rp G .non .non
  | bl (b : Bool) : Rp G (.bl b) (.bl b)
  | int (i : Int) : Rp G (.int i) (.int i)
  | str (x : Str) : Rp G (.str x) (.str x)
  | ty (n : String) : Rp G (.ty n) (.ty n)
  | fn (a : Addr) : Rp G (.ref a) (.fn a)
  | lst {a : Addr} {vs : List V} {ds : List D} : SqL K G a vs → Rps G vs ds → Rp G (.ref a) (.lst ds)
  | tup {a : Addr} {vs : List V} {ds : List D} : SqT K G a vs → Rps G vs ds → Rp G (.ref a) (.tup ds)
  | tun {a : Addr} {o : Obj} {vs : List V} {ds : List D} : G a = some (.frz o (.tup vs)) → o.dict = none → Rps G vs ds → Rp G (.ref a) (.tun ds)
  | dct {a : Addr} {kvs : List (Key × V)} {es : List (Key × D)} : G a = some (.dK kvs) → RpK G kvs es → Rp G (.ref a) (.dct es)
  | dcz {a : Addr} {o : Obj} {kvs : List (Key × V)} {es : List (Key × D)} : G a = some (.frz o (.dK kvs)) → RpK G kvs es → Rp G (.ref a) (.dcz es)
  | dcZ {a : Addr} {o : Obj} {kvs : List (List Key × V)} {es : List (List Key × D)} : G a = some (.frz o (.dT kvs)) → RpT G kvs es → Rp G (.ref a) (.dcZ es)
  | tuk {a : Addr} {ks : List Key} : G a = some (.tup (ks.map kV)) → Rp G (.ref a) (.tuk ks)
  | dcT {a : Addr} {kvs : List (List Key × V)} {es : List (List Key × D)} : G a = some (.dT kvs) → RpT G kvs es → Rp G (.ref a) (.dcT es)
  | obj {a C dx : Addr} {fs : List (Str × V)} {es : List (Str × D)} : G a = some (.ins C dx fs) → RpF G fs es → Rp G (.ref a) (.obj C es)
inductive Rps (G : Hp) : List V → List D → Prop
  | nil : Rps G [] []
  | cons {v : V} {vs : List V} {d : D} {ds : List D} : Rp G v d → Rps G vs ds → Rps G (v :: vs) (d :: ds)
inductive RpK (G : Hp) : List (Key × V) → List (Key × D) → Prop
  | nil : RpK G [] []
  | cons {k : Key} {v : V} {vs : List (Key × V)} {d : D} {ds : List (Key × D)} : Rp G v d → RpK G vs ds → RpK G ((k, v) :: vs) ((k, d) :: ds)
inductive RpT (G : Hp) : List (List Key × V) → List (List Key × D) → Prop
  | nil : RpT G [] []
  | cons {k : List Key} {v : V} {vs : List (List Key × V)} {d : D} {ds : List (List Key × D)} : Rp G v d → RpT G vs ds → RpT G ((k, v) :: vs) ((k, d) :: ds)
inductive RpF (G : Hp) : List (Str × V) → List (Str × D) → Prop
  | nil : RpF G [] []
  | cons {k : Str} {v : V} {vs : List (Str × V)} {d : D} {ds : List (Str × D)} : Rp G v d → RpF G vs ds → RpF G ((k, v) :: vs) ((k, d) :: ds)
end
end
section
variable {K : PySem.W.Frag}
mutual
theorem Rp.same {G G' : Hp} (e : Same G G') : ∀ {v : V} {d : D}, Rp K G v d → Rp K G' v d
  | _, _, .non => .non
  | _, _, .bl b => .bl b
  | _, _, .int i => .int i
  | _, _, .str x => .str x
  | _, _, .ty n => .ty n
  | _, _, .fn a => .fn a
  | _, _, .lst s a => .lst (e.seq s) (Rps.same e a)
  | _, _, .tup s a => .tup (Same.sqt e s) (Rps.same e a)
  | _, _, .tun s n a => .tun (e _ _ s) n (Rps.same e a)
  | _, _, .dct s a => .dct (e _ _ s) (RpK.same e a)
  | _, _, .dcT s a => .dcT (e _ _ s) (RpT.same e a)
  | _, _, .dcz s a => .dcz (e _ _ s) (RpK.same e a)
  | _, _, .dcZ s a => .dcZ (e _ _ s) (RpT.same e a)
  | _, _, .tuk s => .tuk (e _ _ s)
  | _, _, .obj s a => .obj (e _ _ s) (RpF.same e a)
theorem Rps.same {G G' : Hp} (e : Same G G') : ∀ {v : List V} {d : List D}, Rps K G v d → Rps K G' v d
  | _, _, .nil => .nil
  | _, _, .cons a b => .cons (Rp.same e a) (Rps.same e b)
theorem RpK.same {G G' : Hp} (e : Same G G') : ∀ {v : List (Key × V)} {d : List (Key × D)}, RpK K G v d → RpK K G' v d
  | _, _, .nil => .nil
  | _, _, .cons a b => .cons (Rp.same e a) (RpK.same e b)
theorem RpT.same {G G' : Hp} (e : Same G G') : ∀ {v : List (List Key × V)} {d : List (List Key × D)}, RpT K G v d → RpT K G' v d
  | _, _, .nil => .nil
  | _, _, .cons a b => .cons (Rp.same e a) (RpT.same e b)
theorem RpF.same {G G' : Hp} (e : Same G G') : ∀ {v : List (Str × V)} {d : List (Str × D)}, RpF K G v d → RpF K G' v d
  | _, _, .nil => .nil
  | _, _, .cons a b => .cons (Rp.same e a) (RpF.same e b)
end
theorem Rps.len {G : Hp} : ∀ {v : List V} {d : List D}, Rps K G v d → v.length = d.length
  | _, _, .nil => rfl
  | _, _, .cons _ b => by simp [Rps.len b]
theorem RpK.len {G : Hp} : ∀ {v : List (Key × V)} {d : List (Key × D)}, RpK K G v d → v.length = d.length
  | _, _, .nil => rfl
  | _, _, .cons _ b => by simp [RpK.len b]
theorem Rps.get {G : Hp} : ∀ {v : List V} {d : List D} {i : Nat} {x : D}, Rps K G v d → d[i]? = some x → ∃ y, v[i]? = some y ∧ Rp K G y x
  | _, _, _, _, .nil, e => by simp at e
  | _, _, 0, _, .cons a _, e => by simp at e; subst e; exact ⟨_, rfl, a⟩
  | _, _, i + 1, x, .cons _ b, e => by
    obtain ⟨y, h1, h2⟩ := Rps.get (i := i) (x := x) b (by simpa using e)
    exact ⟨y, by simpa using h1, h2⟩
theorem Rps.get' {G : Hp} {v : List V} {d : List D} {i : Nat} {y : V} (h : Rps K G v d) (e : v[i]? = some y) : ∃ x, d[i]? = some x ∧ Rp K G y x := by
  have hi : i < d.length := by rw [← h.len]; exact (List.getElem?_eq_some_iff.mp e).1
  obtain ⟨y', e', r⟩ := h.get (List.getElem?_eq_getElem hi)
  rw [e] at e'
  cases e'
  exact ⟨_, List.getElem?_eq_getElem hi, r⟩
theorem Rps.append {G : Hp} : ∀ {v w : List V} {d e : List D}, Rps K G v d → Rps K G w e → Rps K G (v ++ w) (d ++ e)
  | _, _, _, _, .nil, s => s
  | _, _, _, _, .cons r t, s => .cons r (Rps.append t s)
theorem Rps.one {G : Hp} {v : V} {d : D} (h : Rp K G v d) : Rps K G [v] [d] := .cons h .nil
theorem Rps.snoc {G : Hp} {v : List V} {d : List D} {x : V} {e : D} (h : Rps K G v d) (r : Rp K G x e) : Rps K G (v ++ [x]) (d ++ [e]) := h.append (.one r)
theorem Rps.reverse {G : Hp} : ∀ {v : List V} {d : List D}, Rps K G v d → Rps K G v.reverse d.reverse
  | _, _, .nil => .nil
  | _, _, .cons r t => by rw [List.reverse_cons, List.reverse_cons]; exact (Rps.reverse t).snoc r
theorem Rps.take {G : Hp} : ∀ {v : List V} {d : List D} (n : Nat), Rps K G v d → Rps K G (v.take n) (d.take n)
  | _, _, 0, _ => .nil
  | _, _, _ + 1, .nil => .nil
  | _, _, n + 1, .cons r t => .cons r (Rps.take n t)
theorem Rps.drop {G : Hp} : ∀ {v : List V} {d : List D} (n : Nat), Rps K G v d → Rps K G (v.drop n) (d.drop n)
  | _, _, 0, r => r
  | _, _, _ + 1, .nil => .nil
  | _, _, n + 1, .cons _ t => Rps.drop n t
theorem Rps.set {G : Hp} {x : V} {e : D} (r : Rp K G x e) : ∀ {v : List V} {d : List D} (i : Nat), Rps K G v d → Rps K G (v.set i x) (d.set i e)
  | _, _, _, .nil => .nil
  | _, _, 0, .cons _ t => .cons r t
  | _, _, i + 1, .cons q t => .cons q (Rps.set r i t)
theorem Rps.dropLast {G : Hp} {v : List V} {d : List D} (h : Rps K G v d) : Rps K G v.dropLast d.dropLast := by
  rw [List.dropLast_eq_take, List.dropLast_eq_take, h.len]
  exact h.take _
theorem Rps.strs {G : Hp} : ∀ {xs : List Str}, Rps K G (xs.map V.str) (xs.map D.str)
  | [] => .nil
  | _ :: _ => .cons (.str _) Rps.strs
theorem Rps.ints {G : Hp} : ∀ {xs : List Int}, Rps K G (xs.map V.int) (xs.map D.int)
  | [] => .nil
  | _ :: _ => .cons (.int _) Rps.ints
theorem Rp.str_inv {G : Hp} {v : V} {x : Str} (h : Rp K G v (.str x)) : v = .str x := by cases h; rfl
theorem Rp.int_inv {G : Hp} {v : V} {x : Int} (h : Rp K G v (.int x)) : v = .int x := by cases h; rfl
theorem Rp.bl_inv {G : Hp} {v : V} {x : Bool} (h : Rp K G v (.bl x)) : v = .bl x := by cases h; rfl
theorem Rp.non_inv {G : Hp} {v : V} (h : Rp K G v .non) : v = .non := by cases h; rfl
theorem Rp.lst_inv {G : Hp} {v : V} {ds : List D} (h : Rp K G v (.lst ds)) : ∃ a vs, v = .ref a ∧ SqL K G a vs ∧ Rps K G vs ds := by cases h; exact ⟨_, _, rfl, by assumption, by assumption⟩
theorem Rp.tup_inv {G : Hp} {v : V} {ds : List D} (h : Rp K G v (.tup ds)) : ∃ a vs, v = .ref a ∧ SqT K G a vs ∧ Rps K G vs ds := by cases h; exact ⟨_, _, rfl, by assumption, by assumption⟩
theorem Rp.tun_inv {G : Hp} {v : V} {ds : List D} (h : Rp K G v (.tun ds)) : ∃ a o vs, v = .ref a ∧ G a = some (.frz o (.tup vs)) ∧ o.dict = none ∧ Rps K G vs ds := by cases h; exact ⟨_, _, _, rfl, by assumption, by assumption, by assumption⟩
theorem Rp.untun {G : Hp} {v : V} {ds : List D} (h : Rp K G v (.tun ds)) : Rp K G v (.tup ds) := by
  obtain ⟨a, o, vs, rfl, h1, _, h3⟩ := h.tun_inv
  exact .tup (frz_t h1) h3
theorem Rp.dct_inv {G : Hp} {v : V} {es : List (Key × D)} (h : Rp K G v (.dct es)) : ∃ a kvs, v = .ref a ∧ G a = some (.dK kvs) ∧ RpK K G kvs es := by cases h; exact ⟨_, _, rfl, by assumption, by assumption⟩
theorem Rp.dcz_inv {G : Hp} {v : V} {es : List (Key × D)} (h : Rp K G v (.dcz es)) : ∃ a o kvs, v = .ref a ∧ G a = some (.frz o (.dK kvs)) ∧ RpK K G kvs es := by cases h; exact ⟨_, _, _, rfl, by assumption, by assumption⟩
theorem Rp.dcZ_inv {G : Hp} {v : V} {es : List (List Key × D)} (h : Rp K G v (.dcZ es)) : ∃ a o kvs, v = .ref a ∧ G a = some (.frz o (.dT kvs)) ∧ RpT K G kvs es := by cases h; exact ⟨_, _, _, rfl, by assumption, by assumption⟩
theorem Rp.dcT_inv {G : Hp} {v : V} {es : List (List Key × D)} (h : Rp K G v (.dcT es)) : ∃ a kvs, v = .ref a ∧ G a = some (.dT kvs) ∧ RpT K G kvs es := by cases h; exact ⟨_, _, rfl, by assumption, by assumption⟩
theorem Rp.obj_inv {G : Hp} {v : V} {C : Addr} {es : List (Str × D)} (h : Rp K G v (.obj C es)) : ∃ a dx fs, v = .ref a ∧ G a = some (.ins C dx fs) ∧ RpF K G fs es := by cases h; exact ⟨_, _, _, rfl, by assumption, by assumption⟩
theorem Rps.strs_inv {G : Hp} : ∀ {xs : List Str} {vs : List V}, Rps K G vs (xs.map D.str) → vs = xs.map V.str
  | [], _, h => by cases h; rfl
  | x :: xs, _, h => by
    cases h with
    | cons a b => rw [a.str_inv, Rps.strs_inv b]; rfl
theorem Rps.ints_inv {G : Hp} : ∀ {xs : List Int} {vs : List V}, Rps K G vs (xs.map D.int) → vs = xs.map V.int
  | [], _, h => by cases h; rfl
  | x :: xs, _, h => by
    cases h with
    | cons a b => rw [a.int_inv, Rps.ints_inv b]; rfl
theorem Rps.bls_inv {G : Hp} : ∀ {xs : List Bool} {vs : List V}, Rps K G vs (xs.map D.bl) → vs = xs.map V.bl
  | [], _, h => by cases h; rfl
  | x :: xs, _, h => by
    cases h with
    | cons a b => rw [a.bl_inv, Rps.bls_inv b]; rfl
/-- an entry of data by its key -/
def dval (es : List (Key × D)) (k : Key) : Option D := (es.find? fun p => decide (p.1 = k)).map (·.2)
def dputD (es : List (Key × D)) (k : Key) (d : D) : List (Key × D) := if es.any (fun p => decide (p.1 = k)) then es.map (fun p => if p.1 = k then (k, d) else p) else es ++ [(k, d)]
end
/-! slots of a def, by what they hold -/
/-- what a slot holds: nothing known; a thing that stays; a list, a dict, a set of its own that may yet change; a pen -/
inductive Sl where
  | un | v (d : D) | l (ds : List D) | d (es : List (Key × D)) | dt (es : List (List Key × D)) | k (S : Key → Bool) (n : Nat) | t (L : List (List Key)) | o (C : Addr) (fs : List (Str × D)) | p (n : Nat)
abbrev Env := List Sl
def Sl.own : Sl → Bool
  | .un => false
  | .v _ => false
  | _ => true
def Sl.lent : Sl → Bool
  | .p _ => true
  | .o _ _ => true
  | _ => false
def Sl.isp : Sl → Bool
  | .p _ => true
  | _ => false
/-- a kind of thing that may be new -/
def Sl.nu (s : Sl) : Bool := s.own && !s.isp
/-- what a def may change, what was known, what there was at its begin -/
structure Fr where
  P : Program
  w : World
  K : PySem.W.Frag
  M : Addr → Prop
  G0 : Hp
  H0 : Hp
  /-- the tables of the code objects of lambdas, and the names that these bear -/
  T : List (Addr × Str)
def SlOk (c : Fr) (G H : Hp) (s : Sl) (x : Option V) : Prop :=
  match s with
  | .un => True
  | .v d => ∃ v, x = some v ∧ Rp c.K G v d
  | .l ds => ∃ a vs, x = some (.ref a) ∧ H a = some (.lst vs) ∧ G a = none ∧ Rps c.K G vs ds
  | .d es => ∃ a kvs, x = some (.ref a) ∧ H a = some (.dK kvs) ∧ G a = none ∧ RpK c.K G kvs es
  | .dt es => ∃ a kvs, x = some (.ref a) ∧ H a = some (.dT kvs) ∧ G a = none ∧ RpT c.K G kvs es
  | .k S n => ∃ a, x = some (.ref a) ∧ H a = some (SetK c.P c.w a S n) ∧ G a = none
  | .t L => ∃ a A, x = some (.ref a) ∧ H a = some (SetTT c.P c.w a A) ∧ G a = none ∧ A.map (·.2) = L ∧ TupsIn c.K G A
  | .o C fs => ∃ a dx vs, x = some (.ref a) ∧ H a = some (.ins C dx vs) ∧ G a = none ∧ RpF c.K G vs fs
  | .p n => ∃ a, x = some (.ref a) ∧ Pen c.K G a n H
/-- the slot's own object stands at a -/
def Own (s : Sl) (x : Option V) (a : Addr) : Prop := s.own = true ∧ x = some (.ref a)
/-! the table of code objects that a def's lambdas are kept in -/
/-- neither a table nor a code object -/
def Plain (o : HO) : Prop := (∀ ps, o ≠ .tbl ps) ∧ ∀ c q, o ≠ LamX.CodeO c q
def TbK (c : Fr) (G H : Hp) : Prop := ∀ p ∈ c.T, c.H0 p.1 ≠ none ∧ G p.1 = none ∧ LamX.TabS H p.1 p.2
theorem Plain.any {o : HO} (h1 : ∀ ps, o ≠ .tbl ps) (h2 : ∀ f, o ≠ .ext f) : Plain o := ⟨h1, fun c q e => h2 _ e⟩
theorem plain_lst {vs : List V} : Plain (.lst vs) := Plain.any (fun _ h => nomatch h) fun _ h => nomatch h
theorem plain_dK {vs : List (Key × V)} : Plain (.dK vs) := Plain.any (fun _ h => nomatch h) fun _ h => nomatch h
theorem plain_dT {vs : List (List Key × V)} : Plain (.dT vs) := Plain.any (fun _ h => nomatch h) fun _ h => nomatch h
theorem plain_ins {C dx : Addr} {vs : List (Str × V)} : Plain (.ins C dx vs) := Plain.any (fun _ h => nomatch h) fun _ h => nomatch h
/-- a heap in which nothing but code objects of the name q stands -/
theorem heap_code (c : Nat) (q : Str) : ∃ h : Heap, (∃ (oc : Obj) (vs : Array Value) (t : Tok), h.get? c = some oc ∧ oc.data = .fields vs ∧ vs[1]? = some (.str q t)) ∧ ∀ a o, h.get? a = some o → ∃ vs, o.data = .fields vs := by
  refine ⟨Heap.mk (Array.replicate (c + 1) { cls := .none, data := .fields #[.none, .str q 0] }) {}, ⟨{ cls := .none, data := .fields #[.none, .str q 0] }, #[.none, .str q 0], 0, ?_, rfl, rfl⟩, fun a o h => ?_⟩
  · show (match (Array.replicate (c + 1) ({ cls := .none, data := .fields #[.none, .str q 0] } : Obj))[c]? with | some ⟨_, _, .freed, _⟩ => none | o => o) = _
    rw [Array.getElem?_replicate, if_pos (Nat.lt_succ_self c)]
  · have h' : (match (Array.replicate (c + 1) ({ cls := .none, data := .fields #[.none, .str q 0] } : Obj))[a]? with | some ⟨_, _, .freed, _⟩ => none | o => o) = some o := h
    rw [Array.getElem?_replicate] at h'
    split at h'
    · cases h'
    · rename_i e
      split at h'
      · cases h'; exact ⟨_, rfl⟩
      · cases h'
theorem plain_ext {f : Heap → Prop} (hf : ∀ h : Heap, (∀ a o, h.get? a = some o → ∃ vs, o.data = .fields vs) → ¬ f h) : Plain (.ext f) := ⟨(fun _ h => nomatch h), fun c q e => by
  obtain ⟨h, h1, h2⟩ := heap_code c q
  unfold LamX.CodeO at e
  have e2 := HO.ext.inj e
  exact hf h h2 (by rw [e2]; exact h1)⟩
theorem plain_SetK {P : Program} {w : World} {a : Addr} {S : Key → Bool} {n : Nat} : Plain (SetK P w a S n) := plain_ext fun h hh ⟨o, es, ep, t, h1, _, h2, _⟩ => by
  obtain ⟨vs, e⟩ := hh a o h1
  rw [h2] at e
  cases e
theorem plain_SetTT {P : Program} {w : World} {a : Addr} {L : List (Addr × List Key)} : Plain (SetTT P w a L) := plain_ext fun h hh hs => by
  obtain ⟨es, ep, t, ⟨o, h1, _, h2⟩, _⟩ := hs.ex
  obtain ⟨vs, e⟩ := hh a o h1
  rw [h2] at e
  cases e
theorem TbK.step {c : Fr} {M : Addr → Prop} {G H G' H' : Hp} (h : TbK c G H) (t : Stp M G H G' H') (hm : ∀ a o, M a → H a = some o → Plain o) : TbK c G' H' := fun p cm => by
  obtain ⟨n0, gP, ps, hP, ht, ha⟩ := h p cm
  have nP : ¬ M p.1 := fun m => (hm p.1 _ m hP).1 ps rfl
  have hP' := t.up p.1 _ nP hP
  refine ⟨n0, ?_, ps, hP', ht, fun pos cv hc => ?_⟩
  · rcases t.fr' p.1 _ hP with e | ⟨xs, e⟩
    · rw [e]; exact gP
    · have := t.gh p.1 _ e
      rw [hP'] at this
      cases this
  · obtain ⟨d, e1, e2⟩ := ha pos cv hc
    exact ⟨d, e1, t.up d _ (fun m => (hm d _ m e2).2 d p.2 rfl) e2⟩
theorem TbK.knowG {c : Fr} {G H : Hp} {a : Addr} {o : HO} (h : TbK c G H) (hn : c.H0 a = none) : TbK c (upd G a o) H := fun p cm =>
  ⟨(h p cm).1, by rw [upd_ne (fun z => (h p cm).1 (by rw [z]; exact hn))]; exact (h p cm).2.1, (h p cm).2.2⟩
theorem TbK.step0 {c : Fr} {G H G' H' : Hp} (h : TbK c G H) (t : Stp M0 G H G' H') : TbK c G' H' := h.step t fun _ _ m => m.elim
theorem TbK.step1 {c : Fr} {G H G' H' : Hp} {a : Addr} {o : HO} (h : TbK c G H) (t : Stp (M1 a) G H G' H') (ho : H a = some o) (hp : Plain o) : TbK c G' H' := h.step t fun b u m e => by
  rw [show b = a from m, ho] at e
  cases e
  exact hp
structure Sta (c : Fr) (G H : Hp) (ρ : Env) (σ : L2.St) : Prop where
  st : Stp c.M c.G0 c.H0 G H
  sl : Paired (SlOk c G H) ρ σ
  nw : ∀ (i : Nat) (s : Sl) (x : Option V) (a : Addr), ρ[i]? = some s → σ[i]? = some x → Own s x a → (s.lent = true ∧ c.M a) ∨ (s.isp = false ∧ c.H0 a = none)
  ds : ∀ (i j : Nat) (s t : Sl) (x y : Option V) (a : Addr), i ≠ j → ρ[i]? = some s → σ[i]? = some x → ρ[j]? = some t → σ[j]? = some y → Own s x a → ¬ Own t y a
  tb : TbK c G H
section
variable {c : Fr} {G H G' H' : Hp} {ρ : Env} {σ : L2.St} {i : Nat} {s : Sl} {x : Option V} {a : Addr} {o : HO}
theorem paired_get {α β : Type} {R : α → β → Prop} : ∀ {xs : List α} {ys : List β} {i : Nat} {x : α}, Paired R xs ys → xs[i]? = some x → ∃ y, ys[i]? = some y ∧ R x y
  | _, _, _, _, .nil, e => by simp at e
  | _, _, 0, _, .cons a _, e => by simp at e; subst e; exact ⟨_, rfl, a⟩
  | _, _, i + 1, x, .cons _ b, e => by
    obtain ⟨y, h1, h2⟩ := paired_get (i := i) (x := x) b (by simpa using e)
    exact ⟨y, by simpa using h1, h2⟩
theorem paired_set {α β : Type} {R : α → β → Prop} {x : α} {y : β} (r : R x y) : ∀ {xs : List α} {ys : List β} (i : Nat), Paired R xs ys → Paired R (xs.set i x) (ys.set i y)
  | _, _, _, .nil => .nil
  | _, _, 0, .cons _ t => .cons r t
  | _, _, i + 1, .cons q t => .cons q (paired_set r i t)
theorem paired_map {α β : Type} {R S : α → β → Prop} : ∀ {xs : List α} {ys : List β}, Paired R xs ys → (∀ (i : Nat) x y, xs[i]? = some x → ys[i]? = some y → R x y → S x y) → Paired S xs ys
  | _, _, .nil, _ => .nil
  | _, _, .cons a b, h => .cons (h 0 _ _ rfl rfl a) (paired_map b fun i x y h1 h2 => h (i + 1) x y (by simpa using h1) (by simpa using h2))
theorem SlOk.own (h : SlOk c G H s x) (e : s.own = true) : ∃ a o, x = some (.ref a) ∧ H a = some o ∧ G a = none := by
  cases s with
  | un => cases e
  | v d => cases e
  | l ds => obtain ⟨a, vs, h1, h2, h3, _⟩ := h; exact ⟨a, _, h1, h2, h3⟩
  | d es => obtain ⟨a, vs, h1, h2, h3, _⟩ := h; exact ⟨a, _, h1, h2, h3⟩
  | dt es => obtain ⟨a, vs, h1, h2, h3, _⟩ := h; exact ⟨a, _, h1, h2, h3⟩
  | k S n => obtain ⟨a, h1, h2, h3⟩ := h; exact ⟨a, _, h1, h2, h3⟩
  | t L => obtain ⟨a, A, h1, h2, h3, _⟩ := h; exact ⟨a, _, h1, h2, h3⟩
  | o C fs => obtain ⟨a, dx, vs, h1, h2, h3, _⟩ := h; exact ⟨a, _, h1, h2, h3⟩
  | p n => obtain ⟨a, h1, h2⟩ := h; obtain ⟨cc, aa, ll, q⟩ := h2.is; exact ⟨a, _, h1, q, h2.1⟩
theorem SlOk.plain (h : SlOk c G H s x) (e : s.own = true) (hx : x = some (.ref a)) (ho : H a = some o) : Plain o := by
  cases s with
  | un => cases e
  | v d => cases e
  | l ds => obtain ⟨b, vs, h1, h2, h3, _⟩ := h; rw [hx] at h1; cases h1; rw [ho] at h2; cases h2; exact plain_lst
  | d es => obtain ⟨b, vs, h1, h2, h3, _⟩ := h; rw [hx] at h1; cases h1; rw [ho] at h2; cases h2; exact plain_dK
  | dt es => obtain ⟨b, vs, h1, h2, h3, _⟩ := h; rw [hx] at h1; cases h1; rw [ho] at h2; cases h2; exact plain_dT
  | k S n => obtain ⟨b, h1, h2, h3⟩ := h; rw [hx] at h1; cases h1; rw [ho] at h2; rw [Option.some.inj h2]; exact plain_SetK
  | t L => obtain ⟨b, A, h1, h2, h3, _⟩ := h; rw [hx] at h1; cases h1; rw [ho] at h2; rw [Option.some.inj h2]; exact plain_SetTT
  | o C fs => obtain ⟨b, dx, vs, h1, h2, h3, _⟩ := h; rw [hx] at h1; cases h1; rw [ho] at h2; cases h2; exact plain_ins
  | p n => obtain ⟨b, h1, h2⟩ := h; rw [hx] at h1; cases h1; obtain ⟨cc, aa, ll, q⟩ := h2.is; rw [ho] at q; cases q; exact plain_dK
/-- what changes leaves the slot alone -/
theorem SlOk.stp {M : Addr → Prop} (h : SlOk c G H s x) (t : Stp M G H G' H') (n : ∀ a, Own s x a → ¬ M a) : SlOk c G' H' s x := by
  cases s with
  | un => trivial
  | v d => obtain ⟨v, h1, h2⟩ := h; exact ⟨v, h1, h2.same t.gg⟩
  | l ds => obtain ⟨a, vs, h1, h2, h3, h4⟩ := h; exact ⟨a, vs, h1, t.up _ _ (n a ⟨rfl, h1⟩) h2, (t.fr _ _ h2 (by intro xs z; cases z) (n a ⟨rfl, h1⟩)).trans h3, h4.same t.gg⟩
  | d es => obtain ⟨a, vs, h1, h2, h3, h4⟩ := h; exact ⟨a, vs, h1, t.up _ _ (n a ⟨rfl, h1⟩) h2, (t.fr _ _ h2 (by intro xs z; cases z) (n a ⟨rfl, h1⟩)).trans h3, h4.same t.gg⟩
  | dt es => obtain ⟨a, vs, h1, h2, h3, h4⟩ := h; exact ⟨a, vs, h1, t.up _ _ (n a ⟨rfl, h1⟩) h2, (t.fr _ _ h2 (by intro xs z; cases z) (n a ⟨rfl, h1⟩)).trans h3, h4.same t.gg⟩
  | k S n' => obtain ⟨a, h1, h2, h3⟩ := h; exact ⟨a, h1, t.up _ _ (n a ⟨rfl, h1⟩) h2, (t.fr _ _ h2 (by intro xs z; cases z) (n a ⟨rfl, h1⟩)).trans h3⟩
  | t L => obtain ⟨a, A, h1, h2, h3, h4, h5⟩ := h; exact ⟨a, A, h1, t.up _ _ (n a ⟨rfl, h1⟩) h2, (t.fr _ _ h2 (by intro xs z; cases z) (n a ⟨rfl, h1⟩)).trans h3, h4, fun p hp => Same.sqt t.gg (h5 p hp)⟩
  | o C fs => obtain ⟨a, dx, vs, h1, h2, h3, h4⟩ := h; exact ⟨a, dx, vs, h1, t.up _ _ (n a ⟨rfl, h1⟩) h2, (t.fr _ _ h2 (by intro xs z; cases z) (n a ⟨rfl, h1⟩)).trans h3, h4.same t.gg⟩
  | p m => obtain ⟨a, h1, h2⟩ := h; exact ⟨a, h1, h2.stp t (n a ⟨rfl, h1⟩)⟩
theorem Sta.gh (h : Sta c G H ρ σ) : Same G H := h.st.gh
theorem Sta.get (h : Sta c G H ρ σ) (e : ρ[i]? = some s) : ∃ x, σ[i]? = some x ∧ SlOk c G H s x := paired_get h.sl e
/-- a step that changes nothing of the slots -/
theorem Sta.stp0 (h : Sta c G H ρ σ) (t : Stp M0 G H G' H') : Sta c G' H' ρ σ :=
  ⟨h.st.trans t.weak, paired_map h.sl fun _ _ _ _ _ r => r.stp t fun _ _ z => z, h.nw, h.ds, h.tb.step0 t⟩
theorem own_un {x : Option V} : ¬ Own .un x a := fun h => by cases h.1
theorem own_v {d : D} {x : Option V} : ¬ Own (.v d) x a := fun h => by cases h.1
/-- a slot that bears nothing of its own takes another thing's place -/
theorem Sta.set (h : Sta c G H ρ σ) (ok : SlOk c G H s x) (hn : ∀ a, Own s x a → ((s.lent = true ∧ c.M a) ∨ (s.isp = false ∧ c.H0 a = none)) ∧ ∀ (j : Nat) (t : Sl) (y : Option V), j ≠ i → ρ[j]? = some t → σ[j]? = some y → ¬ Own t y a) : Sta c G H (ρ.set i s) (σ.set i x) := by
  have key : ∀ {j t y}, (ρ.set i s)[j]? = some t → (σ.set i x)[j]? = some y → (j = i ∧ t = s ∧ y = x) ∨ (j ≠ i ∧ ρ[j]? = some t ∧ σ[j]? = some y) := fun {j t y} e1 e2 => by
    by_cases q : j = i
    · subst q
      rw [List.getElem?_set] at e1 e2
      rw [if_pos rfl] at e1 e2
      split at e1
      · split at e2
        · exact .inl ⟨rfl, (Option.some.inj e1).symm, (Option.some.inj e2).symm⟩
        · cases e2
      · cases e1
    · rw [List.getElem?_set_ne (Ne.symm q)] at e1 e2
      exact .inr ⟨q, e1, e2⟩
  refine ⟨h.st, paired_set ok i h.sl, fun j t y a e1 e2 o => ?_, fun j k t u y z a jk e1 e2 e3 e4 o o' => ?_, h.tb⟩
  · rcases key e1 e2 with ⟨_, rfl, rfl⟩ | ⟨_, f1, f2⟩
    · exact (hn a o).1
    · exact h.nw j t y a f1 f2 o
  · rcases key e1 e2 with ⟨rfl, rfl, rfl⟩ | ⟨q1, f1, f2⟩
    · rcases key e3 e4 with ⟨rfl, _, _⟩ | ⟨q2, f3, f4⟩
      · exact jk rfl
      · exact (hn a o).2 k u z q2 f3 f4 o'
    · rcases key e3 e4 with ⟨rfl, rfl, rfl⟩ | ⟨q2, f3, f4⟩
      · exact (hn a o').2 j t y q1 f1 f2 o
      · exact h.ds j k t u y z a jk f1 f2 f3 f4 o o'
theorem Sta.setV (h : Sta c G H ρ σ) {v : V} {d : D} (r : Rp c.K G v d) : Sta c G H (ρ.set i (.v d)) (σ.set i (some v)) :=
  h.set ⟨v, rfl, r⟩ fun a o => absurd o own_v
theorem Sta.setU (h : Sta c G H ρ σ) (x : Option V) : Sta c G H (ρ.set i .un) (σ.set i x) :=
  h.set trivial fun a o => absurd o own_un
/-- no slot's own object -/
def NotOwn (ρ : Env) (σ : L2.St) (a : Addr) : Prop := ∀ (j : Nat) (t : Sl) (y : Option V), ρ[j]? = some t → σ[j]? = some y → ¬ Own t y a
theorem Sta.notOwn_new (h : Sta c G H ρ σ) (e : H a = none) : NotOwn ρ σ a := fun j t y e1 e2 o => by
  obtain ⟨x, f1, ok⟩ := h.get e1
  rw [e2] at f1
  cases f1
  obtain ⟨b, u, g1, g2, _⟩ := ok.own o.1
  rw [o.2] at g1
  cases g1
  rw [e] at g2
  cases g2
/-- a new object of one's own comes into a slot -/
theorem Sta.setN (h : Sta c G H ρ σ) (n : NotOwn ρ σ a) (w : (s.lent = true ∧ c.M a) ∨ (s.isp = false ∧ c.H0 a = none)) (ok : SlOk c G H s (some (.ref a))) : Sta c G H (ρ.set i s) (σ.set i (some (.ref a))) :=
  h.set ok fun b o => by
    have e := o.2
    cases e
    exact ⟨w, fun j t y _ e1 e2 => n j t y e1 e2⟩
/-- the slot's own object is changed -/
theorem Sta.mut (h : Sta c G H ρ σ) (e : ρ[i]? = some s) (f : σ[i]? = some (some (.ref a))) (ho : s.own = true) {u : HO} (hu : H a = some u) (hg : G a = none) {s' : Sl} (hl : s'.lent = s.lent) (hp : s'.isp = s.isp) (ok : SlOk c G (upd H a o) s' (some (.ref a))) : Sta c G (upd H a o) (ρ.set i s') σ := by
  have m := h.nw i s _ a e f ⟨ho, rfl⟩
  have t : Stp (M1 a) G H G (upd H a o) := Stp.mut h.gh hu hg rfl
  have hi : i < σ.length := (List.getElem?_eq_some_iff.mp f).1
  have hσ : σ.set i (some (.ref a)) = σ := by
    rw [List.getElem?_eq_getElem hi] at f
    rw [← Option.some.inj f]
    exact List.set_getElem_self hi
  have st' : Stp c.M c.G0 c.H0 G (upd H a o) := h.st.inner t fun b hb => by rw [show b = a from hb]; exact m.imp (fun z => z.2) (fun z => z.2)
  have key : ∀ {j q}, (ρ.set i s')[j]? = some q → (j = i ∧ q = s') ∨ (j ≠ i ∧ ρ[j]? = some q) := fun {j q} e1 => by
    by_cases z : j = i
    · subst z
      rw [List.getElem?_set, if_pos rfl] at e1
      split at e1
      · exact .inl ⟨rfl, (Option.some.inj e1).symm⟩
      · cases e1
    · rw [List.getElem?_set_ne (Ne.symm z)] at e1
      exact .inr ⟨z, e1⟩
  have sl0 : Paired (SlOk c G (upd H a o)) (ρ.set i .un) σ := by
    have h0 : Paired (SlOk c G H) (ρ.set i .un) σ := by
      have z := paired_set (R := SlOk c G H) (x := Sl.un) (y := some (V.ref a)) trivial i h.sl
      rwa [hσ] at z
    refine paired_map h0 fun j q y e1 e2 r => ?_
    by_cases z : j = i
    · subst z
      rw [List.getElem?_set, if_pos rfl] at e1
      split at e1
      · cases e1; trivial
      · cases e1
    · rw [List.getElem?_set_ne (Ne.symm z)] at e1
      refine r.stp t fun b ob hb => ?_
      rw [show b = a from hb] at ob
      exact h.ds j i q s y _ a z e1 e2 e f ob ⟨ho, rfl⟩
  have sl1 : Paired (SlOk c G (upd H a o)) (ρ.set i s') σ := by
    have z := paired_set (R := SlOk c G (upd H a o)) (x := s') (y := some (V.ref a)) ok i sl0
    rwa [hσ, List.set_set] at z
  refine ⟨st', sl1, fun j q y b e1 e2 ob => ?_, fun j k t' u' y z b jk e1 e2 e3 e4 o1 o2 => ?_, h.tb.step1 t hu (by
    obtain ⟨x0, f0, ok0⟩ := h.get e
    rw [f] at f0
    cases f0
    exact ok0.plain ho rfl hu)⟩
  · rcases key e1 with ⟨rfl, rfl⟩ | ⟨_, f1⟩
    · rw [f] at e2
      cases e2
      have := ob.2
      cases this
      rw [hl, hp]
      exact m
    · exact h.nw j q y b f1 e2 ob
  · rcases key e1 with ⟨rfl, rfl⟩ | ⟨q1, f1⟩
    · rcases key e3 with ⟨rfl, _⟩ | ⟨q2, f3⟩
      · exact jk rfl
      · rw [f] at e2
        cases e2
        exact h.ds _ k s u' _ z b jk e f f3 e4 ⟨ho, o1.2⟩ o2
    · rcases key e3 with ⟨rfl, rfl⟩ | ⟨q2, f3⟩
      · rw [f] at e4
        cases e4
        exact h.ds j _ t' s y _ b jk f1 e2 e f o1 ⟨ho, o2.2⟩
      · exact h.ds j k t' u' y z b jk f1 e2 f3 e4 o1 o2
/-- from now on the slot's own object stays -/
theorem Sta.freeze (h : Sta c G H ρ σ) (e : ρ[i]? = some s) (f : σ[i]? = some (some (.ref a))) (ho : s.own = true) (hu : H a = some o) (hn : c.H0 a = none) (hg : G a = none) {d : D} (r : Rp c.K (upd G a o) (.ref a) d) : Sta c (upd G a o) H (ρ.set i (.v d)) σ := by
  have hi : i < σ.length := (List.getElem?_eq_some_iff.mp f).1
  have hσ : σ.set i (some (.ref a)) = σ := by
    rw [List.getElem?_eq_getElem hi] at f
    rw [← Option.some.inj f]
    exact List.set_getElem_self hi
  have t : ∀ q y, SlOk c G H q y → ¬ Own q y a → SlOk c (upd G a o) H q y := fun q y ok no => by
    have sg : Same G (upd G a o) := same_new hg
    have ne : ∀ {b}, Own q y b → b ≠ a := fun ob z => no (z ▸ ob)
    cases q with
    | un => trivial
    | v d => obtain ⟨v, h1, h2⟩ := ok; exact ⟨v, h1, h2.same sg⟩
    | l ds => obtain ⟨b, vs, h1, h2, h3, h4⟩ := ok; exact ⟨b, vs, h1, h2, by rw [upd_ne (ne ⟨rfl, h1⟩)]; exact h3, h4.same sg⟩
    | d es => obtain ⟨b, vs, h1, h2, h3, h4⟩ := ok; exact ⟨b, vs, h1, h2, by rw [upd_ne (ne ⟨rfl, h1⟩)]; exact h3, h4.same sg⟩
    | dt es => obtain ⟨b, vs, h1, h2, h3, h4⟩ := ok; exact ⟨b, vs, h1, h2, by rw [upd_ne (ne ⟨rfl, h1⟩)]; exact h3, h4.same sg⟩
    | k S n => obtain ⟨b, h1, h2, h3⟩ := ok; exact ⟨b, h1, h2, by rw [upd_ne (ne ⟨rfl, h1⟩)]; exact h3⟩
    | t L => obtain ⟨b, A, h1, h2, h3, h4, h5⟩ := ok; exact ⟨b, A, h1, h2, by rw [upd_ne (ne ⟨rfl, h1⟩)]; exact h3, h4, fun p hp => Same.sqt sg (h5 p hp)⟩
    | o C fs => obtain ⟨b, dx, vs, h1, h2, h3, h4⟩ := ok; exact ⟨b, dx, vs, h1, h2, by rw [upd_ne (ne ⟨rfl, h1⟩)]; exact h3, h4.same sg⟩
    | p m => obtain ⟨b, h1, h2⟩ := ok; exact ⟨b, h1, h2.know sg (by rw [upd_ne (ne ⟨rfl, h1⟩)]; exact h2.1)⟩
  have key : ∀ {j q}, (ρ.set i (.v d))[j]? = some q → (j = i ∧ q = .v d) ∨ (j ≠ i ∧ ρ[j]? = some q) := fun {j q} e1 => by
    by_cases z : j = i
    · subst z
      rw [List.getElem?_set, if_pos rfl] at e1
      split at e1
      · exact .inl ⟨rfl, (Option.some.inj e1).symm⟩
      · cases e1
    · rw [List.getElem?_set_ne (Ne.symm z)] at e1
      exact .inr ⟨z, e1⟩
  have sl1 : Paired (SlOk c (upd G a o) H) (ρ.set i (.v d)) σ := by
    have h0 : Paired (SlOk c G H) (ρ.set i .un) σ := by
      have z := paired_set (R := SlOk c G H) (x := Sl.un) (y := some (V.ref a)) trivial i h.sl
      rwa [hσ] at z
    have h1 : Paired (SlOk c (upd G a o) H) (ρ.set i .un) σ := paired_map h0 fun j q y e1 e2 ok => t q y ok fun ob => by
      by_cases z : j = i
      · subst z
        rw [List.getElem?_set, if_pos rfl] at e1
        split at e1
        · cases e1; exact own_un ob
        · cases e1
      · rw [List.getElem?_set_ne (Ne.symm z)] at e1
        exact h.ds j i q s y _ a z e1 e2 e f ob ⟨ho, rfl⟩
    have z := paired_set (R := SlOk c (upd G a o) H) (x := Sl.v d) (y := some (V.ref a)) ⟨_, rfl, r⟩ i h1
    rwa [hσ, List.set_set] at z
  refine ⟨h.st.freeze hu hn hg, sl1, fun j q y b e1 e2 ob => ?_, fun j k t' u' y z b jk e1 e2 e3 e4 o1 o2 => ?_, h.tb.knowG hn⟩
  · rcases key e1 with ⟨rfl, rfl⟩ | ⟨_, f1⟩
    · exact absurd ob own_v
    · exact h.nw j q y b f1 e2 ob
  · rcases key e1 with ⟨rfl, rfl⟩ | ⟨q1, f1⟩
    · exact own_v o1
    · rcases key e3 with ⟨rfl, rfl⟩ | ⟨q2, f3⟩
      · exact own_v o2
      · exact h.ds j k t' u' y z b jk f1 e2 f3 e4 o1 o2
/-- a def's begin: nothing of one's own -/
theorem Sta.begin {P : Program} {w : World} {K : PySem.W.Frag} {M : Addr → Prop} (g : Same G H) (sl : Paired (SlOk ⟨P, w, K, M, G, H, []⟩ G H) ρ σ) (ho : ∀ (i : Nat) (s : Sl) (x : Option V) (a : Addr), ρ[i]? = some s → σ[i]? = some x → Own s x a → s.lent = true ∧ M a)
    (hd : ∀ (i j : Nat) (s t : Sl) (x y : Option V) (a : Addr), i ≠ j → ρ[i]? = some s → σ[i]? = some x → ρ[j]? = some t → σ[j]? = some y → Own s x a → ¬ Own t y a) : Sta ⟨P, w, K, M, G, H, []⟩ G H ρ σ :=
  ⟨Stp.refl g, sl, fun i s x a e1 e2 o => .inl (ho i s x a e1 e2 o), hd, fun p z => nomatch z⟩
end
/-! readings over slots: a construct's reading over the heap follows from one over data -/
/-- what may be looked at: a thing that stays, or a list or dict of one's own as it is just now -/
def Po (K : PySem.W.Frag) (G H : Hp) (v : V) (d : D) : Prop :=
  Rp K G v d ∨ (∃ a vs ds, v = .ref a ∧ d = .lst ds ∧ H a = some (.lst vs) ∧ Rps K G vs ds) ∨ (∃ a kvs es, v = .ref a ∧ d = .dct es ∧ H a = some (.dK kvs) ∧ RpK K G kvs es) ∨
    (∃ a kvs es, v = .ref a ∧ d = .dcT es ∧ H a = some (.dT kvs) ∧ RpT K G kvs es)
abbrev PQ := Env → (D → Prop) → Prop
abbrev PX := Env → (D → Env → Prop) → Prop
abbrev PN := Env → (Sl → Env → Prop) → Prop
abbrev PB := Env → (Bool → Prop) → Prop
abbrev PBX := Env → (Bool → Env → Prop) → Prop
abbrev PAQ := Env → (List D → Prop) → Prop
abbrev PAX := Env → (List D → Env → Prop) → Prop
structure RQ (c : Fr) (te : TE) (p : PQ) : Prop where
  run : ∀ {ρ : Env} {σ : L2.St} {G H : Hp} {Q : VK} {R : D → Prop}, Sta c G H ρ σ → p ρ R → (∀ d v G' H', R d → Stp M0 G H G' H' → Rp c.K G' v d → Q v H') → te σ H Q
structure RO (c : Fr) (te : TE) (p : PQ) : Prop where
  run : ∀ {ρ : Env} {σ : L2.St} {G H : Hp} {Q : VK} {R : D → Prop}, Sta c G H ρ σ → p ρ R → (∀ d v G' H', R d → Stp M0 G H G' H' → Po c.K G' H' v d → Q v H') → te σ H Q
/-- a step of the heap and of the slots: what no slot owned stands as it stood -/
structure Mv (c : Fr) (σ : L2.St) (G H : Hp) (ρ : Env) (G' H' : Hp) (ρ' : Env) : Prop where
  s : Sta c G' H' ρ' σ
  g : Same G G'
  no : ∀ a, NotOwn ρ σ a → NotOwn ρ' σ a
  kp : ∀ a o, H a = some o → NotOwn ρ σ a → (∀ ps, o ≠ .tbl ps) → H' a = some o
  fr' : ∀ a o, H a = some o → NotOwn ρ σ a → G' a = G a ∨ ∃ xs, G' a = some (.tup xs)
  th : ∀ a o, H a = some o → ∃ o', H' a = some o'
theorem Mv.fr {c : Fr} {σ : L2.St} {G H G' H' : Hp} {ρ ρ' : Env} (m : Mv c σ G H ρ G' H' ρ') (a : Addr) (o : HO) (e : H a = some o) (no : NotOwn ρ σ a) (ho : ∀ xs, o ≠ .tup xs := by intro xs z; cases z) (ht : ∀ ps, o ≠ .tbl ps := by intro ps z; cases z) : G' a = G a := by
  rcases m.fr' a o e no with h | ⟨xs, h⟩
  · exact h
  · have h1 := m.s.gh a _ h
    rw [m.kp a o e no ht] at h1
    exact absurd (Option.some.inj h1) (ho xs)
theorem Mv.trans {c : Fr} {σ : L2.St} {G H G1 H1 G2 H2 : Hp} {ρ ρ1 ρ2 : Env} (a : Mv c σ G H ρ G1 H1 ρ1) (b : Mv c σ G1 H1 ρ1 G2 H2 ρ2) : Mv c σ G H ρ G2 H2 ρ2 :=
  ⟨b.s, a.g.trans b.g, fun x h => b.no x (a.no x h), fun x o e h n => b.kp x o (a.kp x o e h n) (a.no x h) n, fun x o e h => by
    obtain ⟨o', e'⟩ := a.th x o e
    exact fr_trans (b.g x) (a.fr' x o e h) (b.fr' x o' e' (a.no x h)), fun x o e => by
    obtain ⟨o', e'⟩ := a.th x o e
    exact b.th x o' e'⟩
theorem Mv.of {c : Fr} {σ : L2.St} {G H G' H' : Hp} {ρ : Env} (s : Sta c G H ρ σ) (t : Stp M0 G H G' H') : Mv c σ G H ρ G' H' ρ := ⟨s.stp0 t, t.gg, fun _ h => h, fun a o e _ _ => t.up a o (fun z => z) e, fun a o e _ => t.fr' a o e, t.th⟩
theorem Mv.free {c : Fr} {σ : L2.St} {G H G' H' : Hp} {ρ ρ' : Env} {a : Addr} (m : Mv c σ G H ρ G' H' ρ') (e : H' a = none) : H a = none := by
  cases q : H a with
  | none => rfl
  | some o => obtain ⟨o', z⟩ := m.th a o q; rw [e] at z; cases z
theorem Mv.stp {c : Fr} {σ : L2.St} {G H G1 H1 G2 H2 : Hp} {ρ ρ1 : Env} (a : Mv c σ G H ρ G1 H1 ρ1) (t : Stp M0 G1 H1 G2 H2) : Mv c σ G H ρ G2 H2 ρ1 := a.trans (Mv.of a.s t)
structure RX (c : Fr) (te : TE) (p : PX) : Prop where
  run : ∀ {ρ : Env} {σ : L2.St} {G H : Hp} {Q : VK} {R : D → Env → Prop}, Sta c G H ρ σ → p ρ R → (∀ d ρ' v G' H', R d ρ' → Mv c σ G H ρ G' H' ρ' → Rp c.K G' v d → Q v H') → te σ H Q
/-- a new thing of one's own; nothing else happens -/
structure RN (c : Fr) (te : TE) (p : Env → (Sl → Prop) → Prop) : Prop where
  run : ∀ {ρ : Env} {σ : L2.St} {G H : Hp} {Q : VK} {R : Sl → Prop}, Sta c G H ρ σ → p ρ R →
    (∀ s a G' H', R s → Stp M0 G H G' H' → SlOk c G' H' s (some (.ref a)) → s.nu = true → H a = none → Q (.ref a) H') → te σ H Q
/-- a new thing of one's own -/
structure RNX (c : Fr) (te : TE) (p : PN) : Prop where
  run : ∀ {ρ : Env} {σ : L2.St} {G H : Hp} {Q : VK} {R : Sl → Env → Prop}, Sta c G H ρ σ → p ρ R →
    (∀ s ρ' a G' H', R s ρ' → Mv c σ G H ρ G' H' ρ' → SlOk c G' H' s (some (.ref a)) → s.nu = true → H a = none → Q (.ref a) H') → te σ H Q
structure RB (c : Fr) (tt : TT) (p : PB) : Prop where
  run : ∀ {ρ : Env} {σ : L2.St} {G H : Hp} {Q : Bool → Hp → Prop} {R : Bool → Prop}, Sta c G H ρ σ → p ρ R → (∀ b G' H', R b → Stp M0 G H G' H' → Q b H') → tt σ H Q
structure RBX (c : Fr) (tt : TT) (p : PBX) : Prop where
  run : ∀ {ρ : Env} {σ : L2.St} {G H : Hp} {Q : Bool → Hp → Prop} {R : Bool → Env → Prop}, Sta c G H ρ σ → p ρ R → (∀ b ρ' G' H', R b ρ' → Mv c σ G H ρ G' H' ρ' → Q b H') → tt σ H Q
structure RA (c : Fr) (ta : TA) (p : PAQ) : Prop where
  run : ∀ {ρ : Env} {σ : L2.St} {G H : Hp} {Q : List V → Hp → Prop} {R : List D → Prop}, Sta c G H ρ σ → p ρ R → (∀ d v G' H', R d → Stp M0 G H G' H' → Rps c.K G' v d → Q v H') → ta σ H Q
structure RAX (c : Fr) (ta : TA) (p : PAX) : Prop where
  run : ∀ {ρ : Env} {σ : L2.St} {G H : Hp} {Q : List V → Hp → Prop} {R : List D → Env → Prop}, Sta c G H ρ σ → p ρ R → (∀ d ρ' v G' H', R d ρ' → Mv c σ G H ρ G' H' ρ' → Rps c.K G' v d → Q v H') → ta σ H Q
/-- one argument that is only looked at -/
structure RAO (c : Fr) (ta : TA) (p : PQ) : Prop where
  run : ∀ {ρ : Env} {σ : L2.St} {G H : Hp} {Q : List V → Hp → Prop} {R : D → Prop}, Sta c G H ρ σ → p ρ R → (∀ d v G' H', R d → Stp M0 G H G' H' → Po c.K G' H' v d → Q [v] H') → ta σ H Q
structure PEnds where
  nx : Env → Prop
  rt : D → Env → Prop
  bk : Env → Prop := fun _ => False
  ct : Env → Prop := fun _ => False
  rn : Sl → Env → Prop := fun _ _ => False
  rt2 : Sl → Sl → Env → Prop := fun _ _ _ => False
/-- a thing of one's own as data -/
def Sl.dat : Sl → Option D
  | .l ds => some (.lst ds)
  | .d es => some (.dct es)
  | .dt es => some (.dcT es)
  | .o C fs => some (.obj C fs)
  | _ => none
structure Lk (c : Fr) (Gb : Hp) (D' : Ends) (E : PEnds) : Prop where
  nx : ∀ ρ σ G H, Same Gb G → Sta c G H ρ σ → E.nx ρ → D'.nx σ H
  rt : ∀ d ρ σ v G H, Same Gb G → Sta c G H ρ σ → E.rt d ρ → Rp c.K G v d → D'.rt v H
  bk : ∀ ρ σ G H, Same Gb G → Sta c G H ρ σ → E.bk ρ → D'.bk σ H
  ct : ∀ ρ σ G H, Same Gb G → Sta c G H ρ σ → E.ct ρ → D'.ct σ H
  rn : ∀ s ρ σ a G H, Same Gb G → Sta c G H ρ σ → E.rn s ρ → SlOk c G H s (some (.ref a)) → s.nu = true → c.H0 a = none → D'.rt (.ref a) H
  rt2 : ∀ s s' ρ σ t a b G H, Same Gb G → Sta c G H ρ σ → E.rt2 s s' ρ → SqT c.K G t [.ref a, .ref b] → SlOk c G H s (some (.ref a)) → SlOk c G H s' (some (.ref b)) → s.nu = true → s'.nu = true → c.H0 a = none → c.H0 b = none → a ≠ b → D'.rt (.ref t) H
theorem Lk.mono {c : Fr} {G G1 : Hp} {D' : Ends} {E : PEnds} (l : Lk c G D' E) (g : Same G G1) : Lk c G1 D' E :=
  ⟨fun ρ σ G H g' => l.nx ρ σ G H (g.trans g'), fun d ρ σ v G H g' => l.rt d ρ σ v G H (g.trans g'), fun ρ σ G H g' => l.bk ρ σ G H (g.trans g'), fun ρ σ G H g' => l.ct ρ σ G H (g.trans g'), fun s ρ σ a G H g' => l.rn s ρ σ a G H (g.trans g'), fun s s' ρ σ t a b G H g' => l.rt2 s s' ρ σ t a b G H (g.trans g')⟩
structure RS (c : Fr) (t : TS) (p : PEnds → Env → Prop) : Prop where
  run : ∀ {ρ : Env} {σ : L2.St} {G H : Hp} {D' : Ends} {E : PEnds}, Sta c G H ρ σ → p E ρ → Lk c G D' E → t D' σ H
/-- an operation on what is looked at -/
structure OQ (K : PySem.W.Frag) (r : R2) (f : D → D → (D → Prop) → Prop) : Prop where
  run : ∀ {x y : V} {d e : D} {G H : Hp} {Q : VK} {R : D → Prop}, Same G H → Po K G H x d → Po K G H y e → f d e R → (∀ z v G' H', R z → Stp M0 G H G' H' → Rp K G' v z → Q v H') → r x y H Q
/-- a built-in's call on what is looked at -/
structure CQ (K : PySem.W.Frag) (r : List V → Hp → VK → Prop) (f : D → (D → Prop) → Prop) : Prop where
  run : ∀ {x : V} {d : D} {G H : Hp} {Q : VK} {R : D → Prop}, Same G H → Po K G H x d → f d R → (∀ z v G' H', R z → Stp M0 G H G' H' → Rp K G' v z → Q v H') → r [x] H Q
structure CQs (K : PySem.W.Frag) (r : List V → Hp → VK → Prop) (f : List D → (D → Prop) → Prop) : Prop where
  run : ∀ {x : List V} {d : List D} {G H : Hp} {Q : VK} {R : D → Prop}, Same G H → Rps K G x d → f d R → (∀ z v G' H', R z → Stp M0 G H G' H' → Rp K G' v z → Q v H') → r x H Q
section
variable {c : Fr} {K : PySem.W.Frag} {G H G' H' : Hp} {ρ : Env} {σ : L2.St} {v : V} {d : D}
theorem Po.of (h : Rp K G v d) : Po K G H v d := .inl h
theorem Po.stp (h : Po K G H v d) (t : Stp M0 G H G' H') : Po K G' H' v d := by
  rcases h with h | ⟨a, vs, ds, h1, h2, h3, h4⟩ | ⟨a, vs, ds, h1, h2, h3, h4⟩ | ⟨a, vs, ds, h1, h2, h3, h4⟩
  · exact .inl (h.same t.gg)
  · exact .inr (.inl ⟨a, vs, ds, h1, h2, t.up _ _ (fun z => z) h3, h4.same t.gg⟩)
  · exact .inr (.inr (.inl ⟨a, vs, ds, h1, h2, t.up _ _ (fun z => z) h3, h4.same t.gg⟩))
  · exact .inr (.inr (.inr ⟨a, vs, ds, h1, h2, t.up _ _ (fun z => z) h3, h4.same t.gg⟩))
theorem Po.lst {ds : List D} (h : Po K G H v (.lst ds)) (g : Same G H) : ∃ a vs, v = .ref a ∧ SqL K H a vs ∧ Rps K G vs ds := by
  rcases h with h | ⟨a, vs, ds', h1, h2, h3, h4⟩ | ⟨a, vs, ds', h1, h2, h3, h4⟩ | ⟨a, vs, ds', h1, h2, h3, h4⟩
  · obtain ⟨a, vs, e, h1, h2⟩ := h.lst_inv
    exact ⟨a, vs, e, g.seq h1, h2⟩
  · cases h2
    exact ⟨a, vs, h1, lof h3, h4⟩
  · cases h2
  · cases h2
theorem Po.rp (h : Po K G H v d) (hd : ∀ ds, d ≠ .lst ds) (he : ∀ es, d ≠ .dct es) (hf : ∀ es, d ≠ .dcT es) : Rp K G v d := by
  rcases h with h | ⟨a, vs, ds', h1, h2, h3, h4⟩ | ⟨a, vs, ds', h1, h2, h3, h4⟩ | ⟨a, vs, ds', h1, h2, h3, h4⟩
  · exact h
  · exact absurd h2 (hd _)
  · exact absurd h2 (he _)
  · exact absurd h2 (hf _)
/-- a tuple, of either sort -/
def Tp (d : D) (ds : List D) : Prop := d = .tup ds ∨ d = .tun ds
theorem Po.tp {ds : List D} (h : Po K G H v d) (t : Tp d ds) (g : Same G H) : ∃ a vs, v = .ref a ∧ SqT K G a vs ∧ SqT K H a vs ∧ Rps K G vs ds := by
  rcases t with rfl | rfl
  · obtain ⟨a, vs, e, h1, h2⟩ := (h.rp (fun _ e => by cases e) (fun _ e => by cases e) (fun _ e => by cases e)).tup_inv
    exact ⟨a, vs, e, h1, Same.sqt g h1, h2⟩
  · obtain ⟨a, vs, e, h1, h2⟩ := (h.rp (fun _ e => by cases e) (fun _ e => by cases e) (fun _ e => by cases e)).untun.tup_inv
    exact ⟨a, vs, e, h1, Same.sqt g h1, h2⟩
theorem Po.str {x : Str} (h : Po K G H v (.str x)) : v = .str x := (h.rp (fun _ e => by cases e) (fun _ e => by cases e) (fun _ e => by cases e)).str_inv
theorem Po.int {x : Int} (h : Po K G H v (.int x)) : v = .int x := (h.rp (fun _ e => by cases e) (fun _ e => by cases e) (fun _ e => by cases e)).int_inv
theorem Po.bl {x : Bool} (h : Po K G H v (.bl x)) : v = .bl x := (h.rp (fun _ e => by cases e) (fun _ e => by cases e) (fun _ e => by cases e)).bl_inv
theorem Po.non (h : Po K G H v .non) : v = .non := (h.rp (fun _ e => by cases e) (fun _ e => by cases e) (fun _ e => by cases e)).non_inv
/-- a dict by numbers or texts, whether frozen or not -/
def Dkt (d : D) (es : List (Key × D)) : Prop := d = .dct es ∨ d = .dcz es
/-- a dict by tuples -/
def DT (d : D) (es : List (List Key × D)) : Prop := d = .dcT es ∨ d = .dcZ es
theorem Po.dct {es : List (Key × D)} (h : Po K G H v (.dct es)) (g : Same G H) : ∃ a kvs, v = .ref a ∧ H a = some (.dK kvs) ∧ RpK K G kvs es := by
  rcases h with h | ⟨a, vs, ds', h1, h2, h3, h4⟩ | ⟨a, vs, ds', h1, h2, h3, h4⟩ | ⟨a, vs, ds', h1, h2, h3, h4⟩
  · obtain ⟨a, vs, e, h1, h2⟩ := h.dct_inv
    exact ⟨a, vs, e, g _ _ h1, h2⟩
  · cases h2
  · cases h2
    exact ⟨a, vs, h1, h3, h4⟩
  · cases h2
theorem Po.dk {es : List (Key × D)} (h : Po K G H v d) (e : Dkt d es) (g : Same G H) : ∃ a kvs, v = .ref a ∧ L2.Rd H a (.dK kvs) ∧ RpK K G kvs es := by
  rcases e with rfl | rfl
  · obtain ⟨a, kvs, e1, e2, e3⟩ := h.dct g
    exact ⟨a, kvs, e1, .inl e2, e3⟩
  · obtain ⟨a, o, kvs, e1, e2, e3⟩ := (h.rp (fun _ e => by cases e) (fun _ e => by cases e) (fun _ e => by cases e)).dcz_inv
    exact ⟨a, kvs, e1, .inr ⟨o, g _ _ e2⟩, e3⟩
theorem Po.dT {es : List (List Key × D)} (h : Po K G H v d) (e : DT d es) (g : Same G H) : ∃ a kvs, v = .ref a ∧ L2.Rd H a (.dT kvs) ∧ RpT K G kvs es := by
  rcases e with rfl | rfl
  · rcases h with h | ⟨a, vs, ds', h1, h2, h3, h4⟩ | ⟨a, vs, ds', h1, h2, h3, h4⟩ | ⟨a, vs, ds', h1, h2, h3, h4⟩
    · obtain ⟨a, kvs, e1, e2, e3⟩ := h.dcT_inv
      exact ⟨a, kvs, e1, .inl (g _ _ e2), e3⟩
    · cases h2
    · cases h2
    · cases h2
      exact ⟨a, vs, h1, .inl h3, h4⟩
  · obtain ⟨a, o, kvs, e1, e2, e3⟩ := (h.rp (fun _ e => by cases e) (fun _ e => by cases e) (fun _ e => by cases e)).dcZ_inv
    exact ⟨a, kvs, e1, .inr ⟨o, g _ _ e2⟩, e3⟩
/-- a thing of one's own, from now on known -/
theorem SlOk.datRp {s : Sl} {a : Addr} (ok : SlOk c G H s (some (.ref a))) {d : D} (q : s.dat = some d) : ∃ o, H a = some o ∧ G a = none ∧ Rp c.K (upd G a o) (.ref a) d := by
  cases s with
  | l ds =>
    cases q
    obtain ⟨b, vs, e, h2, h3, h4⟩ := ok
    cases e
    exact ⟨_, h2, h3, .lst (lof upd_same) (h4.same (same_new h3))⟩
  | d es =>
    cases q
    obtain ⟨b, vs, e, h2, h3, h4⟩ := ok
    cases e
    exact ⟨_, h2, h3, .dct upd_same (h4.same (same_new h3))⟩
  | dt es =>
    cases q
    obtain ⟨b, vs, e, h2, h3, h4⟩ := ok
    cases e
    exact ⟨_, h2, h3, .dcT upd_same (h4.same (same_new h3))⟩
  | o C fs =>
    cases q
    obtain ⟨b, dx, vs, e, h2, h3, h4⟩ := ok
    cases e
    exact ⟨_, h2, h3, .obj upd_same (h4.same (same_new h3))⟩
  | _ => cases q
/-- a new thing that no slot bears comes to be known -/
theorem Sta.know (h : Sta c G H ρ σ) {a : Addr} {o : HO} (hu : H a = some o) (hn : c.H0 a = none) (hg : G a = none) (no : NotOwn ρ σ a) : Sta c (upd G a o) H ρ σ := by
  refine ⟨h.st.freeze hu hn hg, paired_map h.sl fun j q y e1 e2 ok => ?_, h.nw, h.ds, h.tb.knowG hn⟩
  have sg : Same G (upd G a o) := same_new hg
  have ne : ∀ {b}, Own q y b → b ≠ a := fun ob z => no j q y e1 e2 (z ▸ ob)
  cases q with
  | un => trivial
  | v d => obtain ⟨v, h1, h2⟩ := ok; exact ⟨v, h1, h2.same sg⟩
  | l ds => obtain ⟨b, vs, h1, h2, h3, h4⟩ := ok; exact ⟨b, vs, h1, h2, by rw [upd_ne (ne ⟨rfl, h1⟩)]; exact h3, h4.same sg⟩
  | d es => obtain ⟨b, vs, h1, h2, h3, h4⟩ := ok; exact ⟨b, vs, h1, h2, by rw [upd_ne (ne ⟨rfl, h1⟩)]; exact h3, h4.same sg⟩
  | dt es => obtain ⟨b, vs, h1, h2, h3, h4⟩ := ok; exact ⟨b, vs, h1, h2, by rw [upd_ne (ne ⟨rfl, h1⟩)]; exact h3, h4.same sg⟩
  | k S n => obtain ⟨b, h1, h2, h3⟩ := ok; exact ⟨b, h1, h2, by rw [upd_ne (ne ⟨rfl, h1⟩)]; exact h3⟩
  | t L => obtain ⟨b, A, h1, h2, h3, h4, h5⟩ := ok; exact ⟨b, A, h1, h2, by rw [upd_ne (ne ⟨rfl, h1⟩)]; exact h3, h4, fun p hp => Same.sqt sg (h5 p hp)⟩
  | o C fs => obtain ⟨b, dx, vs, h1, h2, h3, h4⟩ := ok; exact ⟨b, dx, vs, h1, h2, by rw [upd_ne (ne ⟨rfl, h1⟩)]; exact h3, h4.same sg⟩
  | p m => obtain ⟨b, h1, h2⟩ := ok; exact ⟨b, h1, h2.know sg (by rw [upd_ne (ne ⟨rfl, h1⟩)]; exact h2.1)⟩

theorem NotOwn.un {i : Nat} {s : Sl} {a : Addr} {t : Sl} (h : NotOwn ρ σ a) (e : ρ[i]? = some s) (n : t.own = false) : NotOwn (ρ.set i t) σ a := fun j q y e1 e2 o => by
  by_cases z : j = i
  · subst z
    rw [List.getElem?_set, if_pos rfl] at e1
    split at e1
    · cases e1
      have := o.1
      rw [n] at this
      cases this
    · cases e1
  · rw [List.getElem?_set_ne (Ne.symm z)] at e1
    exact h j q y e1 e2 o
/-! ### one judgement out of another -/
theorem RQ.o {te : TE} {p : PQ} (h : RQ c te p) : RO c te p := ⟨fun s q k => h.run s q fun d v G' H' r t x => k d v G' H' r t (.inl x)⟩
theorem RQ.x {te : TE} {p : PQ} (h : RQ c te p) : RX c te (fun ρ R => p ρ fun d => R d ρ) := ⟨fun s q k => h.run s q fun d v G' H' r t x => k d _ v G' H' r (Mv.of s t) x⟩
theorem RB.x {te : TT} {p : PB} (h : RB c te p) : RBX c te (fun ρ R => p ρ fun d => R d ρ) := ⟨fun s q k => h.run s q fun d G' H' r t => k d _ G' H' r (Mv.of s t)⟩
theorem RA.x {te : TA} {p : PAQ} (h : RA c te p) : RAX c te (fun ρ R => p ρ fun d => R d ρ) := ⟨fun s q k => h.run s q fun d v G' H' r t x => k d _ v G' H' r (Mv.of s t) x⟩
theorem RNX.x {te : TE} {p : PN} (h : RNX c te p) : RX c te (fun ρ R => p ρ fun s ρ' => ∃ d, s.dat = some d ∧ R d ρ') :=
  ⟨fun s q k => h.run s q fun t ρ' a G' H' ⟨d, e, r⟩ m ok ow hn => by
    obtain ⟨o, h1, h2, h3⟩ := ok.datRp e
    exact k d ρ' _ _ H' r ⟨m.s.know h1 (s.st.free hn) h2 (m.no a (s.notOwn_new hn)), m.g.trans (same_new h2), m.no, m.kp, fun b u e no => by rw [upd_ne (ne_of_none e hn)]; exact m.fr' b u e no, m.th⟩ h3⟩
theorem RN.nx {te : TE} {p : Env → (Sl → Prop) → Prop} (h : RN c te p) : RNX c te (fun ρ R => p ρ fun s => R s ρ) :=
  ⟨fun s q k => h.run s q fun t a G' H' r st ok ow hn => k t _ a G' H' r (Mv.of s st) ok ow hn⟩
theorem RN.q {te : TE} {p : Env → (Sl → Prop) → Prop} (h : RN c te p) : RQ c te (fun ρ R => p ρ fun s => ∃ d, s.dat = some d ∧ R d) :=
  ⟨fun s q k => h.run s q fun t a G' H' ⟨d, e, r⟩ st ok ow hn => by
    obtain ⟨o, h1, h2, h3⟩ := ok.datRp e
    exact k d _ _ H' r (st.freeze h1 hn h2) h3⟩
/-! ### names, constants -/
def pVar (i : Nat) : PQ := fun ρ R => ∃ d, ρ[i]? = some (.v d) ∧ R d
def pSee (i : Nat) : PQ := fun ρ R => ∃ s d, ρ[i]? = some s ∧ (s = .v d ∨ s.dat = some d ∧ ∀ C fs, s ≠ .o C fs) ∧ R d
/-- a thing of one's own is given away: it stays from now on -/
def pGive (i : Nat) : PX := fun ρ R => ∃ s d, ρ[i]? = some s ∧ ((s = .v d ∧ R d ρ) ∨ (s.lent = false ∧ s.dat = some d ∧ R d (ρ.set i (.v d))))
theorem q_var {i : Nat} : RQ c (tVar i) (pVar i) := ⟨fun s ⟨d, e, r⟩ k => by
  obtain ⟨x, f, v, rfl, ok⟩ := s.get e
  exact ⟨v, f, k d v _ _ r (Stp.refl s.gh) ok⟩⟩
def pC (d : D) : PQ := fun _ R => R d
theorem q_c {v : V} {d : D} (h : ∀ G, Rp c.K G v d) : RQ c (tC v) (pC d) := ⟨fun s r k => k d v _ _ r (Stp.refl s.gh) (h _)⟩
theorem q_int {i : Int} : RQ c (tC (.int i)) (pC (.int i)) := q_c fun _ => .int i
theorem q_str {x : Str} : RQ c (tC (.str x)) (pC (.str x)) := q_c fun _ => .str x
theorem q_bl {b : Bool} : RQ c (tC (.bl b)) (pC (.bl b)) := q_c fun _ => .bl b
theorem q_non : RQ c (tC .non) (pC .non) := q_c fun _ => .non
/-! ### operations -/
def pOp (f : D → D → (D → Prop) → Prop) (a b : PQ) : PQ := fun ρ R => a ρ fun x => b ρ fun y => f x y R
def pOpX (f : D → D → (D → Prop) → Prop) (a b : PX) : PX := fun ρ R => a ρ fun x ρ1 => b ρ1 fun y ρ2 => f x y fun z => R z ρ2
theorem q_op {r : R2} {f : D → D → (D → Prop) → Prop} {ta tb : TE} {a b : PQ} (o : OQ c.K r f) (ha : RO c ta a) (hb : RO c tb b) : RQ c (tOp r ta tb) (pOp f a b) :=
  ⟨fun s q k => ha.run s q fun x v G1 H1 q1 t1 r1 => hb.run (s.stp0 t1) q1 fun y u G2 H2 q2 t2 r2 =>
    o.run t2.gh (r1.stp t2) r2 q2 fun z w G3 H3 q3 t3 r3 => k z w G3 H3 q3 ((t1.trans t2).trans t3) r3⟩
theorem x_op {r : R2} {f : D → D → (D → Prop) → Prop} {ta tb : TE} {a b : PX} (o : OQ c.K r f) (ha : RX c ta a) (hb : RX c tb b) : RX c (tOp r ta tb) (pOpX f a b) :=
  ⟨fun s q k => ha.run s q fun x ρ1 v G1 H1 q1 m1 r1 => hb.run m1.s q1 fun y ρ2 u G2 H2 q2 m2 r2 =>
    o.run m2.s.gh (.inl (r1.same m2.g)) (.inl r2) q2 fun z w G3 H3 q3 t3 r3 => k z ρ2 w G3 H3 q3 ((m1.trans m2).stp t3) r3⟩
def pUn (f : D → (D → Prop) → Prop) (a : PQ) : PQ := fun ρ R => a ρ fun x => f x R
def pUnX (f : D → (D → Prop) → Prop) (a : PX) : PX := fun ρ R => a ρ fun x ρ1 => f x fun z => R z ρ1
structure UQ (K : PySem.W.Frag) (r : V → Hp → VK → Prop) (f : D → (D → Prop) → Prop) : Prop where
  run : ∀ {x : V} {d : D} {G H : Hp} {Q : VK} {R : D → Prop}, Same G H → Po K G H x d → f d R → (∀ z v G' H', R z → Stp M0 G H G' H' → Rp K G' v z → Q v H') → r x H Q
theorem q_un {r : V → Hp → VK → Prop} {f : D → (D → Prop) → Prop} {ta : TE} {a : PQ} (o : UQ c.K r f) (ha : RO c ta a) : RQ c (tUn r ta) (pUn f a) :=
  ⟨fun s q k => ha.run s q fun x v G1 H1 q1 t1 r1 => o.run t1.gh r1 q1 fun z w G3 H3 q3 t3 r3 => k z w G3 H3 q3 (t1.trans t3) r3⟩
/-! ### arguments -/
def pNil : PAQ := fun _ R => R []
def pCons (a : PQ) (r : PAQ) : PAQ := fun ρ R => a ρ fun x => r ρ fun xs => R (x :: xs)
def pConsX (a : PX) (r : PAX) : PAX := fun ρ R => a ρ fun x ρ1 => r ρ1 fun xs ρ2 => R (x :: xs) ρ2
theorem a_nil : RA c tNil pNil := ⟨fun s q k => k [] [] _ _ q (Stp.refl s.gh) .nil⟩
theorem a_cons {te : TE} {ta : TA} {a : PQ} {r : PAQ} (h : RQ c te a) (h' : RA c ta r) : RA c (tCons te ta) (pCons a r) :=
  ⟨fun s q k => h.run s q fun x v G1 H1 q1 t1 r1 => h'.run (s.stp0 t1) q1 fun xs vs G2 H2 q2 t2 r2 => k (x :: xs) (v :: vs) G2 H2 q2 (t1.trans t2) (.cons (r1.same t2.gg) r2)⟩
theorem ax_cons {te : TE} {ta : TA} {a : PX} {r : PAX} (h : RX c te a) (h' : RAX c ta r) : RAX c (tCons te ta) (pConsX a r) :=
  ⟨fun s q k => h.run s q fun x ρ1 v G1 H1 q1 m1 r1 => h'.run m1.s q1 fun xs ρ2 vs G2 H2 q2 m2 r2 => k (x :: xs) ρ2 (v :: vs) G2 H2 q2 (m1.trans m2) (.cons (r1.same m2.g) r2)⟩
theorem ao_one {te : TE} {a : PQ} (h : RO c te a) : RAO c (tCons te tNil) a := ⟨fun s q k => h.run s q fun x v G1 H1 q1 t1 r1 => k x v G1 H1 q1 t1 r1⟩
/-- a built-in's call -/
def pCB (f : D → (D → Prop) → Prop) (a : PQ) : PQ := fun ρ R => a ρ fun x => f x R
theorem q_cb {r : List V → Hp → VK → Prop} {f : D → (D → Prop) → Prop} {ta : TA} {a : PQ} (o : CQ c.K r f) (ha : RAO c ta a) : RQ c (tCB r ta) (pCB f a) :=
  ⟨fun s q k => ha.run s q fun x v G1 H1 q1 t1 r1 => o.run t1.gh r1 q1 fun z w G3 H3 q3 t3 r3 => k z w G3 H3 q3 (t1.trans t3) r3⟩
def pCBs (f : List D → (D → Prop) → Prop) (a : PAQ) : PQ := fun ρ R => a ρ fun x => f x R
def pCBsX (f : List D → (D → Prop) → Prop) (a : PAX) : PX := fun ρ R => a ρ fun x ρ1 => f x fun z => R z ρ1
/-! ### tests -/
def pTest (a : PQ) : PB := fun ρ R => a ρ fun x => ∃ b, x = .bl b ∧ R b
theorem b_test {te : TE} {a : PQ} (h : RQ c te a) : RB c (tTest te) (pTest a) := ⟨fun s q k => h.run s q fun x v G1 H1 ⟨b, e, q1⟩ t1 r1 => by subst e; exact ⟨b, r1.bl_inv, k b G1 H1 q1 t1⟩⟩
theorem b_tb {te : TE} {a : PQ} (h : RQ c te a) : RB c (tB te) (pTest a) := ⟨fun s q k => h.run s q fun x v G1 H1 ⟨b, e, q1⟩ t1 r1 => by subst e; exact ⟨b, r1.bl_inv, k b G1 H1 q1 t1⟩⟩
def pTestX (a : PX) : PBX := fun ρ R => a ρ fun x ρ1 => ∃ b, x = .bl b ∧ R b ρ1
def pAnd (a b : PB) : PB := fun ρ R => a ρ fun x => if x = true then b ρ R else R false
def pOr (a b : PB) : PB := fun ρ R => a ρ fun x => if x = true then R true else b ρ R
def pNot (a : PB) : PB := fun ρ R => a ρ fun x => R (!x)
def pAndX (a b : PBX) : PBX := fun ρ R => a ρ fun x ρ1 => if x = true then b ρ1 R else R false ρ1
def pOrX (a b : PBX) : PBX := fun ρ R => a ρ fun x ρ1 => if x = true then R true ρ1 else b ρ1 R
def pNotX (a : PBX) : PBX := fun ρ R => a ρ fun x ρ1 => R (!x) ρ1
theorem b_or {ta tb : TT} {a b : PB} (ha : RB c ta a) (hb : RB c tb b) : RB c (tOr ta tb) (pOr a b) :=
  ⟨fun s q k => ha.run s q fun x G1 H1 q1 t1 => by
    cases x with
    | true => rw [if_pos rfl] at q1 ⊢; exact k _ G1 H1 q1 t1
    | false => rw [if_neg Bool.false_ne_true] at q1 ⊢; exact hb.run (s.stp0 t1) q1 fun y G2 H2 q2 t2 => k y G2 H2 q2 (t1.trans t2)⟩
theorem b_not {ta : TT} {a : PB} (ha : RB c ta a) : RB c (tNot ta) (pNot a) := ⟨fun s q k => ha.run s q fun x G1 H1 q1 t1 => k _ G1 H1 q1 t1⟩
/-- and, or, not as values -/
def pAndV (a b : PQ) : PQ := fun ρ R => a ρ fun x => ∃ k, x = .bl k ∧ if k = true then b ρ R else R (.bl false)
def pOrV (a b : PQ) : PQ := fun ρ R => a ρ fun x => ∃ k, x = .bl k ∧ if k = true then R (.bl true) else b ρ R
def pNotV (a : PQ) : PQ := fun ρ R => a ρ fun x => ∃ k, x = .bl k ∧ R (.bl (!k))
def pIf (t : PB) (a b : PQ) : PQ := fun ρ R => t ρ fun k => if k = true then a ρ R else b ρ R
def pIfX (t : PBX) (a b : PX) : PX := fun ρ R => t ρ fun k ρ1 => if k = true then a ρ1 R else b ρ1 R
end
/-! statements, loops, calls over slots -/
section
variable {c : Fr} {K : PySem.W.Frag} {G H G' H' : Hp} {ρ : Env} {σ : L2.St} {v : V} {d : D}
theorem NotOwn.set {i : Nat} {s : Sl} {x : Option V} {a : Addr} (h : NotOwn ρ σ a) (n : ¬ Own s x a) : NotOwn (ρ.set i s) (σ.set i x) a := fun j t y e1 e2 => by
  by_cases q : j = i
  · subst q
    rw [List.getElem?_set] at e1 e2
    rw [if_pos rfl] at e1 e2
    split at e1
    · split at e2
      · cases e1; cases e2; exact n
      · cases e2
    · cases e1
  · rw [List.getElem?_set_ne (Ne.symm q)] at e1 e2
    exact h j t y e1 e2
/-! ### targets -/
abbrev PGt := D → Env → (Env → Prop) → Prop
abbrev PGts := List D → Env → (Env → Prop) → Prop
/-- targets; is: the slots that they store to -/
structure RG (c : Fr) (g : TG) (p : PGt) (is : List Nat) : Prop where
  run : ∀ {v : V} {d : D} {ρ : Env} {σ : L2.St} {G H : Hp} {N : L2.St → Hp → Prop} {R : Env → Prop}, Sta c G H ρ σ → Rp c.K G v d → p d ρ R → (∀ ρ' σ', R ρ' → Sta c G H ρ' σ' → (∀ vs : List Nat, (∀ i ∈ is, i ∈ vs) → wipe σ' vs = wipe σ vs) → (∀ a, NotOwn ρ σ a → NotOwn ρ' σ' a) → N σ' H) → g v σ H N
structure RGs (c : Fr) (g : TGs) (p : PGts) (is : List Nat) : Prop where
  run : ∀ {v : List V} {d : List D} {ρ : Env} {σ : L2.St} {G H : Hp} {N : L2.St → Hp → Prop} {R : Env → Prop}, Sta c G H ρ σ → Rps c.K G v d → p d ρ R → (∀ ρ' σ', R ρ' → Sta c G H ρ' σ' → (∀ vs : List Nat, (∀ i ∈ is, i ∈ vs) → wipe σ' vs = wipe σ vs) → (∀ a, NotOwn ρ σ a → NotOwn ρ' σ' a) → N σ' H) → g v σ H N
theorem wipe_set : ∀ {vs : List Nat} {σ : L2.St} {i : Nat} {x : Option V}, i ∈ vs → wipe (σ.set i x) vs = wipe σ vs
  | v :: vs, σ, i, x, h => by
    show (wipe (σ.set i x) vs).set v none = (wipe σ vs).set v none
    by_cases e : i ∈ vs
    · rw [wipe_set e]
    · have e1 : i = v := by
        rcases List.mem_cons.mp h with h | h
        · exact h
        · exact absurd h e
      subst e1
      have : ∀ (vs : List Nat) (σ : L2.St), i ∉ vs → wipe (σ.set i x) vs = (wipe σ vs).set i x := fun vs => by
        induction vs with
        | nil => intro σ _; rfl
        | cons w vs ih =>
          intro σ hn
          show (wipe (σ.set i x) vs).set w none = ((wipe σ vs).set w none).set i x
          rw [ih σ (fun z => hn (List.mem_cons_of_mem _ z)), List.set_comm _ _ (fun z => hn (by rw [z]; exact List.mem_cons_self))]
      rw [this vs σ e, List.set_set]
def pgName (i : Nat) : PGt := fun d ρ R => R (ρ.set i (.v d))
theorem g_name {i : Nat} : RG c (gName i) (pgName i) [i] := ⟨fun s r q k => k _ _ q (s.setV r) (fun vs h => wipe_set (h i List.mem_cons_self)) fun a h => h.set own_v⟩
def pgNil : PGts := fun ds ρ R => ds = [] ∧ R ρ
def pgCons (a : PGt) (b : PGts) : PGts := fun ds ρ R => ∃ x r, ds = x :: r ∧ a x ρ fun ρ1 => b r ρ1 R
theorem g_nil : RGs c gNil pgNil [] := ⟨fun s r q k => by obtain ⟨e, q⟩ := q; subst e; cases r; exact ⟨rfl, k _ _ q s (fun _ _ => rfl) fun _ h => h⟩⟩
theorem g_cons {g : TG} {gs : TGs} {a : PGt} {b : PGts} {is js : List Nat} (h : RG c g a is) (h' : RGs c gs b js) : RGs c (gCons g gs) (pgCons a b) (is ++ js) :=
  ⟨fun s r q k => by
    obtain ⟨x, xs, e, q⟩ := q
    subst e
    cases r with
    | cons r rs => exact ⟨_, _, rfl, h.run s r q fun ρ' σ' q' s' w' n' => h'.run s' rs q' fun ρ2 σ2 q2 s2 w2 n2 => k ρ2 σ2 q2 s2 (fun vs hv => (w2 vs fun i hi => hv i (List.mem_append_right _ hi)).trans (w' vs fun i hi => hv i (List.mem_append_left _ hi))) fun a h => n2 a (n' a h)⟩⟩
def pgTup (n : Nat) (b : PGts) : PGt := fun d ρ R => ∃ ds, Tp d ds ∧ ds.length = n ∧ b ds ρ R
theorem g_tup {n : Nat} {gs : TGs} {b : PGts} {is : List Nat} (h : RGs c gs b is) : RG c (gTup c.K n gs) (pgTup n b) is :=
  ⟨fun s r q k => by
    obtain ⟨ds, t, l, q⟩ := q
    obtain ⟨a, vs, e, h1, h2, h3⟩ := (Po.of (H := _) r).tp t s.gh
    subst e
    exact ⟨a, vs, rfl, h2, h3.len.trans l, h.run s h3 q k⟩⟩
/-! ### statements -/
abbrev PS' := PEnds → Env → Prop
def pNext : PS' := fun E ρ => E.nx ρ
theorem s_next : RS c tNext pNext := ⟨fun s q l => l.nx _ _ _ _ (Same.refl _) s q⟩
def pSeq (a b : PS') : PS' := fun E ρ => a { E with nx := b E } ρ
theorem s_seq {t u : TS} {a b : PS'} (ha : RS c t a) (hb : RS c u b) : RS c (tSeq t u) (pSeq a b) :=
  ⟨fun s q l => ha.run s q ⟨fun ρ σ G H g s q => hb.run s q (l.mono g), l.rt, l.bk, l.ct, l.rn, l.rt2⟩⟩
def pDrop (a : PX) : PS' := fun E ρ => a ρ fun _ ρ1 => E.nx ρ1
def pRet (a : PX) : PS' := fun E ρ => a ρ E.rt
theorem s_ret {te : TE} {a : PX} (h : RX c te a) : RS c (tRet te) (pRet a) := ⟨fun s q l => h.run s q fun d ρ1 v G1 H1 q1 m1 r1 => l.rt _ _ _ _ _ _ m1.g m1.s q1 r1⟩
def pRetNew (a : PN) : PS' := fun E ρ => a ρ E.rn
def pRetOwn (i : Nat) : PS' := fun E ρ => ∃ s, ρ[i]? = some s ∧ s.nu = true ∧ s.lent = false ∧ E.rn s ρ
def pRet2 (i j : Nat) : PS' := fun E ρ => ∃ s t, ρ[i]? = some s ∧ ρ[j]? = some t ∧ i ≠ j ∧ s.nu = true ∧ t.nu = true ∧ s.lent = false ∧ t.lent = false ∧ E.rt2 s t ρ
def pRetN : PS' := fun E ρ => E.rt .non ρ
def pBrk : PS' := fun E ρ => E.bk ρ
def pCont : PS' := fun E ρ => E.ct ρ
def pIfS (t : PBX) (a b : PS') : PS' := fun E ρ => t ρ fun k ρ1 => if k = true then a E ρ1 else b E ρ1
theorem s_if {tt : TT} {t u : TS} {p : PBX} {a b : PS'} (ht : RBX c tt p) (ha : RS c t a) (hb : RS c u b) : RS c (tIfS tt t u) (pIfS p a b) :=
  ⟨fun s q l => ht.run s q fun k ρ1 G1 H1 q1 m1 => by
    cases k with
    | true => rw [if_pos rfl] at q1 ⊢; exact ha.run m1.s q1 (l.mono m1.g)
    | false => rw [if_neg Bool.false_ne_true] at q1 ⊢; exact hb.run m1.s q1 (l.mono m1.g)⟩
def pAsg (a : PX) (g : PGt) : PS' := fun E ρ => a ρ fun d ρ1 => g d ρ1 E.nx
theorem s_asg {te : TE} {g : TG} {a : PX} {p : PGt} {is : List Nat} (h : RX c te a) (hg : RG c g p is) : RS c (tAsg te g) (pAsg a p) :=
  ⟨fun s q l => h.run s q fun d ρ1 v G1 H1 q1 m1 r1 => hg.run m1.s r1 q1 fun ρ2 σ2 q2 s2 _ _ => l.nx _ _ _ _ m1.g s2 q2⟩
def pSetN (i : Nat) (a : PN) : PS' := fun E ρ => a ρ fun s ρ1 => E.nx (ρ1.set i s)
/-- a, b = x, y -/
def pPar (i j : Nat) (a : PAX) : PS' := fun E ρ => a ρ fun ds ρ1 => ∃ x y, ds = [x, y] ∧ E.nx ((ρ1.set i (.v x)).set j (.v y))
theorem s_par {i j : Nat} {ta : TA} {a : PAX} (h : RAX c ta a) : RS c (tPar i j ta) (pPar i j a) :=
  ⟨fun s q l => h.run s q fun ds ρ1 vs G1 H1 ⟨x, y, e, q1⟩ m1 r1 => by
    subst e
    cases r1 with
    | cons a r => cases r with
      | cons b r =>
        cases r
        exact ⟨_, _, rfl, l.nx _ _ _ _ m1.g ((m1.s.setV a).setV b) q1⟩⟩
def pPar3 (i j k : Nat) (a : PAX) : PS' := fun E ρ => a ρ fun ds ρ1 => ∃ x y z, ds = [x, y, z] ∧ E.nx (((ρ1.set i (.v x)).set j (.v y)).set k (.v z))
/-- arguments of which some are new things of one's own; nothing else happens -/
structure RAN (c : Fr) (ta : TA) (p : Env → (List Sl → Prop) → Prop) : Prop where
  run : ∀ {ρ : Env} {σ : L2.St} {G H : Hp} {Q : List V → Hp → Prop} {R : List Sl → Prop}, Sta c G H ρ σ → p ρ R →
    (∀ ss vs G' H', R ss → Stp M0 G H G' H' → Paired (fun s x => SlOk c G' H' s (some x)) ss vs → (∀ (i : Nat) (s : Sl) (x : V) (a : Addr), ss[i]? = some s → vs[i]? = some x → Own s (some x) a → s.isp = false ∧ H a = none) →
      (∀ (i j : Nat) (s t : Sl) (x y : V) (a : Addr), i ≠ j → ss[i]? = some s → vs[i]? = some x → ss[j]? = some t → vs[j]? = some y → Own s (some x) a → ¬ Own t (some y) a) → Q vs H') → ta σ H Q
def pParN (i j : Nat) (a : Env → (List Sl → Prop) → Prop) : PS' := fun E ρ => a ρ fun ss => ∃ x y, ss = [x, y] ∧ E.nx ((ρ.set i x).set j y)
def pPar3N (i j k : Nat) (a : Env → (List Sl → Prop) → Prop) : PS' := fun E ρ => a ρ fun ss => ∃ x y z, ss = [x, y, z] ∧ E.nx (((ρ.set i x).set j y).set k z)
/-! ### while -/
def pWhile (t : PBX) (b : PS') : PS' := fun E ρ => ∃ W : Nat → Env → Prop, (∃ m, W m ρ) ∧ ∀ m ρ, W m ρ → t ρ fun k ρ1 => if k = true then b { E with nx := fun ρ2 => ∃ m', m' < m ∧ W m' ρ2, ct := fun ρ2 => ∃ m', m' < m ∧ W m' ρ2, bk := E.nx } ρ1 else E.nx ρ1
/-! ### what a loop walks -/
/-- the things at ds come, one by one -/
def Wkk (K : PySem.W.Frag) (G : Hp) (J : It) (ds : List D) : Prop := ∃ (Gd : Hp → Prop) (Y : Nat → Hp → V → Hp → Prop), Walk J ds.length Gd Y ∧ (∀ G1 H1, Same G G1 → Same G1 H1 → Gd H1) ∧
  ∀ i G1 H1 x H2, i < ds.length → Same G G1 → Same G1 H1 → Y i H1 x H2 → ∃ d G2, ds[i]? = some d ∧ Stp M0 G1 H1 G2 H2 ∧ Rp K G2 x d
abbrev PIt := Env → (List D → Env → Prop) → Prop
structure RI (c : Fr) (wi : TI) (p : PIt) : Prop where
  run : ∀ {ρ : Env} {σ : L2.St} {G H : Hp} {Q : It → Hp → Prop} {R : List D → Env → Prop}, Sta c G H ρ σ → p ρ R → (∀ ds ρ' J G' H', R ds ρ' → Mv c σ G H ρ G' H' ρ' → Wkk c.K G' J ds → Q J H') → wi σ H Q
def pForB (ds : List D) (pg : PGt) (pb : PS') : PS' := fun E ρ1 => ∃ Pv : Nat → Env → Prop, Pv 0 ρ1 ∧
  (∀ i d ρ, i < ds.length → ds[i]? = some d → Pv i ρ → pg d ρ fun ρ' => pb { E with nx := Pv (i + 1), ct := Pv (i + 1), bk := E.nx } ρ') ∧ ∀ ρ, Pv ds.length ρ → E.nx ρ
def pFor (pi : PIt) (pg : PGt) (pb : PS') : PS' := fun E ρ => pi ρ fun ds ρ1 => pForB ds pg pb E ρ1
theorem s_for {wi : TI} {g : TG} {tb : TS} {pi : PIt} {pg : PGt} {pb : PS'} {is : List Nat} (hi : RI c wi pi) (hg : RG c g pg is) (hb : RS c tb pb) : RS c (tFor wi g tb) (pFor pi pg pb) :=
  ⟨fun s q l => hi.run s q fun ds ρ1 J G1 H1 q1 m1 wk => by
    obtain ⟨Pv, h0, hst, hd⟩ := q1
    obtain ⟨Gd, Y, w, hG, hY⟩ := wk
    refine for_it w (fun i σ H => ∃ G ρ, Sta c G H ρ σ ∧ Same G1 G ∧ Pv i ρ) ⟨G1, ρ1, m1.s, Same.refl _, h0⟩ (fun i σ H hi ⟨G, ρ, s, g, _⟩ => hG G H g s.gh) (fun i x σ H H' hi ⟨G, ρ, s, g, pv⟩ y => ?_) (fun σ H ⟨G, ρ, s, g, pv⟩ => l.nx _ _ _ _ (m1.g.trans g) s (hd ρ pv))
    obtain ⟨d, G2, e, t, r⟩ := hY i G H x H' hi g s.gh y
    refine hg.run (s.stp0 t) r (hst i d ρ hi e pv) fun ρ' σ' q' s' _ _ => ?_
    have gb := (m1.g.trans g).trans t.gg
    exact hb.run s' q' ⟨fun ρ σ G' H' g' s q => ⟨G', ρ, s, (g.trans t.gg).trans g', q⟩, (l.mono gb).rt, fun ρ σ G' H' g' s q => l.nx _ _ _ _ (gb.trans g') s q, fun ρ σ G' H' g' s q => ⟨G', ρ, s, (g.trans t.gg).trans g', q⟩, (l.mono gb).rn, (l.mono gb).rt2⟩⟩
end
/-! what loops walk, comprehensions, displays, calls, methods, changes over slots -/
section
variable {c : Fr} {K : PySem.W.Frag} {G H G' H' : Hp} {ρ : Env} {σ : L2.St} {v : V} {d : D}
/-! ### what a loop walks -/
structure RIQ (c : Fr) (wi : TI) (p : PAQ) : Prop where
  run : ∀ {ρ : Env} {σ : L2.St} {G H : Hp} {Q : It → Hp → Prop} {R : List D → Prop}, Sta c G H ρ σ → p ρ R → (∀ ds J G' H', R ds → Stp M0 G H G' H' → Wkk c.K G' J ds → Q J H') → wi σ H Q
theorem RIQ.x {wi : TI} {p : PAQ} (h : RIQ c wi p) : RI c wi (fun ρ R => p ρ fun d => R d ρ) := ⟨fun s q k => h.run s q fun ds J G1 H1 q1 t1 w => k ds _ J G1 H1 q1 (Mv.of s t1) w⟩
/-- the things at ds come, one by one, while nothing but new things is made -/
def WkO (K : PySem.W.Frag) (G H : Hp) (J : It) (ds : List D) : Prop := ∃ (Gd : Hp → Prop) (Y : Nat → Hp → V → Hp → Prop), Walk J ds.length Gd Y ∧ (∀ G1 H1, Stp M0 G H G1 H1 → Gd H1) ∧
  ∀ i G1 H1 x H2, i < ds.length → Stp M0 G H G1 H1 → Y i H1 x H2 → ∃ d G2, ds[i]? = some d ∧ Stp M0 G1 H1 G2 H2 ∧ Rp K G2 x d
structure RIO (c : Fr) (wi : TI) (p : PAQ) : Prop where
  run : ∀ {ρ : Env} {σ : L2.St} {G H : Hp} {Q : It → Hp → Prop} {R : List D → Prop}, Sta c G H ρ σ → p ρ R → (∀ ds J G' H', R ds → Stp M0 G H G' H' → WkO c.K G' H' J ds → Q J H') → wi σ H Q
theorem Wkk.o {J : It} {ds : List D} (h : Wkk K G J ds) : WkO K G H J ds := by
  obtain ⟨Gd, Y, w, h1, h2⟩ := h
  exact ⟨Gd, Y, w, fun G1 H1 t => h1 G1 H1 t.gg t.gh, fun i G1 H1 x H2 hi t y => h2 i G1 H1 x H2 hi t.gg t.gh y⟩
theorem RIQ.o {wi : TI} {p : PAQ} (h : RIQ c wi p) : RIO c wi p := ⟨fun s q k => h.run s q fun ds J G1 H1 q1 t1 w => k ds J G1 H1 q1 t1 w.o⟩
theorem wk_tup {a : Addr} {vs : List V} {ds : List D} (h : SqT K G a vs) (r : Rps K G vs ds) : Wkk K G (Itt K a) ds :=
  ⟨_, _, (by rw [← r.len]; exact walk_tup (xs := vs)), fun G1 H1 g1 g2 => Same.sqt (g1.trans g2) h, fun i G1 H1 x H2 hi g1 g2 y => by
    obtain ⟨e, hx⟩ := y
    subst e
    obtain ⟨d, hd, rr⟩ := r.get' hx
    exact ⟨d, G1, hd, Stp.refl g2, rr.same g1⟩⟩
/-- lo, lo + 1, .., n of them -/
def rngD (lo : Int) (n : Nat) : List D := (List.range n).map fun (i : Nat) => D.int (lo + (i : Int))
theorem rngD_len (lo : Int) (n : Nat) : (rngD lo n).length = n := by unfold rngD; rw [List.length_map, List.length_range]
theorem rngD_get {lo : Int} {n i : Nat} (h : i < n) : (rngD lo n)[i]? = some (.int (lo + (i : Int))) := by
  unfold rngD
  rw [List.getElem?_map, List.getElem?_range h]
  rfl
theorem wk_rng {lo : Int} {n : Nat} : Wkk K G (Itr lo n) (rngD lo n) :=
  ⟨_, _, (by rw [rngD_len]; exact walk_range (lo := lo) (n := n)), fun _ _ _ _ => trivial, fun i G1 H1 x H2 hi g1 g2 y => by
    obtain ⟨e, rfl⟩ := y
    subst e
    exact ⟨_, G1, rngD_get (by rwa [rngD_len] at hi), Stp.refl g2, .int _⟩⟩
def pItL (a : PX) : PIt := fun ρ R => a ρ fun d ρ1 => ∃ ds, d = .lst ds ∧ R ds ρ1
def pItT (a : PX) : PIt := fun ρ R => a ρ fun d ρ1 => ∃ ds, Tp d ds ∧ R ds ρ1
theorem iq_tup {te : TE} {a : PQ} (h : RQ c te a) : RIQ c (iTup c.K te) (fun ρ R => a ρ fun d => ∃ ds, Tp d ds ∧ R ds) := ⟨fun s q k => h.run s q fun d v G1 H1 ⟨ds, e, q1⟩ t1 r1 => by
  obtain ⟨a, vs, rfl, h1, h2, h3⟩ := (Po.of (H := H1) r1).tp e t1.gh
  exact ⟨a, rfl, ⟨vs, h2⟩, k ds _ G1 H1 q1 t1 (wk_tup h1 h3)⟩⟩
/-- range(n): from 0; range(m, n) -/
theorem iq_rng1 {ta : TA} {a : PAQ} (h : RA c ta a) : RIQ c (iRng1 ta) (fun ρ R => a ρ fun ds => ∃ j : Int, ds = [.int j] ∧ (-(2 ^ 62) ≤ j ∧ j < 2 ^ 62) ∧ R (rngD 0 j.toNat)) := ⟨fun s q k => h.run s q fun d v G1 H1 ⟨j, e, hb, q1⟩ t1 r1 => by
  subst e
  cases r1 with
  | cons r r' =>
    cases r'
    rw [r.int_inv]
    exact ⟨j, rfl, hb.1, hb.2, k _ _ G1 H1 q1 t1 wk_rng⟩⟩
def signD (z : Str) : List D := z.cps.toList.map fun k => .str ⟨#[k]⟩
/-! ### comprehensions -/
def wipeE (ρ : Env) : List Nat → Env
  | [] => ρ
  | v :: vs => (wipeE ρ vs).set v .un
theorem Sta.wipe (s : Sta c G H ρ σ) : ∀ vs : List Nat, Sta c G H (wipeE ρ vs) (L2.wipe σ vs)
  | [] => s
  | v :: vs => (Sta.wipe s vs).setU none
theorem wipe_get : ∀ {vs : List Nat} {σ : L2.St} {i : Nat}, i ∉ vs → (L2.wipe σ vs)[i]? = σ[i]?
  | [], _, _, _ => rfl
  | v :: vs, σ, i, h => by
    show ((L2.wipe σ vs).set v none)[i]? = _
    rw [List.getElem?_set_ne (fun e => h (by rw [e]; exact List.mem_cons_self)), wipe_get (fun z => h (List.mem_cons_of_mem _ z))]
theorem wipeE_mem : ∀ {vs : List Nat} {ρ : Env} {i : Nat} {s : Sl}, i ∈ vs → (wipeE ρ vs)[i]? = some s → s = .un
  | v :: vs, ρ, i, s, h, e => by
    have e' : ((wipeE ρ vs).set v .un)[i]? = some s := e
    by_cases q : v = i
    · subst q
      rw [List.getElem?_set, if_pos rfl] at e'
      split at e'
      · exact (Option.some.inj e').symm
      · cases e'
    · rw [List.getElem?_set_ne q] at e'
      rcases List.mem_cons.mp h with h | h
      · exact absurd h.symm q
      · exact wipeE_mem h e'
/-- slots that agree but for those of which nothing is said -/
theorem Sta.agree {vs : List Nat} {σ' : L2.St} (s : Sta c G H (wipeE ρ vs) σ) (e : L2.wipe σ' vs = L2.wipe σ vs) : Sta c G H (wipeE ρ vs) σ' := by
  have hl : σ'.length = σ.length := by rw [← wipe_length σ' vs, e, wipe_length]
  have key : ∀ (i : Nat), i ∉ vs → σ'[i]? = σ[i]? := fun i h => by rw [← wipe_get h, e, wipe_get h]
  have own' : ∀ {i : Nat} {t : Sl} {x : Option V} {a : Addr}, (wipeE ρ vs)[i]? = some t → Own t x a → i ∉ vs := fun {i t x a} e1 o h => by
    rw [wipeE_mem h e1] at o
    exact own_un o
  refine ⟨s.st, ?_, fun i t x a e1 e2 o => ?_, fun i j t u x y a ij e1 e2 e3 e4 o1 o2 => ?_, s.tb⟩
  · have pl : ∀ {α β : Type} {R : α → β → Prop} {xs : List α} {ys : List β}, xs.length = ys.length → (∀ (i : Nat) x y, xs[i]? = some x → ys[i]? = some y → R x y) → Paired R xs ys := by
      intro α β R xs
      induction xs with
      | nil => intro ys h _; cases ys with
        | nil => exact .nil
        | cons _ _ => cases h
      | cons x xs ih => intro ys h k; cases ys with
        | nil => cases h
        | cons y ys => exact .cons (k 0 x y rfl rfl) (ih (by simpa using h) fun i a b h1 h2 => k (i + 1) a b (by simpa using h1) (by simpa using h2))
    refine pl (by rw [hl]; exact Paired.length s.sl) fun i t y e1 e2 => ?_
    by_cases h : i ∈ vs
    · rw [wipeE_mem h e1]; trivial
    · rw [key i h] at e2
      obtain ⟨y', e3, ok⟩ := s.get e1
      rw [e2] at e3
      cases e3
      exact ok
  · exact s.nw i t x a e1 (by rw [← key i (own' e1 o)]; exact e2) o
  · exact s.ds i j t u x y a ij e1 (by rw [← key i (own' e1 o1)]; exact e2) e3 (by rw [← key j (own' e3 o2)]; exact e4) o1 o2
theorem wipe_wipe (σ : L2.St) (vs : List Nat) : L2.wipe (L2.wipe σ vs) vs = L2.wipe σ vs := by
  have h : ∀ ws : List Nat, (∀ i ∈ ws, i ∈ vs) → L2.wipe (L2.wipe σ ws) vs = L2.wipe σ vs := fun ws => by
    induction ws with
    | nil => intro _; rfl
    | cons w ws ih =>
      intro h
      show L2.wipe ((L2.wipe σ ws).set w none) vs = _
      rw [wipe_set (h w List.mem_cons_self)]
      exact ih fun i hi => h i (List.mem_cons_of_mem _ hi)
  exact h vs fun _ h => h
/-- [e for x in xs if t]: nothing else happens -/
def pLc (pi : PAQ) (pg : PGt) (pt : PB) (pe : PQ) (vs : List Nat) : Env → (Sl → Prop) → Prop := fun ρ R => pi ρ fun ds => ds.length < 2 ^ 20 ∧ ∃ Pv : Nat → List D → Prop, Pv 0 [] ∧
  (∀ i d acc, i < ds.length → ds[i]? = some d → acc.length ≤ i → Pv i acc → pg d (wipeE ρ vs) fun ρ2 => pt ρ2 fun b => if b = true then pe ρ2 fun y => Pv (i + 1) (acc ++ [y]) else Pv (i + 1) acc) ∧ ∀ acc, acc.length ≤ ds.length → Pv ds.length acc → R (.l acc)
theorem n_lc {wi : TI} {g : TG} {tt : TT} {te : TE} {vs : List Nat} {pi : PAQ} {pg : PGt} {pt : PB} {pe : PQ} {is : List Nat} (hi : RIO c wi pi) (hg : RG c g pg is) (ht : RB c tt pt) (he : RQ c te pe) (hv : ∀ i ∈ is, i ∈ vs) :
    RN c (tLc wi g tt te vs) (pLc pi pg pt pe vs) :=
  ⟨fun {ρ σ G H Q R} s q k => hi.run s q fun ds J G1 H1 q1 t1 wk => by
    obtain ⟨hl, Pv, h0, hst, hd⟩ := q1
    obtain ⟨Gd, Y, w, hG, hY⟩ := wk
    intro L hL
    have gL : G1 L = none := none_of t1.gh hL
    have h20 : (2 ^ 20 : Nat) ≤ sizeLine := by decide
    refine lc_it w (fun i H' => ∃ acc vs' G', H' L = some (.lst vs') ∧ G' L = none ∧ Rps c.K G' vs' acc ∧ acc.length ≤ i ∧ Stp M0 G1 H1 G' H' ∧ Pv i acc) ⟨[], [], G1, upd_same, gL, .nil, Nat.zero_le _, Stp.newM t1.gh hL, h0⟩ (fun i H' hi pv => ?_) (fun i x H' H'' hi pv y => ?_) (fun H' pv => ?_)
    · obtain ⟨_, _, G', _, _, _, _, st, _⟩ := pv
      exact hG G' H' st
    · obtain ⟨acc, vs', G', e1, e2, e3, e4, st, pv⟩ := pv
      obtain ⟨d, G2, ed, t, r⟩ := hY i G' H' x H'' hi st y
      have sO := (s.stp0 t1).stp0 (st.trans t)
      refine hg.run (sO.wipe vs) r (hst i d acc hi ed e4 pv) fun ρ2 σ2 q2 s2 w2 _ => ⟨(w2 vs hv).trans (wipe_wipe σ vs), ht.run s2 q2 fun b G3 H3 q3 t3 => ?_⟩
      have eL : H'' L = some (.lst vs') := t.up _ _ (fun z => z) e1
      have gL2 : G2 L = none := (t.fr _ _ e1).trans e2
      cases b with
      | false =>
        rw [if_neg Bool.false_ne_true] at q3 ⊢
        exact ⟨acc, vs', G3, t3.up _ _ (fun z => z) eL, (t3.fr _ _ eL).trans gL2, e3.same (t.gg.trans t3.gg), Nat.le_succ_of_le e4, (st.trans t).trans t3, q3⟩
      | true =>
        rw [if_pos rfl] at q3 ⊢
        refine he.run (s2.stp0 t3) q3 fun y v4 G4 H4 q4 t4 r4 => ?_
        have t34 := t3.trans t4
        have eL4 := t34.up _ _ (fun z => z) eL
        have gL4 : G4 L = none := (t34.fr _ _ eL).trans gL2
        have st4 := ((st.trans t).trans t34)
        refine ⟨vs', eL4, by rw [e3.len]; omega, acc ++ [y], vs' ++ [v4], G4, upd_same, gL4, (e3.same (t.gg.trans t34.gg)).snoc r4, by rw [List.length_append]; simp; omega, ?_, q4⟩
        exact st4.inner (M' := M1 L) (Stp.mut st4.gh eL4 gL4 rfl) (fun a e => .inr (by rw [show a = L from e]; exact hL))
    · obtain ⟨acc, vs', G', e1, e2, e3, e4, st, pv⟩ := pv
      exact k _ L G' H' (hd acc e4 pv) (t1.trans st) ⟨L, vs', rfl, e1, e2, e3⟩ rfl (t1.free hL)⟩
/-- the same where the pen writes -/
def pLcX (pi : PIt) (pg : PGt) (pt : PBX) (pe : PX) (vs : List Nat) : PN := fun ρ R => pi ρ fun ds ρ0 => ds.length < 2 ^ 20 ∧ ∃ Pv : Nat → List D → Env → Prop, Pv 0 [] (wipeE ρ0 vs) ∧
  (∀ i d acc ρ, i < ds.length → ds[i]? = some d → acc.length ≤ i → Pv i acc ρ → pg d (wipeE ρ vs) fun ρ2 => pt ρ2 fun b ρ3 => if b = true then pe ρ3 fun y ρ4 => Pv (i + 1) (acc ++ [y]) (wipeE ρ4 vs) else Pv (i + 1) acc (wipeE ρ3 vs)) ∧
  ∀ acc ρ, acc.length ≤ ds.length → Pv ds.length acc ρ → R (.l acc) (wipeE ρ vs)
theorem NotOwn.wipe {vs : List Nat} {a : Addr} (h : NotOwn (wipeE ρ vs) σ a) {σ' : L2.St} (e : L2.wipe σ' vs = L2.wipe σ vs) : NotOwn (wipeE ρ vs) σ' a := fun j t y e1 e2 o => by
  have hj : j ∉ vs := fun z => by rw [wipeE_mem z e1] at o; exact own_un o
  exact h j t y e1 (by rw [← wipe_get hj, ← e, wipe_get hj]; exact e2) o
theorem NotOwn.wipeE {a : Addr} (h : NotOwn ρ σ a) : ∀ vs : List Nat, NotOwn (wipeE ρ vs) σ a
  | [] => h
  | v :: vs => fun j t y e1 e2 o => by
    have e1' : ((TT.wipeE ρ vs).set v .un)[j]? = some t := e1
    by_cases q : v = j
    · subst q
      rw [List.getElem?_set, if_pos rfl] at e1'
      split at e1'
      · cases e1'; exact own_un o
      · cases e1'
    · rw [List.getElem?_set_ne q] at e1'
      exact NotOwn.wipeE h vs j t y e1' e2 o
theorem Sta.wipeE (s : Sta c G H ρ σ) (vs : List Nat) : Sta c G H (TT.wipeE ρ vs) σ := (s.wipe vs).agree (by rw [wipe_wipe])
/-! the pen alone is lent: what slots own stays -/
/-! ### displays -/
theorem q_tup {ta : TA} {a : PAQ} (h : RA c ta a) : RQ c (tTup ta) (fun ρ R => a ρ fun ds => ds.length ≤ sizeLine ∧ R (.tup ds)) :=
  ⟨fun s q k => h.run s q fun ds vs G1 H1 q1 t1 r1 => ⟨by rw [r1.len]; exact q1.1, fun p hp => k _ _ _ _ q1.2 (t1.trans (Stp.new t1.gh hp)) (.tup (tof upd_same) (r1.same (same_new (none_of t1.gh hp))))⟩⟩
theorem n_lst {ta : TA} {a : PAQ} (h : RA c ta a) : RN c (tLst ta) (fun ρ R => a ρ fun ds => ds.length ≤ sizeLine ∧ R (.l ds)) :=
  ⟨fun s q k => h.run s q fun ds vs G1 H1 q1 t1 r1 => ⟨by rw [r1.len]; exact q1.1, fun p hp => k _ p _ _ q1.2 (t1.trans (Stp.newM t1.gh hp)) ⟨p, vs, rfl, upd_same, none_of t1.gh hp, r1⟩ rfl (t1.free hp)⟩⟩
theorem nx_lst {ta : TA} {a : PAX} (h : RAX c ta a) : RNX c (tLst ta) (fun ρ R => a ρ fun ds ρ1 => ds.length ≤ sizeLine ∧ R (.l ds) ρ1) :=
  ⟨fun s q k => h.run s q fun ds ρ1 vs G1 H1 q1 m1 r1 => ⟨by rw [r1.len]; exact q1.1, fun p hp => k _ _ p _ _ q1.2 (m1.stp (Stp.newM m1.s.gh hp)) ⟨p, vs, rfl, upd_same, none_of m1.s.gh hp, r1⟩ rfl (m1.free hp)⟩⟩
theorem n_d0 : RN c tDNewK (fun _ R => R (.d [])) := ⟨fun s q k p hp => k _ p _ _ q (Stp.newM s.gh hp) ⟨p, [], rfl, upd_same, none_of s.gh hp, .nil⟩ rfl hp⟩
/-! ### calls -/
/-- the promise of a def that changes nothing, over data -/
def spD (K : PySem.W.Frag) (ps : List D → (D → Prop) → Prop) : Sp := fun vs H Q _ => ∃ ds G R, Same G H ∧ Rps K G vs ds ∧ ps ds R ∧ ∀ d v G' H', R d → Stp M0 G H G' H' → Rp K G' v d → Q v H'
/-- it tells a new thing -/
def spN (P : Program) (w : World) (K : PySem.W.Frag) (ps : List D → (Sl → Prop) → Prop) : Sp := fun vs H Q _ => ∃ ds G R, Same G H ∧ Rps K G vs ds ∧ ps ds R ∧
  ∀ s a G' H', R s → Stp M0 G H G' H' → SlOk ⟨P, w, K, M0, G, H, []⟩ G' H' s (some (.ref a)) → s.nu = true → H a = none → Q (.ref a) H'
/-- a pen comes first -/
def spP (K : PySem.W.Frag) (ps : Nat → List D → (D → Nat → Prop) → Prop) : Sp := fun vs H Q _ => ∃ (p : Addr) (n : Nat) (rest : List V) (ds : List D) (G : Hp) (R : D → Nat → Prop), vs = .ref p :: rest ∧ Same G H ∧ Pen K G p n H ∧ Rps K G rest ds ∧ ps n ds R ∧
  ∀ d m v G' H', R d m → Stp (M1 p) G H G' H' → Pen K G' p m H' → Rp K G' v d → Q v H'
def spPN (P : Program) (w : World) (K : PySem.W.Frag) (ps : Nat → List D → (Sl → Nat → Prop) → Prop) : Sp := fun vs H Q _ => ∃ (p : Addr) (n : Nat) (rest : List V) (ds : List D) (G : Hp) (R : Sl → Nat → Prop), vs = .ref p :: rest ∧ Same G H ∧ Pen K G p n H ∧ Rps K G rest ds ∧ ps n ds R ∧
  ∀ s m a G' H', R s m → Stp (M1 p) G H G' H' → Pen K G' p m H' → SlOk ⟨P, w, K, M0, G, H, []⟩ G' H' s (some (.ref a)) → s.nu = true → H a = none → Q (.ref a) H'
def pCall (ps : List D → (D → Prop) → Prop) (a : PAQ) : PQ := fun ρ R => a ρ fun ds => ps ds R
theorem q_call {ta : TA} {a : PAQ} {ps : List D → (D → Prop) → Prop} {E : XK} (h : RA c ta a) : RQ c (tCall (spD c.K ps) [] E ta) (pCall ps a) :=
  ⟨fun s q k => h.run s q fun ds vs G1 H1 q1 t1 r1 => ⟨ds, G1, _, t1.gh, by rw [List.append_nil]; exact r1, q1, fun d v G' H' q2 t2 r2 => k d v G' H' q2 (t1.trans t2) r2⟩⟩
def pCallX (ps : List D → (D → Prop) → Prop) (a : PAX) : PX := fun ρ R => a ρ fun ds ρ1 => ps ds fun d => R d ρ1
/-- the pen's slot behind a call that was lent it -/
theorem Sta.lend (h : Sta c G H ρ σ) {i n m : Nat} {a : Addr} (e : ρ[i]? = some (.p n)) (f : σ[i]? = some (some (.ref a))) (t : Stp (M1 a) G H G' H') (p : Pen c.K G' a m H') : Sta c G' H' (ρ.set i (.p m)) σ := by
  have mm := h.nw i _ _ a e f ⟨rfl, rfl⟩
  have hi : i < σ.length := (List.getElem?_eq_some_iff.mp f).1
  have hσ : σ.set i (some (.ref a)) = σ := by
    rw [List.getElem?_eq_getElem hi] at f
    rw [← Option.some.inj f]
    exact List.set_getElem_self hi
  have st' : Stp c.M c.G0 c.H0 G' H' := h.st.inner t fun b hb => by rw [show b = a from hb]; exact mm.imp (fun z => z.2) (fun z => z.2)
  have key : ∀ {j : Nat} {q : Sl}, (ρ.set i (.p m))[j]? = some q → (j = i ∧ q = .p m) ∨ (j ≠ i ∧ ρ[j]? = some q) := fun {j q} e1 => by
    by_cases z : j = i
    · subst z
      rw [List.getElem?_set, if_pos rfl] at e1
      split at e1
      · exact .inl ⟨rfl, (Option.some.inj e1).symm⟩
      · cases e1
    · rw [List.getElem?_set_ne (Ne.symm z)] at e1
      exact .inr ⟨z, e1⟩
  have sl0 : Paired (SlOk c G' H') (ρ.set i .un) σ := by
    have h0 : Paired (SlOk c G H) (ρ.set i .un) σ := by
      have z := paired_set (R := SlOk c G H) (x := Sl.un) (y := some (V.ref a)) trivial i h.sl
      rwa [hσ] at z
    refine paired_map h0 fun j q y e1 e2 r => ?_
    by_cases z : j = i
    · subst z
      rw [List.getElem?_set, if_pos rfl] at e1
      split at e1
      · cases e1; trivial
      · cases e1
    · rw [List.getElem?_set_ne (Ne.symm z)] at e1
      refine r.stp t fun b ob hb => ?_
      rw [show b = a from hb] at ob
      exact h.ds j i q _ y _ a z e1 e2 e f ob ⟨rfl, rfl⟩
  have sl1 : Paired (SlOk c G' H') (ρ.set i (.p m)) σ := by
    have z := paired_set (R := SlOk c G' H') (x := Sl.p m) (y := some (V.ref a)) ⟨a, rfl, p⟩ i sl0
    rwa [hσ, List.set_set] at z
  refine ⟨st', sl1, fun j q y b e1 e2 ob => ?_, fun j k t' u' y z b jk e1 e2 e3 e4 o1 o2 => ?_, h.tb.step t fun b u m hu => by
    obtain ⟨x0, f0, ok0⟩ := h.get e
    rw [f] at f0
    cases f0
    exact ok0.plain rfl (by rw [show b = a from m]) hu⟩
  · rcases key e1 with ⟨rfl, rfl⟩ | ⟨_, f1⟩
    · rw [f] at e2
      cases e2
      have := ob.2
      cases this
      exact mm
    · exact h.nw j q y b f1 e2 ob
  · rcases key e1 with ⟨rfl, rfl⟩ | ⟨q1, f1⟩
    · rcases key e3 with ⟨rfl, _⟩ | ⟨q2, f3⟩
      · exact jk rfl
      · rw [f] at e2
        cases e2
        exact h.ds _ k _ u' _ z b jk e f f3 e4 ⟨rfl, o1.2⟩ o2
    · rcases key e3 with ⟨rfl, rfl⟩ | ⟨q2, f3⟩
      · rw [f] at e4
        cases e4
        exact h.ds j _ t' _ y _ b jk f1 e2 e f o1 ⟨rfl, o2.2⟩
      · exact h.ds j k t' u' y z b jk f1 e2 f3 e4 o1 o2
theorem Mv.lend (h : Sta c G H ρ σ) {i n m : Nat} {a : Addr} (e : ρ[i]? = some (.p n)) (f : σ[i]? = some (some (.ref a))) (t : Stp (M1 a) G H G' H') (p : Pen c.K G' a m H') : Mv c σ G H ρ G' H' (ρ.set i (.p m)) :=
  ⟨h.lend e f t p, t.gg, fun b n j q y e1 e2 o => by
    by_cases z : j = i
    · subst z
      rw [List.getElem?_set, if_pos rfl] at e1
      split at e1
      · cases e1
        exact n _ _ _ e e2 ⟨rfl, o.2⟩
      · cases e1
    · rw [List.getElem?_set_ne (Ne.symm z)] at e1
      exact n j q y e1 e2 o, fun b o hb no _ => t.up b o (fun z => no i _ _ e f (by rw [show b = a from z]; exact ⟨rfl, rfl⟩)) hb, fun b o hb _ => t.fr' b o hb, t.th⟩
def pPen (i : Nat) (ps : Nat → List D → (D → Nat → Prop) → Prop) (a : PAX) : PX := fun ρ R => (∃ n0, ρ[i]? = some (.p n0)) ∧ a ρ fun ds ρ1 => ∃ n, ρ1[i]? = some (.p n) ∧ ps n ds fun d m => R d (ρ1.set i (.p m))
theorem x_pen {i : Nat} {ta : TA} {a : PAX} {ps : Nat → List D → (D → Nat → Prop) → Prop} {E : XK} (h : RAX c ta a) : RX c (tCall (spP c.K ps) [] E (tCons (tVar i) ta)) (pPen i ps a) :=
  ⟨fun s ⟨⟨n0, e0⟩, q⟩ k => by
    obtain ⟨x, f, b, ex, _⟩ := s.get e0
    subst ex
    refine ⟨.ref b, f, h.run s q fun ds ρ1 vs G1 H1 ⟨n, e1, q1⟩ m1 r1 => ?_⟩
    obtain ⟨y, f', b', ey, hp⟩ := m1.s.get e1
    rw [f] at f'
    cases f'
    cases ey
    refine ⟨b, n, vs, ds, G1, _, by rw [List.append_nil], m1.s.gh, hp, r1, q1, fun d m v G' H' q2 t2 p2 r2 => ?_⟩
    exact k d _ v G' H' q2 (m1.trans (Mv.lend m1.s e1 f t2 p2)) r2⟩
/-! ### objects -/
theorem RpF.look {C : Addr} : ∀ {fs : List (Str × V)} {es : List (Str × D)} {f : Str}, RpF K G fs es → (es.lookup f = none → fs.lookup f = none) ∧ ∀ e, es.lookup f = some e → ∃ v, fs.lookup f = some v ∧ Rp K G v e
  | _, _, f, .nil => ⟨fun _ => rfl, fun e h => by cases h⟩
  | _, _, f, .cons (k := k) (v := v) (d := d) r t => by
    rw [List.lookup_cons, List.lookup_cons]
    cases h : f == k with
    | true =>
      refine ⟨fun z => (by cases z), fun e z => ?_⟩
      cases z
      exact ⟨v, rfl, r⟩
    | false => exact RpF.look (C := C) t
def pFld (C : Addr) (f : Str) (a : PQ) : PQ := fun ρ R => a ρ fun d => ∃ fs e, d = .obj C fs ∧ fs.lookup f = some e ∧ R e
theorem q_fld {te : TE} {C : Addr} {f : Str} {a : PQ} (z : Cls c.K C) (n : NoAttr c.K C f) (h : RQ c te a) : RQ c (tFld c.K te f) (pFld C f a) :=
  ⟨fun s q k => h.run s q fun d v G1 H1 ⟨fs, e, ed, el, q1⟩ t1 r1 => by
    subst ed
    obtain ⟨a, dx, vs, rfl, h1, h2⟩ := r1.obj_inv
    obtain ⟨v, hv, rv⟩ := (RpF.look (C := C) h2).2 e el
    exact ⟨a, C, dx, vs, v, rfl, t1.gh _ _ h1, z, n, hv, k e v G1 H1 q1 t1 rv⟩⟩
def pMeth (C : Addr) (m : Str) (ps : List D → (D → Prop) → Prop) (a : PQ) (r : PAQ) : PQ := fun ρ R => a ρ fun d => ∃ fs, d = .obj C fs ∧ fs.lookup m = none ∧ r ρ fun ds => ps (d :: ds) R
theorem q_meth {te : TE} {ta : TA} {C : Addr} {m : Str} {a : PQ} {r : PAQ} {ps : List D → (D → Prop) → Prop} {E : XK} (h : RQ c te a) (h' : RA c ta r) : RQ c (tMeth C m (spD c.K ps) [] E te ta) (pMeth C m ps a r) :=
  ⟨fun s q k => h.run s q fun d v G1 H1 ⟨fs, ed, el, q1⟩ t1 r1 => by
    subst ed
    obtain ⟨a, dx, vs, rfl, h1, h2⟩ := id r1.obj_inv
    refine ⟨a, dx, vs, rfl, t1.gh _ _ h1, (RpF.look (C := C) h2).1 el, h'.run (s.stp0 t1) q1 fun ds ws G2 H2 q2 t2 r2 => ⟨_, G2, _, t2.gh, ?_, q2, fun d v G' H' q3 t3 r3 => k d v G' H' q3 ((t1.trans t2).trans t3) r3⟩⟩
    rw [List.append_nil]
    exact .cons (r1.same t2.gg) r2⟩
/-- the promise of a class's begin -/
def spI (K : PySem.W.Frag) (C : Addr) (ps : List D → (List (Str × D) → Prop) → Prop) : Sp := fun vs H Q _ => ∃ (x dx : Addr) (rest : List V) (ds : List D) (G : Hp) (R : List (Str × D) → Prop), vs = .ref x :: rest ∧ Same G H ∧ H x = some (.ins C dx []) ∧ G x = none ∧ Rps K G rest ds ∧ ps ds R ∧
  ∀ fs vs' dx' G' H', R fs → Stp (M1 x) G H G' H' → G' x = none → H' x = some (.ins C dx' vs') → RpF K G' vs' fs → Q .non H'
end
/-! comprehensions in which a pen writes; changes of things of one's own; dicts, sets -/
section
variable {c : Fr} {K : PySem.W.Frag} {G H G' H' : Hp} {ρ : Env} {σ : L2.St} {v : V} {d : D}
end
/-! changes of things of one's own; dicts, sets; operations over data -/
section
variable {c : Fr} {K : PySem.W.Frag} {G H G' H' : Hp} {ρ : Env} {σ : L2.St} {v : V} {d : D}
/-! ### lists of one's own -/
theorem Sta.own (s : Sta c G H ρ σ) {i : Nat} {t : Sl} (e : ρ[i]? = some t) (o : t.own = true) : ∃ a, σ[i]? = some (some (.ref a)) ∧ SlOk c G H t (some (.ref a)) := by
  obtain ⟨x, f, ok⟩ := s.get e
  obtain ⟨a, _, rfl, _⟩ := ok.own o
  exact ⟨a, f, ok⟩
/-- xs.append(e) -/
def pAppend (i : Nat) (a : PX) : PS' := fun E ρ => (∃ ds0, ρ[i]? = some (.l ds0)) ∧ a ρ fun d ρ1 => ∃ ds, ρ1[i]? = some (.l ds) ∧ ds.length < sizeLine ∧ E.nx (ρ1.set i (.l (ds ++ [d])))
/-- xs.extend(e), e a new list -/
def pExtend (i : Nat) (a : PN) : PS' := fun E ρ => (∃ ds0, ρ[i]? = some (.l ds0)) ∧ a ρ fun t ρ1 => ∃ ds es, ρ1[i]? = some (.l ds) ∧ t = .l es ∧ ds.length + es.length ≤ sizeLine ∧ E.nx (ρ1.set i (.l (ds ++ es)))
/-- xs.pop() as a statement -/
def pPop (i : Nat) : PS' := fun E ρ => ∃ ds, ρ[i]? = some (.l ds) ∧ ds ≠ [] ∧ E.nx (ρ.set i (.l ds.dropLast))
/-- xs.clear() -/
def pClear (i : Nat) : PS' := fun E ρ => ∃ ds, ρ[i]? = some (.l ds) ∧ E.nx (ρ.set i (.l []))
/-! ### dicts -/
def kyD : Key → D
  | .inl i => .int i
  | .inr x => .str x
theorem kyD_inv {v : V} {k : Key} (h : Rp K G v (kyD k)) : v = kV k := by
  cases k with
  | inl i => exact h.int_inv
  | inr x => exact h.str_inv
theorem RpK.val : ∀ {kvs : List (Key × V)} {es : List (Key × D)} {k : Key}, RpK K G kvs es → (dval es k = none → valV kvs k = none) ∧ ∀ d, dval es k = some d → ∃ v, valV kvs k = some v ∧ Rp K G v d
  | _, _, k, .nil => ⟨fun _ => rfl, fun e h => by cases h⟩
  | _, _, k, .cons (k := k') (v := v) (d := d) (vs := vs) (ds := ds) r t => by
    by_cases h : k' = k
    · subst h
      refine ⟨fun z => ?_, fun e z => ?_⟩
      · unfold dval at z
        simp at z
      · unfold dval at z
        simp at z
        subst z
        exact ⟨v, valV_pos rfl, r⟩
    · have e1 : dval ((k', d) :: ds) k = dval ds k := by unfold dval; simp [List.find?_cons, h]
      rw [e1, valV_neg h]
      exact RpK.val t
theorem RpK.any : ∀ {kvs : List (Key × V)} {es : List (Key × D)} {k : Key}, RpK K G kvs es → (kvs.any fun kv => decide (kv.1 = k)) = (es.any fun kv => decide (kv.1 = k))
  | _, _, k, .nil => rfl
  | _, _, k, .cons r t => by rw [List.any_cons, List.any_cons, RpK.any t]
theorem RpK.put {k : Key} {v : V} {d : D} {kvs : List (Key × V)} {es : List (Key × D)} (h : RpK K G kvs es) (r : Rp K G v d) : RpK K G (putK kvs k v) (dputD es k d) := by
  have hm : ∀ {kvs : List (Key × V)} {es : List (Key × D)}, RpK K G kvs es → RpK K G (kvs.map fun kv => if kv.1 = k then (kv.1, v) else kv) (es.map fun p => if p.1 = k then (k, d) else p) := fun {kvs es} h => by
    induction kvs generalizing es with
    | nil => cases h; exact .nil
    | cons q qs ih => cases h with
      | cons a b =>
        rw [List.map_cons, List.map_cons]
        split
        · rename_i k' _ _ _ e
          have e' : k' = k := e
          subst e'
          exact .cons r (ih b)
        · exact .cons a (ih b)
  have ha : ∀ {kvs : List (Key × V)} {es : List (Key × D)}, RpK K G kvs es → RpK K G (kvs ++ [(k, v)]) (es ++ [(k, d)]) := fun {kvs es} h => by
    induction kvs generalizing es with
    | nil => cases h; exact .cons r .nil
    | cons q qs ih => cases h with
      | cons a b => exact .cons a (ih b)
  unfold putK dputD
  rw [h.any]
  split
  · exact hm h
  · exact ha h
/-- d[k] -/
def pDGet (a b : PQ) : PQ := fun ρ R => a ρ fun x => b ρ fun y => ∃ es k d, Dkt x es ∧ y = kyD k ∧ dval es k = some d ∧ R d
theorem q_dget {td ty : TE} {a b : PQ} (ha : RO c td a) (hb : RQ c ty b) : RQ c (tDGet td ty) (pDGet a b) :=
  ⟨fun s q k => ha.run s q fun x v G1 H1 q1 t1 r1 => hb.run (s.stp0 t1) q1 fun y u G2 H2 ⟨es, ky, d, e1, e2, e3, q2⟩ t2 r2 => by
    subst e2
    obtain ⟨p, kvs, rfl, hp, rr⟩ := (r1.stp t2).dk e1 t2.gh
    obtain ⟨w, hw, rw_⟩ := rr.val.2 d e3
    rw [kyD_inv r2]
    exact ⟨p, w, rfl, by rw [← hw]; exact .inl ⟨_, _, hp, rfl, rfl⟩, k d w G2 H2 q2 (t1.trans t2) rw_⟩⟩
def pDIn (neg : Bool) (a b : PQ) : PQ := fun ρ R => a ρ fun y => b ρ fun x => ∃ es k, Dkt x es ∧ y = kyD k ∧ R (.bl (if neg then !(dval es k).isSome else (dval es k).isSome))
theorem RpK.isSome {kvs : List (Key × V)} {es : List (Key × D)} {k : Key} (h : RpK K G kvs es) : (valV kvs k).isSome = (dval es k).isSome := by
  cases e : dval es k with
  | none => rw [h.val.1 e]; rfl
  | some d => obtain ⟨v, hv, _⟩ := h.val.2 d e; rw [hv]; rfl
/-- d[k] = e, a dict of one's own -/
def pDPut (i : Nat) (a b : PX) : PS' := fun E ρ => a ρ fun d ρ1 => ∃ es0, ρ1[i]? = some (.d es0) ∧ b ρ1 fun y ρ2 => ∃ es k, ρ2[i]? = some (.d es) ∧ y = kyD k ∧ es.length < sizeLine ∧ E.nx (ρ2.set i (.d (dputD es k d)))
/-- {k: v ..} -/
def pPairs : List (PQ × PQ) → Env → (List (D × D) → Prop) → Prop
  | [], _, R => R []
  | (a, b) :: r, ρ, R => a ρ fun x => b ρ fun y => pPairs r ρ fun ps => R ((x, y) :: ps)
structure RP (c : Fr) (ts : List (TE × TE)) (p : Env → (List (D × D) → Prop) → Prop) : Prop where
  run : ∀ {ρ : Env} {σ : L2.St} {G H : Hp} {Q : List (V × V) → Hp → Prop} {R : List (D × D) → Prop}, Sta c G H ρ σ → p ρ R → (∀ ds vs G' H', R ds → Stp M0 G H G' H' → Paired (fun (x : V × V) (y : D × D) => Rp c.K G' x.1 y.1 ∧ Rp c.K G' x.2 y.2) vs ds → Q vs H') → tPairs ts σ H Q
def dmerge (es : List (Key × D)) : List (Key × D) := es.foldl (fun acc p => dputD acc p.1 p.2) []
/-- {k: v for x in xs} over names unlike (any keys): by the rows so far -/
def pDc (pi : PAQ) (pg : PGt) (pt : PB) (pk pv : PQ) (vs : List Nat) : Env → (Sl → Prop) → Prop := fun ρ R => pi ρ fun ds => ds.length < 2 ^ 20 ∧ ∃ Pv : Nat → List (Key × D) → Prop, Pv 0 [] ∧
  (∀ i d acc, i < ds.length → ds[i]? = some d → acc.length ≤ i → Pv i acc → pg d (wipeE ρ vs) fun ρ2 => pt ρ2 fun b => if b = true then pk ρ2 fun y => pv ρ2 fun z => ∃ k, y = kyD k ∧ Pv (i + 1) (dputD acc k z) else Pv (i + 1) acc) ∧ ∀ acc, acc.length ≤ ds.length → Pv ds.length acc → R (.d acc)
/-! ### sets of texts and numbers -/
def pSAdd (i : Nat) (a : PX) : PS' := fun E ρ => (∃ S0 n0, ρ[i]? = some (.k S0 n0)) ∧ a ρ fun d ρ1 => ∃ S n k, ρ1[i]? = some (.k S n) ∧ d = kyD k ∧ n + 1 < scanBound ∧ E.nx (ρ1.set i (.k (fun j => S j || decide (j = k)) (if S k = true then n else n + 1)))
def pSIn (neg : Bool) (a : PQ) (i : Nat) : PQ := fun ρ R => a ρ fun d => ∃ k S n, ρ[i]? = some (.k S n) ∧ d = kyD k ∧ R (.bl (if neg then !S k else S k))
end
/-! operations over data -/
section
variable {c : Fr} {K : PySem.W.Frag} {G H G' H' : Hp} {ρ : Env} {σ : L2.St} {v : V} {d : D}
/-! ### numbers, comparisons -/
def fI0 (g : Int → Int → D) : D → D → (D → Prop) → Prop := fun x y R => ∃ i j, x = .int i ∧ y = .int j ∧ R (g i j)
def fI (C : Int → Int → Prop) (g : Int → Int → D) : D → D → (D → Prop) → Prop := fun x y R => ∃ i j, x = .int i ∧ y = .int j ∧ C i j ∧ R (g i j)
theorem oq_I0 {g : Int → Int → V} {g' : Int → Int → D} (h : ∀ i j G, Rp K G (g i j) (g' i j)) : OQ K (rI0 g) (fI0 g') :=
  ⟨fun gs hx hy ⟨i, j, e1, e2, q⟩ k => by subst e1 e2; exact ⟨i, j, hx.int, hy.int, k _ _ _ _ q (Stp.refl gs) (h i j _)⟩⟩
theorem oq_I {C : Int → Int → Prop} {g : Int → Int → V} {g' : Int → Int → D} (h : ∀ i j G, Rp K G (g i j) (g' i j)) : OQ K (rI C g) (fI C g') :=
  ⟨fun gs hx hy ⟨i, j, e1, e2, hc, q⟩ k => by subst e1 e2; exact ⟨i, j, hx.int, hy.int, hc, k _ _ _ _ q (Stp.refl gs) (h i j _)⟩⟩
theorem oq_int {g : Int → Int → Int} : OQ K (rI0 fun i j => .int (g i j)) (fI0 fun i j => .int (g i j)) := oq_I0 fun _ _ _ => .int _
theorem oq_intC {C : Int → Int → Prop} {g : Int → Int → Int} : OQ K (rI C fun i j => .int (g i j)) (fI C fun i j => .int (g i j)) := oq_I fun _ _ _ => .int _
def D.sv : D → Option V
  | .non => some .non
  | .bl b => some (.bl b)
  | .int i => some (.int i)
  | .str x => some (.str x)
  | _ => none
theorem Po.sv {u : V} (h : Po K G H v d) (e : d.sv = some u) : v = u := by
  cases d <;> first | (cases e; exact h.non) | (cases e; exact h.bl) | (cases e; exact h.int) | (cases e; exact h.str) | cases e
def fEq : D → D → (D → Prop) → Prop := fun x y R => ∃ u w, x.sv = some u ∧ y.sv = some w ∧ scal u w = true ∧ R (.bl (decide (u = w)))
def fNe : D → D → (D → Prop) → Prop := fun x y R => ∃ u w, x.sv = some u ∧ y.sv = some w ∧ scal u w = true ∧ R (.bl (!decide (u = w)))
theorem oq_eq : OQ K rEq fEq := ⟨fun gs hx hy ⟨u, w, e1, e2, sc, q⟩ k => by rw [hx.sv e1, hy.sv e2]; exact ⟨sc, k _ _ _ _ q (Stp.refl gs) (.bl _)⟩⟩
theorem oq_ne : OQ K rNe fNe := ⟨fun gs hx hy ⟨u, w, e1, e2, sc, q⟩ k => by rw [hx.sv e1, hy.sv e2]; exact ⟨sc, k _ _ _ _ q (Stp.refl gs) (.bl _)⟩⟩
def D.isN : D → Bool
  | .non => true
  | _ => false
theorem Po.isN (h : Po K G H v d) : decide (v = V.non) = d.isN := by
  rcases h with h | ⟨a, vs, ds, rfl, rfl, _⟩ | ⟨a, vs, ds, rfl, rfl, _⟩ | ⟨a, vs, ds, rfl, rfl, _⟩
  · cases h <;> rfl
  · rfl
  · rfl
  · rfl
def fIsN : D → D → (D → Prop) → Prop := fun x y R => y = .non ∧ R (.bl x.isN)
def fNotN : D → D → (D → Prop) → Prop := fun x y R => y = .non ∧ R (.bl (!x.isN))
def fB2 (g : Bool → Bool → Bool) : D → D → (D → Prop) → Prop := fun x y R => ∃ a b, x = .bl a ∧ y = .bl b ∧ R (.bl (g a b))
theorem oq_notB : OQ K rNotB (fB2 fun a b => !decide (a = b)) := ⟨fun gs hx hy ⟨a, b, e1, e2, q⟩ k => by subst e1 e2; exact ⟨a, b, hx.bl, hy.bl, k _ _ _ _ q (Stp.refl gs) (.bl _)⟩⟩
def fS2 (g : Str → Str → D) : D → D → (D → Prop) → Prop := fun x y R => ∃ a b, x = .str a ∧ y = .str b ∧ R (g a b)
def fAddS : D → D → (D → Prop) → Prop := fun x y R => ∃ a b, x = .str a ∧ y = .str b ∧ a.length + b.length ≤ sizeLine ∧ R (.str (a ++ b))
def fSign (neg : Bool) : D → D → (D → Prop) → Prop := fun x y R => ∃ k z, x = .str ⟨#[k]⟩ ∧ y = .str z ∧ R (.bl (if neg then !decide (k ∈ z.cps.toList) else decide (k ∈ z.cps.toList)))
/-! ### data that is compared -/
mutual
inductive Py : D → PyData → Prop
  | non : Py .non .none
  | bl (b : Bool) : Py (.bl b) (.bool b)
  | int (i : Int) : Py (.int i) (.int i)
  | str (x : Str) : Py (.str x) (.str x)
  | lst {ds : List D} {es : List PyData} : Pys ds es → Py (.lst ds) (.list es)
  | tup {ds : List D} {es : List PyData} : Pys ds es → Py (.tup ds) (.tuple es)
  | tun {ds : List D} {es : List PyData} : Pys ds es → Py (.tun ds) (.tuple es)
inductive Pys : List D → List PyData → Prop
  | nil : Pys [] []
  | cons {d : D} {ds : List D} {e : PyData} {es : List PyData} : Py d e → Pys ds es → Pys (d :: ds) (e :: es)
end
mutual
theorem Py.dp (g : Same G H) : ∀ {d : D} {e : PyData} {v : V}, Py d e → Rp K G v d → Dp K H v e
  | _, _, _, .non, r => by rw [r.non_inv]; exact .non
  | _, _, _, .bl b, r => by rw [r.bl_inv]; exact .bl b
  | _, _, _, .int b, r => by rw [r.int_inv]; exact .int b
  | _, _, _, .str b, r => by rw [r.str_inv]; exact .str b
  | _, _, _, .lst p, r => by
    obtain ⟨a, vs, rfl, h1, h2⟩ := r.lst_inv
    exact .lst (g.seq h1) (Pys.dp g p h2)
  | _, _, _, .tup p, r => by
    obtain ⟨a, vs, rfl, h1, h2⟩ := r.tup_inv
    exact .tup (Same.sqt g h1) (Pys.dp g p h2)
  | _, _, _, .tun p, r => by
    obtain ⟨a, vs, rfl, h1, h2⟩ := r.untun.tup_inv
    exact .tup (Same.sqt g h1) (Pys.dp g p h2)
theorem Pys.dp (g : Same G H) : ∀ {d : List D} {e : List PyData} {v : List V}, Pys d e → Rps K G v d → DpAll K H v e
  | _, _, _, .nil, r => by cases r; exact .nil
  | _, _, _, .cons a b, r => by
    cases r with
    | cons r1 r2 => exact .cons (Py.dp g a r1) (Pys.dp g b r2)
end
theorem Po.dp {e : PyData} (h : Po K G H v d) (p : Py d e) (g : Same G H) : Dp K H v e := by
  rcases h with h | ⟨a, vs, ds, rfl, rfl, h1, h2⟩ | ⟨a, vs, ds, rfl, rfl, _⟩ | ⟨a, vs, ds, rfl, rfl, _⟩
  · exact p.dp g h
  · cases p with
    | lst p => exact .lst (lof h1) (Pys.dp g p h2)
  · cases p
  · cases p
theorem Pys.strs : ∀ {xs : List Str}, Pys (xs.map D.str) (xs.map PyData.str)
  | [] => .nil
  | _ :: _ => .cons (.str _) Pys.strs
theorem Pys.ints : ∀ {xs : List Int}, Pys (xs.map D.int) (xs.map PyData.int)
  | [] => .nil
  | _ :: _ => .cons (.int _) Pys.ints
theorem Pys.map {α : Type} {f : α → D} {g : α → PyData} (h : ∀ x, Py (f x) (g x)) : ∀ {xs : List α}, Pys (xs.map f) (xs.map g)
  | [] => .nil
  | _ :: _ => .cons (h _) (Pys.map h)
def fEqD (neg : Bool) : D → D → (D → Prop) → Prop := fun x y R => ∃ d e, Py x d ∧ Py y e ∧ SeqAt.shaped d = true ∧ SeqAt.shaped e = true ∧ R (.bl (if neg then !PyData.eqv d e else PyData.eqv d e))
theorem oq_eqD : OQ K (rEqD K) (fEqD false) := ⟨fun gs hx hy ⟨a, b, e1, e2, s1, s2, q⟩ k => ⟨a, b, hx.dp e1 gs, hy.dp e2 gs, s1, s2, k _ _ _ _ q (Stp.refl gs) (.bl _)⟩⟩
theorem oq_neD : OQ K (rNeD K) (fEqD true) := ⟨fun gs hx hy ⟨a, b, e1, e2, s1, s2, q⟩ k => ⟨a, b, hx.dp e1 gs, hy.dp e2 gs, s1, s2, k _ _ _ _ q (Stp.refl gs) (.bl _)⟩⟩
/-! ### rows -/
def Rw (d : D) (ds : List D) : Prop := d = .lst ds ∨ Tp d ds
theorem Po.rw {ds : List D} (h : Po K G H v d) (t : Rw d ds) (g : Same G H) : ∃ a vs, v = .ref a ∧ (SqL K H a vs ∨ SqT K H a vs) ∧ Rps K G vs ds := by
  rcases t with rfl | t
  · obtain ⟨a, vs, e, h1, h2⟩ := h.lst g
    exact ⟨a, vs, e, .inl h1, h2⟩
  · obtain ⟨a, vs, e, _, h1, h2⟩ := h.tp t g
    exact ⟨a, vs, e, .inr h1, h2⟩
/-- a text in a row of texts -/
def fIn (neg : Bool) : D → D → (D → Prop) → Prop := fun x y R => ∃ (z : Str) (zs : List Str), x = .str z ∧ Rw y (zs.map D.str) ∧ R (.bl (if neg then !decide (z ∈ zs) else decide (z ∈ zs)))
theorem oq_in {neg : Bool} : OQ K (rIn K neg) (fIn neg) := ⟨fun gs hx hy ⟨z, zs, e1, e2, q⟩ k => by
  subst e1
  obtain ⟨a, vs, rfl, h1, h2⟩ := hy.rw e2 gs
  rw [h2.strs_inv] at h1
  rw [hx.str]
  refine ⟨a, _, rfl, h1, rfl, flat_strs _, ?_⟩
  rw [inV_strs]
  exact k _ _ _ _ q (Stp.refl gs) (.bl _)⟩
theorem Rps.at {vs : List V} {ds : List D} {i : Int} {x : D} (r : Rps K G vs ds) (h : atI ds i = some x) : ∃ y, atI vs i = some y ∧ Rp K G y x := by
  unfold atI at h ⊢
  rw [r.len]
  cases e : ixN ds.length i with
  | none => rw [e] at h; cases h
  | some j => rw [e] at h; exact r.get h
def fIx : D → D → (D → Prop) → Prop := fun x y R => ∃ ds i d, Rw x ds ∧ y = .int i ∧ atI ds i = some d ∧ R d
theorem oq_ixL : OQ K (rIxL K) (fun x y R => ∃ ds i d, x = .lst ds ∧ y = .int i ∧ atI ds i = some d ∧ R d) := ⟨fun gs hx hy ⟨ds, i, d, e1, e2, e3, q⟩ k => by
  subst e1 e2
  obtain ⟨a, vs, rfl, h1, h2⟩ := hx.lst gs
  obtain ⟨y, hy', r⟩ := h2.at e3
  exact ⟨a, vs, i, y, rfl, hy.int, h1, hy', k _ _ _ _ q (Stp.refl gs) r⟩⟩
theorem oq_ixT : OQ K (rIxT K) (fun x y R => ∃ ds i d, Tp x ds ∧ y = .int i ∧ atI ds i = some d ∧ R d) := ⟨fun gs hx hy ⟨ds, i, d, e1, e2, e3, q⟩ k => by
  subst e2
  obtain ⟨a, vs, rfl, _, h1, h2⟩ := hx.tp e1 gs
  obtain ⟨y, hy', r⟩ := h2.at e3
  exact ⟨a, vs, i, y, rfl, hy.int, h1, hy', k _ _ _ _ q (Stp.refl gs) r⟩⟩
def fIxS : D → D → (D → Prop) → Prop := fun x y R => ∃ z i ch, x = .str z ∧ y = .int i ∧ z.length ≤ sizeLine ∧ atI z.cps.toList i = some ch ∧ R (.str ⟨#[ch]⟩)
/-- a tuple and a tuple -/
def fCatT : D → D → (D → Prop) → Prop := fun x y R => ∃ ds es, Tp x ds ∧ Tp y es ∧ ds.length + es.length ≤ sizeLine ∧ R (.tup (ds ++ es))
theorem Po.tpRp {ds : List D} (h : Po K G H v d) (t : Tp d ds) : Rp K G v (.tup ds) := by
  rcases t with rfl | rfl
  · exact h.rp (fun _ e => by cases e) (fun _ e => by cases e) (fun _ e => by cases e)
  · exact (h.rp (fun _ e => by cases e) (fun _ e => by cases e) (fun _ e => by cases e)).untun
theorem oq_catA : OQ K (rCatA K) fCatT := ⟨fun {x y d e G H Q R} gs hx hy ⟨ds, es, e1, e2, hl, q⟩ k => by
  obtain ⟨a, vs, rfl, _, h1, r1⟩ := hx.tp e1 gs
  obtain ⟨b, ws, rfl, _, h2, r2⟩ := hy.tp e2 gs
  refine ⟨a, b, vs, ws, rfl, rfl, h1, h2, by rw [r1.len, r2.len]; exact hl, fun z => ?_, fun _ z => ?_, fun _ _ p hp => ?_⟩
  · subst z
    cases r1
    exact k _ _ _ _ q (Stp.refl gs) (hy.tpRp e2)
  · subst z
    cases r2
    rw [List.append_nil] at q
    exact k _ _ _ _ q (Stp.refl gs) (hx.tpRp e1)
  · exact k _ _ _ _ q (Stp.new gs hp) (.tup (tof upd_same) ((r1.append r2).same (same_new (none_of gs hp))))⟩
structure ON (c : Fr) (r : R2) (f : D → D → (Sl → Prop) → Prop) : Prop where
  run : ∀ {x y : V} {d e : D} {G H : Hp} {Q : VK} {R : Sl → Prop}, Same G H → Po c.K G H x d → Po c.K G H y e → f d e R → (∀ s a G' H', R s → Stp M0 G H G' H' → SlOk c G' H' s (some (.ref a)) → s.nu = true → H a = none → Q (.ref a) H') → r x y H Q
def pOpN (f : D → D → (Sl → Prop) → Prop) (a b : PQ) : Env → (Sl → Prop) → Prop := fun ρ R => a ρ fun x => b ρ fun y => f x y R
theorem n_op {r : R2} {f : D → D → (Sl → Prop) → Prop} {ta tb : TE} {a b : PQ} (o : ON c r f) (ha : RO c ta a) (hb : RO c tb b) : RN c (tOp r ta tb) (pOpN f a b) :=
  ⟨fun s q k => ha.run s q fun x v G1 H1 q1 t1 r1 => hb.run (s.stp0 t1) q1 fun y u G2 H2 q2 t2 r2 =>
    o.run t2.gh (r1.stp t2) r2 q2 fun z w G3 H3 q3 t3 r3 ow hn => k z w G3 H3 q3 ((t1.trans t2).trans t3) r3 ow ((t1.trans t2).free hn)⟩
/-- a list and a list -/
def rCatS (K : PySem.W.Frag) : R2 := fun x y H Q => ∃ l b xs zs, x = .ref l ∧ y = .ref b ∧ SqL K H l xs ∧ SqL K H b zs ∧ xs.length + zs.length ≤ sizeLine ∧ ∀ p, H p = none → Q (.ref p) (upd H p (.lst (xs ++ zs)))
theorem op_catS {X : Cx} : OpR X (binaryOp .Add) (rCatS X.K) := by
  intro pins s σ H x y v u Q I rx ry h
  obtain ⟨l, b, xs, zs, rfl, rfl, hH, hB, hz, q⟩ := h
  cases rx
  cases ry
  obtain ⟨its, r, ⟨⟨cls, dd, data, sl⟩, n, ho, hc, hd, hs⟩, _⟩ := I.list hH
  obtain ⟨its2, r2, ⟨⟨cls2, dd2, data2, sl2⟩, n2, ho2, hc2, hd2, hs2⟩, _⟩ := I.list hB
  simp only at hc hd hs hc2 hd2 hs2
  subst hc hd hs hc2 hd2 hs2
  have hl := r.length
  have hl2 := r2.length
  have ea : its.toArray ++ its2.toArray = (its ++ its2).toArray := by simp
  refine concat_meets ⟨_, ho, rfl⟩ ⟨_, ho2, rfl⟩ noFill_list_add seq_list_add PySem.F.slot_list_add PySem.F.entry_list_add (PySem.F.args_list_add_2 _ _) (list_addW l b its.toArray its2.toArray n n2 _ _ _ _ (by rw [List.size_toArray, List.size_toArray]; omega)) ⟨ho, ho2, ?_⟩
  rw [ea]
  exact ⟨.ref _, _, I.lnew (t' := s.toks) (r.append r2) (by rw [List.length_append]; omega), rfl, q _ I.fresh⟩
theorem k_op_catS {X : Cx} {K : PySem.W.Frag} (h : X.K = K) : OpR X (binaryOp .Add) (rCatS K) := h ▸ op_catS
def fCatL : D → D → (Sl → Prop) → Prop := fun x y R => ∃ ds es, x = .lst ds ∧ y = .lst es ∧ ds.length + es.length ≤ sizeLine ∧ R (.l (ds ++ es))
theorem on_cat : ON c (rCatS c.K) fCatL := ⟨fun gs hx hy ⟨ds, es, e1, e2, hl, q⟩ k => by
  subst e1 e2
  obtain ⟨a, vs, rfl, h1, r1⟩ := hx.lst gs
  obtain ⟨b, ws, rfl, h2, r2⟩ := hy.lst gs
  exact ⟨a, b, vs, ws, rfl, rfl, h1, h2, by rw [r1.len, r2.len]; exact hl, fun p hp => k _ p _ _ q (Stp.newM gs hp) ⟨p, _, rfl, upd_same, none_of gs hp, r1.append r2⟩ rfl hp⟩⟩
/-! ### slices -/
structure RPt (c : Fr) (to : TO) (p : Env → (Option Int → Prop) → Prop) : Prop where
  run : ∀ {ρ : Env} {σ : L2.St} {G H : Hp} {Q : Option Int → Hp → Prop} {R : Option Int → Prop}, Sta c G H ρ σ → p ρ R → (∀ o G' H', R o → Stp M0 G H G' H' → Q o H') → to σ H Q
theorem pt_none : RPt c tNoPart (fun _ R => R none) := ⟨fun s q k => k none _ _ q (Stp.refl s.gh)⟩
theorem pt_some {te : TE} {a : PQ} (h : RQ c te a) : RPt c (tPart te) (fun ρ R => a ρ fun d => ∃ i, d = .int i ∧ R (some i)) := ⟨fun s q k => h.run s q fun d v G1 H1 ⟨i, e, q1⟩ t1 r1 => by subst e; exact ⟨i, r1.int_inv, k _ G1 H1 q1 t1⟩⟩
def cutD (xs : List D) (lo hi : Option Int) : List D := (xs.drop (HT.sIx xs.length 0 lo)).take (HT.sIx xs.length xs.length hi - HT.sIx xs.length 0 lo)
theorem Rps.cut {vs : List V} {ds : List D} (r : Rps K G vs ds) (lo hi : Option Int) : Rps K G (cutV vs lo hi) (cutD ds lo hi) := by
  unfold cutV cutD
  rw [r.len]
  exact (r.drop _).take _
def pSl (f : D → Option Int → Option Int → (D → Prop) → Prop) (a : PQ) (l h : Env → (Option Int → Prop) → Prop) : PQ := fun ρ R => a ρ fun d => l ρ fun lo => h ρ fun hi => f d lo hi R
def fSlT : D → Option Int → Option Int → (D → Prop) → Prop := fun x lo hi R => ∃ ds, Tp x ds ∧ R (.tup (cutD ds lo hi))
theorem cutD_all {ds : List D} {lo hi : Option Int} (h : HT.sIx ds.length 0 lo = 0 ∧ HT.sIx ds.length ds.length hi = ds.length) : cutD ds lo hi = ds := by
  unfold cutD
  rw [h.1, h.2]
  simp
theorem q_slT {te : TE} {tl th : TO} {a : PQ} {l h : Env → (Option Int → Prop) → Prop} (ha : RO c te a) (hl : RPt c tl l) (hh : RPt c th h) : RQ c (tSl (rSlA c.K) te tl th) (pSl fSlT a l h) :=
  ⟨fun s q k => ha.run s q fun d v G1 H1 q1 t1 r1 => hl.run (s.stp0 t1) q1 fun lo G2 H2 q2 t2 => hh.run (s.stp0 (t1.trans t2)) q2 fun hi G3 H3 ⟨ds, tp, q3⟩ t3 => by
    have t13 := (t1.trans t2).trans t3
    have r3 := r1.stp (t2.trans t3)
    obtain ⟨p, vs, rfl, h0, h1, r⟩ := r3.tp tp t3.gh
    refine ⟨p, vs, rfl, h1, fun z => ?_, fun _ b hb => k _ _ _ _ q3 (t13.trans (Stp.new t3.gh hb)) (.tup (tof upd_same) ((r.cut lo hi).same (same_new (none_of t3.gh hb))))⟩
    rw [r.len] at z
    rw [cutD_all z] at q3
    exact k _ _ _ _ q3 t13 (r3.tpRp tp)⟩
theorem q_revT {te : TE} {a : PQ} (ha : RO c te a) : RQ c (tRevT c.K te) (fun ρ R => a ρ fun d => ∃ ds, Tp d ds ∧ R (.tup ds.reverse)) :=
  ⟨fun s q k => ha.run s q fun d v G1 H1 ⟨ds, tp, q1⟩ t1 r1 => by
    obtain ⟨p, vs, rfl, _, h1, r⟩ := r1.tp tp t1.gh
    exact ⟨p, vs, rfl, h1, fun b hb => k _ _ _ _ q1 (t1.trans (Stp.new t1.gh hb)) (.tup (tof upd_same) (r.reverse.same (same_new (none_of t1.gh hb))))⟩⟩
/-! ### built-ins -/
def fLen : D → (D → Prop) → Prop := fun x R => ∃ ds, Rw x ds ∧ R (.int (ds.length : Int))
theorem cq_len : CQ K (kLen K) fLen := ⟨fun gs hx ⟨ds, e, q⟩ k => by
  obtain ⟨a, vs, rfl, h1, r⟩ := hx.rw e gs
  exact ⟨a, vs, rfl, h1, by rw [r.len]; exact k _ _ _ _ q (Stp.refl gs) (.int _)⟩⟩
structure CN (c : Fr) (r : List V → Hp → VK → Prop) (f : D → (Sl → Prop) → Prop) : Prop where
  run : ∀ {x : V} {d : D} {G H : Hp} {Q : VK} {R : Sl → Prop}, Same G H → Po c.K G H x d → f d R → (∀ s a G' H', R s → Stp M0 G H G' H' → SlOk c G' H' s (some (.ref a)) → s.nu = true → H a = none → Q (.ref a) H') → r [x] H Q
theorem n_cb {r : List V → Hp → VK → Prop} {f : D → (Sl → Prop) → Prop} {ta : TA} {a : PQ} (o : CN c r f) (ha : RAO c ta a) : RN c (tCB r ta) (fun ρ R => a ρ fun x => f x R) :=
  ⟨fun s q k => ha.run s q fun x v G1 H1 q1 t1 r1 => o.run t1.gh r1 q1 fun z w G3 H3 q3 t3 r3 ow hn => k z w G3 H3 q3 (t1.trans t3) r3 ow (t1.free hn)⟩
theorem cn_list : CN c (kList c.K) (fun x R => ∃ ds, Rw x ds ∧ R (.l ds)) := ⟨fun gs hx ⟨ds, e, q⟩ k => by
  obtain ⟨a, vs, rfl, h1, r⟩ := hx.rw e gs
  exact ⟨a, vs, rfl, h1, fun p hp => k _ p _ _ q (Stp.newM gs hp) ⟨p, vs, rfl, upd_same, none_of gs hp, r⟩ rfl hp⟩⟩
theorem cq_tuple : CQ K (kTuple K) (fun x R => ∃ ds, Rw x ds ∧ R (.tup ds)) := ⟨fun gs hx ⟨ds, e, q⟩ k => by
  rcases e with rfl | e
  · obtain ⟨a, vs, rfl, h1, r⟩ := hx.lst gs
    exact ⟨a, vs, rfl, .inl ⟨h1, fun p hp => k _ _ _ _ q (Stp.new gs hp) (.tup (tof upd_same) (r.same (same_new (none_of gs hp))))⟩⟩
  · obtain ⟨a, vs, rfl, _, h1, r⟩ := hx.tp e gs
    exact ⟨a, vs, rfl, .inr ⟨h1, k _ _ _ _ q (Stp.refl gs) (hx.tpRp e)⟩⟩⟩
/-- a tuple that is known to bear no dict -/
def kTupleF (K : PySem.W.Frag) : List V → Hp → VK → Prop := fun xs H Q => ∃ p ys, xs = [.ref p] ∧ SqL K H p ys ∧ ∀ l (o : Obj), H l = none → o.dict = none → Q (.ref l) (upd H l (.frz o (.tup ys)))
abbrev prD (e : Dr) : D := .tup [.str e.1, .str e.2]
/-- data that reads as pairs of texts -/
def PrD (ds : List D) (es : List Dr) : Prop := Paired (fun d (e : Dr) => Tp d [.str e.1, .str e.2]) ds es
theorem PrD.prs {vs : List V} {ds : List D} {es : List Dr} (p : PrD ds es) (r : Rps K G vs ds) : PrsT K G vs es := by
  refine ⟨r.len.trans (Paired.length p), fun i d h => ?_⟩
  have hi : i < ds.length := by rw [Paired.length p]; exact (List.getElem?_eq_some_iff.mp h).1
  obtain ⟨y, hy, t⟩ := paired_get p (List.getElem?_eq_getElem hi)
  rw [h] at hy
  cases hy
  obtain ⟨v, hv, rv⟩ := r.get (List.getElem?_eq_getElem hi)
  obtain ⟨a, ws, rfl, h1, _, h2⟩ := (Po.of (H := G) rv).tp t (Same.refl _)
  have e : ws = [V.str d.1, V.str d.2] := by
    cases h2 with
    | cons a b => cases b with
      | cons b r => cases r; rw [a.str_inv, b.str_inv]
  subst e
  exact ⟨a, hv, h1⟩
theorem PrD.of (es : List Dr) : PrD (es.map prD) es := by
  induction es with
  | nil => exact .nil
  | cons e es ih => exact .cons (.inl rfl) ih
theorem prs_rps : ∀ {vs : List V} {es : List Dr}, PrsT K G vs es → Rps K G vs (es.map prD)
  | [], [], _ => .nil
  | [], _ :: _, h => by cases h.1
  | _ :: _, [], h => by cases h.1
  | v :: vs, e :: es, h => by
    obtain ⟨t, ht, hq⟩ := h.2 0 e rfl
    cases ht
    exact .cons (.tup hq (.cons (.str _) (.cons (.str _) .nil))) (prs_rps ⟨by simpa using h.1, fun i d hd => h.2 (i + 1) d (by simpa using hd)⟩)
theorem cq_all : CQ K (rAll K) (fun x R => ∃ (bs : List Bool), x = .lst (bs.map D.bl) ∧ R (.bl (bs.all id))) := ⟨fun gs hx ⟨bs, e, q⟩ k => by
  subst e
  obtain ⟨a, vs, rfl, h1, r⟩ := hx.lst gs
  rw [r.bls_inv] at h1
  exact ⟨a, bs, rfl, h1, k _ _ _ _ q (Stp.refl gs) (.bl _)⟩⟩
/-- the type's name -/
def D.tyn : D → Option String
  | .non => some "NoneType"
  | .bl _ => some "bool"
  | .int _ => some "int"
  | .str _ => some "str"
  | .lst _ => some "list"
  | .tup _ => some "tuple"
  | .tun _ => some "tuple"
  | .dct _ => some "dict"
  | .dcT _ => some "dict"
  | .dcz _ => some "dict"
  | .tuk _ => some "tuple"
  | _ => none
theorem Rp.tyx {n : String} (h : Rp K G v d) (g : Same G H) (e : d.tyn = some n) : TyX K H v (.type n) := by
  cases h with
  | non => cases e; exact .base .non
  | bl b => cases e; exact .base (.bl b)
  | int b => cases e; exact .base (.int b)
  | str b => cases e; exact .base (.str b)
  | ty _ => cases e
  | fn _ => cases e
  | lst h _ => cases e; exact ty_lst (g.seq h)
  | tup h _ => cases e; exact ty_tup (Same.sqt g h)
  | tun h _ _ => cases e; exact .fTuple (g _ _ h)
  | dct h _ => cases e; exact .base (.dK (g _ _ h))
  | dcT h _ => cases e; exact .base (.dT (g _ _ h))
  | dcz h _ => cases e; exact .fDict (g _ _ h)
  | dcZ h _ => cases e
  | tuk h => cases e; exact ty_tup (tof (g _ _ h))
  | obj h _ => cases e
def fIsi (n : String) : D → (D → Prop) → Prop := fun x R => ∃ m b, x.tyn = some m ∧ kitB m n = some b ∧ R (.bl b)
theorem q_isi {te : TE} {a : PQ} {n : String} (ha : RQ c te a) : RQ c (tCB (rIsi c.K) (tCons te (tCons (tC (.ty n)) tNil))) (pUn (fIsi n) a) :=
  ⟨fun s q k => ha.run s q fun d v G1 H1 ⟨m, b, e1, e2, q1⟩ t1 r1 => ⟨v, .ty n, .type m, .type n, b, rfl, .ty n, r1.tyx t1.gh e1, kit_ty e2, k _ _ _ _ q1 t1 (.bl _)⟩⟩
/-- isinstance(x, (list, tuple)) -/
def fIsi2 (n1 n2 : String) : D → (D → Prop) → Prop := fun x R => ∃ m b1 b2, x.tyn = some m ∧ kitB m n1 = some b1 ∧ kitB m n2 = some b2 ∧ R (.bl (b1 || b2))
/-- truth -/
def D.tru : D → Option Bool
  | .non => some false
  | .bl b => some b
  | .int i => some (i != 0)
  | .lst ds => some (!ds.isEmpty)
  | .tup ds => some (!ds.isEmpty)
  | .tun ds => some (!ds.isEmpty)
  | .dct ds => some (!ds.isEmpty)
  | _ => none
theorem isEmpty_len {α β : Type} {xs : List α} {ys : List β} (h : xs.length = ys.length) : xs.isEmpty = ys.isEmpty := by
  cases xs <;> cases ys <;> first | rfl | cases h
theorem Po.tru {b : Bool} (h : Po K G H v d) (g : Same G H) (e : d.tru = some b) : TruV K v H b := by
  cases d with
  | non => rw [h.non]; cases e; rfl
  | bl b => rw [h.bl]; cases e; rfl
  | int b => rw [h.int]; cases e; rfl
  | lst ds => obtain ⟨a, vs, rfl, h1, r⟩ := h.lst g; cases e; exact .inl ⟨vs, h1, by rw [isEmpty_len r.len]⟩
  | tup ds => obtain ⟨a, vs, rfl, _, h1, r⟩ := h.tp (.inl rfl) g; cases e; exact .inr (.inl ⟨vs, h1, by rw [isEmpty_len r.len]⟩)
  | tun ds => obtain ⟨a, vs, rfl, _, h1, r⟩ := h.tp (.inr rfl) g; cases e; exact .inr (.inl ⟨vs, h1, by rw [isEmpty_len r.len]⟩)
  | dct ds => obtain ⟨a, vs, rfl, h1, r⟩ := h.dct g; cases e; exact .inr (.inr ⟨vs, h1, by rw [isEmpty_len r.len]⟩)
  | _ => cases e
/-- repr of data -/
def fRepr : D → (D → Prop) → Prop := fun x R => ∃ d, Py x d ∧ d.showable = true ∧ d.hasDict = false ∧ d.depth ≤ 40 ∧ d.shown.length ≤ sizeLine ∧ R (.str d.shown)
def kReprV (K : PySem.W.Frag) : List V → Hp → VK → Prop := fun xs H Q => ∃ (x : V) (d : PyData), xs = [x] ∧ Dp K H x d ∧ d.showable = true ∧ d.hasDict = false ∧ d.depth ≤ 40 ∧ d.shown.length ≤ sizeLine ∧ Q (.str d.shown) H
theorem call_reprV {X : Cx} (gd : X.A.guards = some []) (hu : X.A.units + 64 < cLine) : CallR X (.builtin "repr") (kReprV X.K) := by
  intro pins s σ H xs us Q I r h
  obtain ⟨x, d, rfl, hD, hs, hn, hdp, hsz, q⟩ := h
  obtain ⟨u, rfl, rx⟩ := vals1 r
  have ref : ∀ a, x = .ref a → wpAny (model X.prog X.w) X.A (call (.builtin "repr") [u]) (EP X pins σ Q) X.xe s := fun a e => by
    subst e
    cases rx
    obtain ⟨as, rd⟩ := Dp.reads I d (.ref a) (.ref a) hD rfl
    exact repr_of_reads' rd hs (fun z => by rw [hn] at z; cases z) gd (by omega) (fun _ _ e => e) (fun h' u tk hk => ⟨.str d.shown, H, I.kept (t' := tk) hk, ⟨_, rfl⟩, q⟩) hsz
  cases hD with
  | non =>
    cases (show u = Value.none from rx)
    simp only [PyData.shown] at q
    exact PySem.P.repr_of_none ⟨.str _, H, I.tok _, ⟨_, rfl⟩, q⟩
  | bl b =>
    cases (show u = Value.bool b from rx)
    simp only [PyData.shown] at q
    exact PySem.P.repr_of_bool ⟨.str _, H, I.tok _, ⟨_, rfl⟩, q⟩
  | int i =>
    obtain ⟨t, rfl⟩ := rx
    simp only [PyData.shown] at q
    simp only [PyData.showable, decide_eq_true_eq] at hs
    exact PySem.P.repr_of_int hs ⟨.str _, H, I.tok _, ⟨_, rfl⟩, q⟩
  | str y =>
    obtain ⟨t, rfl⟩ := rx
    simp only [PyData.shown] at q hsz
    exact PySem.P.repr_of_str ⟨.str _, H, I.tok _, ⟨_, rfl⟩, q⟩ hsz
  | lst _ _ => exact ref _ rfl
  | tup _ _ => exact ref _ rfl
end
/-! a def over data: how its promise is shown -/
section
variable {P : Program} {w : World} {c : Fr} {K : PySem.W.Frag} {G H G' H' : Hp} {ρ : Env} {σ : L2.St} {v : V} {d : D}
theorem b_yes : RB c tYes (fun _ R => R true) := ⟨fun s q k => k _ _ _ q (Stp.refl s.gh)⟩
abbrev P1 := D → (D → Prop) → Prop
def ps0 (B : (D → Prop) → Prop) : List D → (D → Prop) → Prop := fun ds R => ds = [] ∧ B R
def ps1 (B : D → (D → Prop) → Prop) : List D → (D → Prop) → Prop := fun ds R => ∃ x, ds = [x] ∧ B x R
def ps2 (B : D → D → (D → Prop) → Prop) : List D → (D → Prop) → Prop := fun ds R => ∃ x y, ds = [x, y] ∧ B x y R
def ps3 (B : D → D → D → (D → Prop) → Prop) : List D → (D → Prop) → Prop := fun ds R => ∃ x y z, ds = [x, y, z] ∧ B x y z R
def ps4 (B : D → D → D → D → (D → Prop) → Prop) : List D → (D → Prop) → Prop := fun ds R => ∃ x y z u, ds = [x, y, z, u] ∧ B x y z u R
def ps5 (B : D → D → D → D → D → (D → Prop) → Prop) : List D → (D → Prop) → Prop := fun ds R => ∃ x y z u w, ds = [x, y, z, u, w] ∧ B x y z u w R
def pn1 (B : D → (Sl → Prop) → Prop) : List D → (Sl → Prop) → Prop := fun ds R => ∃ x, ds = [x] ∧ B x R
def pn2 (B : D → D → (Sl → Prop) → Prop) : List D → (Sl → Prop) → Prop := fun ds R => ∃ x y, ds = [x, y] ∧ B x y R
def pn3 (B : D → D → D → (Sl → Prop) → Prop) : List D → (Sl → Prop) → Prop := fun ds R => ∃ x y z, ds = [x, y, z] ∧ B x y z R
def pp0 (B : Nat → (D → Nat → Prop) → Prop) : Nat → List D → (D → Nat → Prop) → Prop := fun n ds R => ds = [] ∧ B n R
def pp1 (B : Nat → D → (D → Nat → Prop) → Prop) : Nat → List D → (D → Nat → Prop) → Prop := fun n ds R => ∃ x, ds = [x] ∧ B n x R
def pp2 (B : Nat → D → D → (D → Nat → Prop) → Prop) : Nat → List D → (D → Nat → Prop) → Prop := fun n ds R => ∃ x y, ds = [x, y] ∧ B n x y R
def pp3 (B : Nat → D → D → D → (D → Nat → Prop) → Prop) : Nat → List D → (D → Nat → Prop) → Prop := fun n ds R => ∃ x y z, ds = [x, y, z] ∧ B n x y z R
def pp4 (B : Nat → D → D → D → D → (D → Nat → Prop) → Prop) : Nat → List D → (D → Nat → Prop) → Prop := fun n ds R => ∃ x y z u, ds = [x, y, z, u] ∧ B n x y z u R
def LenIs (n : Nat) (ps : List D → (D → Prop) → Prop) : Prop := ∀ ds R, ps ds R → ds.length = n
theorem len_D {ps : List D → (D → Prop) → Prop} {vs : List V} {Q : VK} {E : XK} {n : Nat} (h : spD K ps vs H Q E) (l : ∀ ds R, ps ds R → ds.length = n) : vs.length = n := by
  obtain ⟨ds, G, R, _, hr, hp, _⟩ := h
  rw [hr.len]
  exact l ds R hp
theorem len_P {ps : Nat → List D → (D → Nat → Prop) → Prop} {vs : List V} {Q : VK} {E : XK} {n : Nat} (h : spP K ps vs H Q E) (l : ∀ k ds R, ps k ds R → ds.length + 1 = n) : vs.length = n := by
  obtain ⟨p, k, rest, ds, G, R, rfl, _, _, hr, hp, _⟩ := h
  rw [List.length_cons, hr.len]
  exact l k ds R hp
theorem l1 {B : D → (D → Prop) → Prop} : ∀ ds R, ps1 B ds R → ds.length = 1 := fun ds R ⟨x, e, _⟩ => by rw [e]; rfl
theorem l2 {B : D → D → (D → Prop) → Prop} : ∀ ds R, ps2 B ds R → ds.length = 2 := fun ds R ⟨x, y, e, _⟩ => by rw [e]; rfl
theorem l3 {B : D → D → D → (D → Prop) → Prop} : ∀ ds R, ps3 B ds R → ds.length = 3 := fun ds R ⟨x, y, z, e, _⟩ => by rw [e]; rfl
theorem l4 {B : D → D → D → D → (D → Prop) → Prop} : ∀ ds R, ps4 B ds R → ds.length = 4 := fun ds R ⟨x, y, z, u, e, _⟩ => by rw [e]; rfl
theorem l5 {B : D → D → D → D → D → (D → Prop) → Prop} : ∀ ds R, ps5 B ds R → ds.length = 5 := fun ds R ⟨x, y, z, u, w, e, _⟩ => by rw [e]; rfl
theorem lp2 {B : Nat → D → D → (D → Nat → Prop) → Prop} : ∀ k ds R, pp2 B k ds R → ds.length + 1 = 3 := fun k ds R ⟨x, y, e, _⟩ => by rw [e]; rfl
/-- the slots at a def's begin -/
abbrev MN (H : Hp) : Addr → Prop := fun a => H a = none
theorem Stp.ofMN (t : Stp (MN H) G H G' H') : Stp M0 G H G' H' := ⟨fun a o _ e => t.up a o (fun z => by rw [show H a = none from z] at e; cases e) e, t.gg, t.gh, t.fr', t.th⟩
theorem start_ok {M : Addr → Prop} (g : Same G H) : ∀ {vs : List V} {ds : List D}, Rps K G vs ds → ∀ k : Nat, Paired (SlOk ⟨P, w, K, M, G, H, []⟩ G H) (ds.map Sl.v ++ List.replicate k .un) (vs.map some ++ List.replicate k none)
  | _, _, .nil, 0 => .nil
  | _, _, .nil, k + 1 => .cons trivial (start_ok g .nil k)
  | _, _, .cons r t, k => .cons ⟨_, rfl, r⟩ (start_ok g t k)
theorem noOwn {ds : List D} {k i : Nat} {s : Sl} {x : Option V} {a : Addr} (e : (ds.map Sl.v ++ List.replicate k .un)[i]? = some s) : ¬ Own s x a := fun o => by
  have hm := List.mem_of_getElem? e
  rcases List.mem_append.mp hm with h | h
  · obtain ⟨d, _, rfl⟩ := List.mem_map.mp h
    exact own_v o
  · rw [List.eq_of_mem_replicate h] at o
    exact own_un o
theorem run_D {ps : List D → (D → Prop) → Prop} {vs : List V} {Q : VK} {E : XK} {N : List Str} {t : TS} (h : spD K ps vs H Q E)
    (body : ∀ G ds R, ps ds R → ∃ (p : PS') (ρ0 : Env), RS ⟨P, w, K, MN H, G, H, []⟩ t p ∧ ds.map Sl.v ++ List.replicate (N.length - ds.length) .un = ρ0 ∧ p { nx := fun _ => R .non, rt := fun d _ => R d } ρ0) :
    t { nx := fun _ H' => Q .non H', rt := Q } (L2.start N vs) H := by
  obtain ⟨ds, G, R, g, hr, hp, hq⟩ := h
  obtain ⟨p, ρ0, rs, e, q⟩ := body G ds R hp
  subst e
  have s0 : Sta ⟨P, w, K, MN H, G, H, []⟩ G H (ds.map Sl.v ++ List.replicate (N.length - ds.length) .un) (L2.start N vs) := by
    unfold L2.start
    rw [hr.len]
    exact Sta.begin g (start_ok g hr _) (fun i s x a e1 e2 o => absurd o (noOwn e1)) (fun i j s t x y a _ e1 e2 e3 e4 o1 o2 => noOwn e1 o1)
  exact rs.run s0 q ⟨fun ρ σ G' H' _ s q => hq _ _ _ _ q s.st.ofMN .non, fun d ρ σ v G' H' _ s q r => hq _ _ _ _ q s.st.ofMN r, fun _ _ _ _ _ _ q => q.elim, fun _ _ _ _ _ _ q => q.elim, fun _ _ _ _ _ _ _ _ q => q.elim, fun _ _ _ _ _ _ _ _ _ _ _ q => q.elim⟩
/-- a def that tells a pair of new things -/
def sp2 (P : Program) (w : World) (K : PySem.W.Frag) (ps : List D → (Sl → Sl → Prop) → Prop) : Sp := fun vs H Q _ => ∃ ds G R, Same G H ∧ Rps K G vs ds ∧ ps ds R ∧
  ∀ s s' t a b G' H', R s s' → Stp M0 G H G' H' → SqT K G' t [.ref a, .ref b] → SlOk ⟨P, w, K, M0, G, H, []⟩ G' H' s (some (.ref a)) → SlOk ⟨P, w, K, M0, G, H, []⟩ G' H' s' (some (.ref b)) → s.nu = true → s'.nu = true → H a = none → H b = none → a ≠ b → Q (.ref t) H'
def pt2 (B : D → D → (Sl → Sl → Prop) → Prop) : List D → (Sl → Sl → Prop) → Prop := fun ds R => ∃ x y, ds = [x, y] ∧ B x y R
/-- a, b = such a def's pair -/
def pAsg2 (i j : Nat) (ps : List D → (Sl → Sl → Prop) → Prop) (a : PAX) : PS' := fun E ρ => a ρ fun ds ρ1 => ps ds fun s s' => E.nx ((ρ1.set i s).set j s')
/-- a def that is lent a pen -/
theorem run_P {ps : Nat → List D → (D → Nat → Prop) → Prop} {vs : List V} {Q : VK} {E : XK} {N : List Str} {t : TS} (h : spP K ps vs H Q E)
    (body : ∀ G M n ds R, ps n ds R → ∃ (p : PS') (ρ0 : Env), RS ⟨P, w, K, M, G, H, []⟩ t p ∧ .p n :: (ds.map Sl.v ++ List.replicate (N.length - (ds.length + 1)) .un) = ρ0 ∧ p { nx := fun ρ => ∃ m, ρ[0]? = some (.p m) ∧ R .non m, rt := fun d ρ => ∃ m, ρ[0]? = some (.p m) ∧ R d m } ρ0) :
    t { nx := fun _ H' => Q .non H', rt := Q } (L2.start N vs) H := by
  obtain ⟨b, n, rest, ds, G, R, rfl, g, hpen, hr, hp, hq⟩ := h
  obtain ⟨p, ρ0, rs, e, q⟩ := body G (M1 b) n ds R hp
  subst e
  have s0 : Sta ⟨P, w, K, M1 b, G, H, []⟩ G H (.p n :: (ds.map Sl.v ++ List.replicate (N.length - (ds.length + 1)) .un)) (L2.start N (.ref b :: rest)) := by
    have e0 : L2.start N (.ref b :: rest) = some (.ref b) :: (rest.map some ++ List.replicate (N.length - (ds.length + 1)) none) := by
      unfold L2.start
      rw [List.length_cons, hr.len]
      rfl
    rw [e0]
    have z : Paired (SlOk ⟨P, w, K, M1 b, G, H, []⟩ G H) (ds.map Sl.v ++ List.replicate (N.length - (ds.length + 1)) .un) (rest.map some ++ List.replicate (N.length - (ds.length + 1)) none) :=
      paired_map (start_ok (P := P) (w := w) g hr (N.length - (ds.length + 1))) fun i x y _ _ ok => ok
    refine ⟨Stp.refl g, .cons ⟨b, rfl, hpen⟩ z, fun i s x a e1 e2 o => ?_, fun i j s t x y a ij e1 e2 e3 e4 o1 o2 => ?_, fun p z => nomatch z⟩
    · cases i with
      | zero =>
        simp at e1 e2
        subst e1 e2
        have := o.2
        cases this
        exact .inl ⟨rfl, rfl⟩
      | succ i => exact absurd o (noOwn (by simpa using e1))
    · cases i with
      | zero => cases j with
        | zero => exact ij rfl
        | succ j => exact noOwn (by simpa using e3) o2
      | succ i => exact noOwn (by simpa using e1) o1
  have key : ∀ {ρ σ G' H' m}, Sta ⟨P, w, K, M1 b, G, H, []⟩ G' H' ρ σ → ρ[0]? = some (.p m) → True := fun _ _ => trivial
  -- the pen stands at b still: slot 0 is never stored to; it is the lent one
  have pen : ∀ {ρ σ G' H' m}, Sta ⟨P, w, K, M1 b, G, H, []⟩ G' H' ρ σ → ρ[0]? = some (.p m) → Pen K G' b m H' := fun {ρ σ G' H' m} s e => by
    obtain ⟨x, f, a, rfl, hpn⟩ := s.get e
    rcases s.nw 0 _ _ a e f ⟨rfl, rfl⟩ with z | z
    · have : a = b := z.2
      rw [← this]
      exact hpn
    · cases z.1
  exact rs.run s0 q ⟨fun ρ σ G' H' _ s ⟨m, e, q⟩ => hq _ _ _ _ _ q s.st (pen s e) .non, fun d ρ σ v G' H' _ s ⟨m, e, q⟩ r => hq _ _ _ _ _ q s.st (pen s e) r, fun _ _ _ _ _ _ q => q.elim, fun _ _ _ _ _ _ q => q.elim, fun _ _ _ _ _ _ _ _ q => q.elim, fun _ _ _ _ _ _ _ _ _ _ _ q => q.elim⟩
end
/-! how readings over slots are answered -/
section
variable {c : Fr} {K : PySem.W.Frag} {G H G' H' : Hp} {ρ : Env} {σ : L2.St} {v : V} {d x y z : D} {E : PEnds} {i j n : Nat}
variable {a b : PS'} {e e' : PX} {q q' : PQ} {g : PGt} {gs : PGts} {R : D → Prop} {RX' : D → Env → Prop} {RB' : Bool → Prop} {RBX' : Bool → Env → Prop} {RE : Env → Prop} {RA' : List D → Prop} {RAX' : List D → Env → Prop} {RN' : Sl → Env → Prop}
theorem p_seq (h : a { E with nx := b E } ρ) : pSeq a b E ρ := h
theorem p_next (h : E.nx ρ) : pNext E ρ := h
theorem p_ret (h : e ρ E.rt) : pRet e E ρ := h
theorem p_if {t : PBX} (h : t ρ fun k ρ1 => if k = true then a E ρ1 else b E ρ1) : pIfS t a b E ρ := h
theorem p_asg (h : e ρ fun d ρ1 => g d ρ1 E.nx) : pAsg e g E ρ := h
theorem p_par {p : PAX} (h : p ρ fun ds ρ1 => ∃ x y, ds = [x, y] ∧ E.nx ((ρ1.set i (.v x)).set j (.v y))) : pPar i j p E ρ := h
theorem p_two {P : D → D → Prop} (h : P x y) : ∃ u w, [x, y] = [u, w] ∧ P u w := ⟨x, y, rfl, h⟩
theorem p_for {pi : PIt} (h : pi ρ fun ds ρ1 => pForB ds g b E ρ1) : pFor pi g b E ρ := h
theorem p_tp' {ds : List D} {P : List D → Prop} (h : P ds) : ∃ es, Tp (.tup ds) es ∧ P es := ⟨ds, .inl rfl, h⟩
theorem p_str' {s : Str} {P : Str → Prop} (h : P s) : ∃ z, D.str s = .str z ∧ P z := ⟨s, rfl, h⟩
theorem p_int' {s : Int} {P : Int → Prop} (h : P s) : ∃ z, D.int s = .int z ∧ P z := ⟨s, rfl, h⟩
theorem p_bl' {s : Bool} {P : Bool → Prop} (h : P s) : ∃ z, D.bl s = .bl z ∧ P z := ⟨s, rfl, h⟩
theorem p_l' {ds : List D} {P : D → Prop} (h : P (.lst ds)) : ∃ d, (Sl.l ds).dat = some d ∧ P d := ⟨_, rfl, h⟩
theorem p_d' {ds : List (Key × D)} {P : D → Prop} (h : P (.dct ds)) : ∃ d, (Sl.d ds).dat = some d ∧ P d := ⟨_, rfl, h⟩
theorem p_name (h : RE (ρ.set i (.v d))) : pgName i d ρ RE := h
theorem p_gnil (h : RE ρ) : pgNil [] ρ RE := ⟨rfl, h⟩
theorem p_gcons {r : List D} (h : g x ρ fun ρ1 => gs r ρ1 RE) : pgCons g gs (x :: r) ρ RE := ⟨x, r, rfl, h⟩
theorem p_gtup {ds : List D} (l : ds.length = n) (h : gs ds ρ RE) : pgTup n gs (.tup ds) ρ RE := ⟨ds, .inl rfl, l, h⟩
theorem p_var (h : ρ[i]? = some (.v d)) (r : R d) : pVar i ρ R := ⟨d, h, r⟩
theorem p_c (h : R d) : pC d ρ R := h
theorem p_op {f : D → D → (D → Prop) → Prop} (h : q ρ fun x => q' ρ fun y => f x y R) : pOp f q q' ρ R := h
theorem p_opN {f : D → D → (Sl → Prop) → Prop} {RS' : Sl → Prop} (h : q ρ fun x => q' ρ fun y => f x y RS') : pOpN f q q' ρ RS' := h
theorem p_opX {f : D → D → (D → Prop) → Prop} (h : e ρ fun x ρ1 => e' ρ1 fun y ρ2 => f x y fun z => RX' z ρ2) : pOpX f e e' ρ RX' := h
theorem p_un {f : D → (D → Prop) → Prop} (h : q ρ fun x => f x R) : pUn f q ρ R := h
theorem p_nil (h : RA' []) : pNil ρ RA' := h
theorem p_cons {p : PAQ} (h : q ρ fun x => p ρ fun xs => RA' (x :: xs)) : pCons q p ρ RA' := h
theorem p_consX {p : PAX} (h : e ρ fun x ρ1 => p ρ1 fun xs ρ2 => RAX' (x :: xs) ρ2) : pConsX e p ρ RAX' := h
theorem p_cb {f : D → (D → Prop) → Prop} (h : q ρ fun x => f x R) : pCB f q ρ R := h
theorem p_test (h : q ρ fun x => ∃ b, x = .bl b ∧ RB' b) : pTest q ρ RB' := h
theorem p_or {s t : PB} (h : s ρ fun x => if x = true then RB' true else t ρ RB') : pOr s t ρ RB' := h
theorem p_not {s : PB} (h : s ρ fun x => RB' (!x)) : pNot s ρ RB' := h
theorem p_sl {f : D → Option Int → Option Int → (D → Prop) → Prop} {l h' : Env → (Option Int → Prop) → Prop} (h : q ρ fun d => l ρ fun lo => h' ρ fun hi => f d lo hi R) : pSl f q l h' ρ R := h
theorem p_slT {ds : List D} {lo hi : Option Int} (h : R (.tup (cutD ds lo hi))) : fSlT (.tup ds) lo hi R := ⟨ds, .inl rfl, h⟩
theorem p_I0 {g' : Int → Int → D} {k l : Int} (h : R (g' k l)) : fI0 g' (.int k) (.int l) R := ⟨k, l, rfl, rfl, h⟩
theorem p_neS {k l : Str} (h : R (.bl (!decide (k = l)))) : fNe (.str k) (.str l) R := ⟨.str k, .str l, rfl, rfl, rfl, by rw [show decide (V.str k = V.str l) = decide (k = l) from decide_eq_decide.mpr ⟨fun e => V.str.inj e, fun e => by rw [e]⟩]; exact h⟩
theorem p_eqI {k l : Int} (h : R (.bl (decide (k = l)))) : fEq (.int k) (.int l) R := ⟨.int k, .int l, rfl, rfl, rfl, by rw [show decide (V.int k = V.int l) = decide (k = l) from decide_eq_decide.mpr ⟨fun e => V.int.inj e, fun e => by rw [e]⟩]; exact h⟩
theorem p_lenT {ds : List D} (h : R (.int (ds.length : Int))) : fLen (.tup ds) R := ⟨ds, .inr (.inl rfl), h⟩
theorem p_call {ps : List D → (D → Prop) → Prop} {p : PAQ} (h : p ρ fun ds => ps ds R) : pCall ps p ρ R := h
theorem p_meth {C : Addr} {m : Str} {ps : List D → (D → Prop) → Prop} {p : PAQ} (h : q ρ fun d => ∃ fs, d = .obj C fs ∧ fs.lookup m = none ∧ p ρ fun ds => ps (d :: ds) R) : pMeth C m ps q p ρ R := h
theorem p_pen {ps : Nat → List D → (D → Nat → Prop) → Prop} {p : PAX} (h0 : ρ[i]? = some (.p n)) (h : p ρ fun ds ρ1 => ∃ n, ρ1[i]? = some (.p n) ∧ ps n ds fun d m => RX' d (ρ1.set i (.p m))) : pPen i ps p ρ RX' := ⟨⟨n, h0⟩, h⟩
theorem p_pen' {P : Nat → Prop} (h0 : ρ[i]? = some (.p n)) (h : P n) : ∃ n, ρ[i]? = some (.p n) ∧ P n := ⟨n, h0, h⟩
theorem p_ps1 {B : D → (D → Prop) → Prop} (h : B x R) : ps1 B [x] R := ⟨x, rfl, h⟩
theorem p_ps2 {B : D → D → (D → Prop) → Prop} (h : B x y R) : ps2 B [x, y] R := ⟨x, y, rfl, h⟩
theorem p_ps3 {B : D → D → D → (D → Prop) → Prop} (h : B x y z R) : ps3 B [x, y, z] R := ⟨x, y, z, rfl, h⟩
variable {RP' : D → Nat → Prop}
theorem p_pp1 {B : Nat → D → (D → Nat → Prop) → Prop} (h : B n x RP') : pp1 B n [x] RP' := ⟨x, rfl, h⟩
theorem p_pp2 {B : Nat → D → D → (D → Nat → Prop) → Prop} (h : B n x y RP') : pp2 B n [x, y] RP' := ⟨x, y, rfl, h⟩
theorem p_pp3 {B : Nat → D → D → D → (D → Nat → Prop) → Prop} (h : B n x y z RP') : pp3 B n [x, y, z] RP' := ⟨x, y, z, rfl, h⟩
theorem p_fld {C : Addr} {f : Str} (h : q ρ fun d => ∃ fs e, d = .obj C fs ∧ fs.lookup f = some e ∧ R e) : pFld C f q ρ R := h
theorem p_objF {C : Addr} {f : Str} {fs : List (Str × D)} (e : fs.lookup f = some x) (h : R x) : ∃ es y, D.obj C fs = .obj C es ∧ es.lookup f = some y ∧ R y := ⟨fs, x, rfl, e, h⟩
theorem p_objM {C : Addr} {m : Str} {fs : List (Str × D)} {P : List (Str × D) → Prop} (e : fs.lookup m = none) (h : P fs) : ∃ es, D.obj C fs = .obj C es ∧ es.lookup m = none ∧ P es := ⟨fs, rfl, e, h⟩
theorem p_dget (h : q ρ fun x => q' ρ fun y => ∃ es k d, Dkt x es ∧ y = kyD k ∧ dval es k = some d ∧ R d) : pDGet q q' ρ R := h
theorem p_keyS {es : List (Key × D)} {s : Str} (e : dval es (.inr s) = some x) (h : R x) : ∃ fs k d, Dkt (D.dct es) fs ∧ D.str s = kyD k ∧ dval fs k = some d ∧ R d := ⟨es, .inr s, x, .inl rfl, rfl, e, h⟩
theorem p_in {neg : Bool} {s : Str} {zs : List Str} (h : R (.bl (if neg then !decide (s ∈ zs) else decide (s ∈ zs)))) : fIn neg (.str s) (.lst (zs.map D.str)) R := ⟨s, zs, rfl, .inl rfl, h⟩
theorem atD_of {z : List D} {i : Int} {n : Nat} {c : D} (e : i = (n : Int)) (h : z[n]? = some c) : atI z i = some c := by rw [e]; exact atI_nat h
theorem p_ixL {ds : List D} {k : Int} {m : Nat} (e : k = (m : Int)) (h : ds[m]? = some x) (r : R x) : ∃ es i d, D.lst ds = .lst es ∧ D.int k = .int i ∧ atI es i = some d ∧ R d := ⟨ds, k, x, rfl, rfl, atD_of e h, r⟩
theorem p_ixT {ds : List D} {k : Int} {m : Nat} (e : k = (m : Int)) (h : ds[m]? = some x) (r : R x) : ∃ es i d, Tp (.tup ds) es ∧ D.int k = .int i ∧ atI es i = some d ∧ R d := ⟨ds, k, x, .inl rfl, rfl, atD_of e h, r⟩
theorem p_rng1 {k : Int} {m : Nat} {P : Int → Prop} (e : k = (m : Int)) (hm : m < 2 ^ 62) (h : P (m : Int)) : ∃ j : Int, [D.int k] = [.int j] ∧ (-(2 ^ 62) ≤ j ∧ j < 2 ^ 62) ∧ P j := ⟨k, rfl, by subst e; omega, by subst e; exact h⟩
/-! loops -/
/-- a for over range(n) -/
theorem forR {lo : Int} (Pv : Nat → Env → Prop) (h0 : Pv 0 ρ) (hs : ∀ k ρ, k < n → Pv k ρ → g (.int (lo + (k : Int))) ρ fun ρ' => b { E with nx := Pv (k + 1), ct := Pv (k + 1), bk := E.nx } ρ') (hd : ∀ ρ, Pv n ρ → E.nx ρ) : pForB (rngD lo n) g b E ρ :=
  ⟨Pv, h0, fun i d ρ hi hd pv => by
    rw [rngD_len] at hi
    rw [rngD_get hi] at hd
    cases hd
    exact hs i ρ hi pv, fun ρ pv => hd ρ (by rwa [rngD_len] at pv)⟩
theorem forR0 (Pv : Nat → Env → Prop) (h0 : Pv 0 ρ) (hs : ∀ k ρ, k < n → Pv k ρ → g (.int (k : Int)) ρ fun ρ' => b { E with nx := Pv (k + 1), ct := Pv (k + 1), bk := E.nx } ρ') (hd : ∀ ρ, Pv n ρ → E.nx ρ) : pForB (rngD 0 n) g b E ρ :=
  forR Pv h0 (fun k ρ hk pv => by rw [Int.zero_add]; exact hs k ρ hk pv) hd
/-- a comprehension whose items are told by a map and a filter -/
theorem lcQ {α : Type} {f : α → D} {xs : List α} {ge : PGt} {t : PB} {ee : PQ} {vs : List Nat} {RS' : Sl → Prop} {pi : PAQ} {β : Type} (u : α → Option β) (k : β → D) (hl : xs.length < 2 ^ 20) (hi : ∀ R' : List D → Prop, R' (xs.map f) → pi ρ R')
    (hs : ∀ x, x ∈ xs → ∀ (Em : D → Prop) (Sk : Prop), (∀ z, u x = some z → Em (k z)) → (u x = none → Sk) → ge (f x) (wipeE ρ vs) fun ρ2 => t ρ2 fun b => if b = true then ee ρ2 Em else Sk) (hd : RS' (.l ((xs.filterMap u).map k))) : pLc pi ge t ee vs ρ RS' := by
  refine hi _ ⟨by rw [List.length_map]; exact hl, fun i acc => acc = ((xs.take i).filterMap u).map k, by simp, fun i d acc hi' hd' _ pv => ?_, fun acc _ pv => ?_⟩
  · rw [List.length_map] at hi'
    rw [List.getElem?_map, List.getElem?_eq_getElem hi'] at hd'
    cases hd'
    have e : xs.take (i + 1) = xs.take i ++ [xs[i]] := by rw [List.take_succ, List.getElem?_eq_getElem hi']; rfl
    refine hs xs[i] (List.getElem_mem hi') _ _ (fun z hz => ?_) (fun hz => ?_)
    · dsimp only
      rw [e, List.filterMap_append, pv, List.map_append]
      simp [hz]
    · dsimp only
      rw [e, List.filterMap_append, pv]
      simp [hz]
  · subst pv
    rw [List.length_map, List.take_length]
    exact hd
end
/-! rows sorted; yards as data; promises made weaker; texts told by repr -/
/-! ### texts, sorted -/
def srt (xs : List Str) : List Str := xs.mergeSort fun a b => !ltS b a
theorem srt_perm (xs : List Str) : (srt xs).Perm xs := List.mergeSort_perm _ _
theorem leS_total (a b : Str) : leS a b ∨ leS b a := by
  unfold leS
  cases h : ltS b a with
  | false => exact .inl rfl
  | true => exact .inr (ltS_asymm h)
theorem srt_sorted (xs : List Str) : sortedS (srt xs) = true := by
  refine pw_sorted ?_
  have h : (srt xs).Pairwise fun a b => (!ltS b a) = true := List.pairwise_mergeSort (fun a b c h1 h2 => by
    have e1 : ltS b a = false := by simpa using h1
    have e2 : ltS c b = false := by simpa using h2
    have e3 : ltS c a = false := leS_trans (a := a) (b := b) (c := c) e1 e2
    rw [e3]
    rfl) (fun a b => by
    rcases leS_total a b with h | h
    · rw [show ltS b a = false from h]; rfl
    · rw [show ltS a b = false from h]; simp) xs
  exact h.imp fun {a b} h => by
    have h' : ltS b a = false := by simpa using h
    exact h'
theorem srt_uniq {xs ys : List Str} (p : ys.Perm xs) (h : sortedS ys = true) : ys = srt xs := sorted_uniq (p.trans (srt_perm xs).symm) h (srt_sorted xs)
theorem srt_mem {xs : List Str} {z : Str} : z ∈ srt xs ↔ z ∈ xs := (srt_perm xs).mem_iff
theorem srt_len (xs : List Str) : (srt xs).length = xs.length := (srt_perm xs).length_eq
theorem srt_nodup {xs : List Str} (h : xs.Nodup) : (srt xs).Nodup := (srt_perm xs).nodup_iff.mpr h
/-! ### pairs of texts, sorted -/
abbrev ltD (d e : Dr) : Bool := lexLt itemOrd (keyD d) (keyD e)
theorem keyD_inj {d e : Dr} (h : keyD d = keyD e) : d = e := by
  unfold keyD at h
  injection h with h1 h2
  injection h2 with h2 _
  exact Prod.ext (str_of_list (Sum.inr.inj h1)) (str_of_list (Sum.inr.inj h2))
theorem lex_conn {O : KeyOrd} : ∀ {a b : List O.α}, a.length = b.length → PyProof.Rows.lexLt O a b = false → PyProof.Rows.lexLt O b a = false → a = b
  | [], [], _, _, _ => rfl
  | [], _ :: _, h, _, _ => by cases h
  | _ :: _, [], h, _, _ => by cases h
  | x :: r, y :: t, h, h1, h2 => by
    obtain ⟨h3, h4⟩ := lex_false.mp h1
    obtain ⟨h5, h6⟩ := lex_false.mp h2
    have e := O.total x y h3 h5
    subst e
    have e2 : r = t := lex_conn (by simpa using h) (by rw [lex_self] at h1; exact h1) (by rw [lex_self] at h2; exact h2)
    rw [e2]
theorem leD_anti {d e : Dr} (h1 : leD d e) (h2 : leD e d) : d = e := keyD_inj (lex_conn (O := itemOrd) rfl h2 h1)
theorem ltD_asymm {d e : Dr} (h : ltD d e = true) : ltD e d = false := by
  cases q : ltD e d with
  | false => rfl
  | true => have := lex_trans _ _ _ h q; rw [lex_irrefl] at this; cases this
theorem leD_total (d e : Dr) : leD d e ∨ leD e d := by
  cases h : ltD e d with
  | false => exact .inl h
  | true => exact .inr (ltD_asymm h)
theorem leD_trans {d e f : Dr} (h1 : leD d e) (h2 : leD e f) : leD d f := by
  unfold leD at *
  cases q : lexLt itemOrd (keyD f) (keyD d) with
  | false => rfl
  | true =>
    by_cases z : ltD d e = true
    · have := lex_trans _ _ _ q z
      rw [h2] at this
      cases this
    · have e0 : ltD d e = false := by simpa using z
      have e1 : d = e := leD_anti h1 e0
      subst e1
      rw [h2] at q
      cases q
def srtP (es : List Dr) : List Dr := es.mergeSort fun d e => !ltD e d
theorem srtP_perm (es : List Dr) : (srtP es).Perm es := List.mergeSort_perm _ _
theorem srtP_sorted (es : List Dr) : (srtP es).Pairwise leD := by
  have h : (srtP es).Pairwise fun a b => (!ltD b a) = true := List.pairwise_mergeSort (fun a b c h1 h2 => by
    have e1' : ltD b a = false := by simpa using h1
    have e2' : ltD c b = false := by simpa using h2
    have e1 : leD a b := e1'
    have e2 : leD b c := e2'
    have e3 : ltD c a = false := leD_trans e1 e2
    rw [e3]
    rfl) (fun a b => by
    rcases leD_total a b with h | h
    · rw [show ltD b a = false from h]; rfl
    · rw [show ltD a b = false from h]; simp) es
  exact h.imp fun {a b} h => by
    have h' : ltD b a = false := by simpa using h
    exact h'
theorem srtP_uniq {es fs : List Dr} (p : fs.Perm es) (h : fs.Pairwise leD) : fs = srtP es :=
  List.Perm.eq_of_pairwise (le := leD) (fun a b _ _ x y => leD_anti x y) h (srtP_sorted es) (p.trans (srtP_perm es).symm)
theorem srtP_mem {es : List Dr} {e : Dr} : e ∈ srtP es ↔ e ∈ es := (srtP_perm es).mem_iff
theorem srtP_len (es : List Dr) : (srtP es).length = es.length := (srtP_perm es).length_eq
/-! ### pairs sorted, the very things -/
section
variable {X : Cx}
def rSortPr2 (K : PySem.W.Frag) : List V → Hp → VK → Prop := fun vs H Q => ∃ (a : Addr) (xs : List V) (ds : List Dr) (G0 : Hp), vs = [V.ref a] ∧ Same G0 H ∧ SqL K H a xs ∧ PrsT K G0 xs ds ∧ ds.length ≤ 1000 ∧
  ∀ (ys : List V) (es : List Dr) (p : Addr), PrsT K G0 ys es → es.Perm ds → es.Pairwise leD → (∀ (i : Nat) (y : V) (e : Dr), ys[i]? = some y → es[i]? = some e → ∃ j : Nat, xs[j]? = some y ∧ ds[j]? = some e) → H p = none → Q (.ref p) (upd H p (.lst ys))
end
section
variable {c : Fr} {K : PySem.W.Frag} {G H G' H' : Hp} {v : V}
/-! ### yards -/
abbrev trD (e : Dr) : D := .tun [.str e.1, .str e.2]
def yardD (rs : List Str) (ds : List Dr) : D := .dct [(.inr "rooms", .lst (rs.map D.str)), (.inr "doors", .lst (ds.map trD))]
theorem yard_r {rs : List Str} {ds : List Dr} {R : D → Prop} (h : R (.lst (rs.map D.str))) : ∃ es k d, Dkt (yardD rs ds) es ∧ D.str "rooms" = kyD k ∧ dval es k = some d ∧ R d := ⟨_, .inr "rooms", _, .inl rfl, rfl, by unfold dval; rw [List.find?_cons_of_pos (by simp)]; rfl, h⟩
theorem PrD.tun (es : List Dr) : PrD (es.map trD) es := by
  induction es with
  | nil => exact .nil
  | cons e es ih => exact .cons (.inr rfl) ih
theorem drAll_rps : ∀ {xs : List V} {ds : List Dr}, DrAll G xs ds → Rps K G xs (ds.map trD)
  | [], [], _ => .nil
  | [], _ :: _, h => by cases h.1
  | _ :: _, [], h => by cases h.1
  | v :: vs, e :: es, h => by
    obtain ⟨t, o, ht, hq, ho⟩ := h.2 0 e rfl
    cases ht
    exact .cons (.tun hq ho (.cons (.str _) (.cons (.str _) .nil))) (drAll_rps ⟨by simpa using h.1, fun i d hd => h.2 (i + 1) d (by simpa using hd)⟩)
theorem rps_drAll {xs : List V} {ds : List Dr} (h : Rps K G xs (ds.map trD)) : DrAll G xs ds := by
  refine ⟨by have := h.len; rwa [List.length_map] at this, fun i d hd => ?_⟩
  obtain ⟨y, hy, r⟩ := h.get (i := i) (x := trD d) (by rw [List.getElem?_map, hd]; rfl)
  obtain ⟨a, o, vs, rfl, h1, h2, h3⟩ := Rp.tun_inv r
  have e : vs = [V.str d.1, V.str d.2] := by
    cases h3 with
    | cons a b => cases b with
      | cons b r => cases r; rw [a.str_inv, b.str_inv]
  subst e
  exact ⟨a, o, hy, h1, h2⟩
theorem yard_rp {y : Addr} {rs : List Str} {ds : List Dr} (h : Yard K G y rs ds) : Rp K G (.ref y) (yardD rs ds) := by
  obtain ⟨d, xs, ⟨r, e1, e2⟩, h2, h3⟩ := h
  exact .dct e1 (.cons (.lst e2 Rps.strs) (.cons (.lst h2 (drAll_rps h3)) .nil))
theorem rp_yard {rs : List Str} {ds : List Dr} (h : Rp K G v (yardD rs ds)) : ∃ y, v = .ref y ∧ Yard K G y rs ds := by
  obtain ⟨y, kvs, rfl, h1, h2⟩ := Rp.dct_inv h
  cases h2 with
  | cons a b => cases b with
    | cons b r =>
      cases r
      obtain ⟨r, vs, rfl, h3, h4⟩ := a.lst_inv
      obtain ⟨d, xs, rfl, h5, h6⟩ := b.lst_inv
      rw [h4.strs_inv] at h3
      exact ⟨y, rfl, d, xs, ⟨r, h1, h3⟩, h5, rps_drAll h6⟩
end
/-! ### weaker promises -/
section
variable {P : Program} {w : World} {K : PySem.W.Frag} {mg : Str → Option Value} {base : Heap} {CX : CXT} {k : Nat} {x : Str} {ps : List Str} {sp sp' : Sp} {C : Addr} {m : Str}
theorem Df.imp (F : Df P w K mg base CX k x ps sp) (h : ∀ vs H Q E, sp' vs H Q E → sp vs H Q E) : Df P w K mg base CX k x ps sp' := by
  obtain ⟨f, fd, F, r⟩ := F
  exact ⟨f, fd, F.imp h, r⟩
theorem Dm.imp (F : Dm P w K mg base CX k C m ps sp) (h : ∀ vs H Q E, sp' vs H Q E → sp vs H Q E) : Dm P w K mg base CX k C m ps sp' := by
  obtain ⟨f, fd, M, F, b⟩ := F
  exact ⟨f, fd, M, F.imp h, b⟩
theorem Dk.imp (F : Dk P w K mg base CX k x C ps sp) (h : ∀ vs H Q E, sp' vs H Q E → sp vs H Q E) : Dk P w K mg base CX k x C ps sp' := by
  obtain ⟨f, fd, M, F, b⟩ := F
  exact ⟨f, fd, M, F.imp h, b⟩
theorem spD.imp {ps ps' : List D → (D → Prop) → Prop} (h : ∀ ds R, ps' ds R → ps ds R) : ∀ vs H Q E, spD K ps' vs H Q E → spD K ps vs H Q E := fun vs H Q E ⟨ds, G, R, g, r, p, q⟩ => ⟨ds, G, R, g, r, h ds R p, q⟩
end
/-! ### the pen, the law -/
section
variable {c : Fr} {K : PySem.W.Frag} {G H G' H' : Hp} {ρ : Env} {σ : L2.St}
/-- the promise of what makes a pen -/
def spNewPen (K : PySem.W.Frag) : Sp := fun vs H Q _ => ∃ (a : V) (ns : List Int) (G : Hp), vs = [a] ∧ Same G H ∧ Rp K G a (.lst (ns.map D.int)) ∧ ns.length ≤ 63 ∧
  ∀ p G' H', Stp M0 G H G' H' → Pen K G' p 0 H' → H p = none → Q (.ref p) H'
/-- p = _law_pen(..) -/
def pNewPen (i : Nat) (a : PAX) : PS' := fun E ρ => a ρ fun ds ρ1 => ∃ ns : List Int, ds = [.lst (ns.map D.int)] ∧ ns.length ≤ 63 ∧ E.nx (ρ1.set i (.p 0))
theorem s_newPen {ta : TA} {i : Nat} {a : PAX} {E : XK} (h : RAX c ta a) (hM : ∀ b, c.H0 b = none → c.M b := by first | exact fun _ h => h | exact fun _ h => Or.inl h) : RS c (tAsg (tCall (spNewPen c.K) [] E ta) (gName i)) (pNewPen i a) :=
  ⟨fun s q l => h.run s q fun ds ρ1 vs G1 H1 ⟨ns, e, hl, q1⟩ m1 r1 => by
    subst e
    cases r1 with
    | cons r r' =>
      cases r'
      refine ⟨_, ns, G1, rfl, m1.s.gh, r, hl, fun p G2 H2 st hp hn => ?_⟩
      have m2 := m1.stp st
      exact l.nx _ _ _ _ m2.g (m2.s.setN (s := .p 0) (fun j t y e1 e2 o => m1.s.notOwn_new hn j t y e1 e2 o) (.inl ⟨rfl, hM p (m1.s.st.free hn)⟩) ⟨p, rfl, hp⟩) q1⟩
def psLaw : List D → (D → Prop) → Prop := ps1 fun s R => ∃ ns : List Int, s = .lst (ns.map D.int) ∧ ns.length ≤ 63 ∧ R (.bl true)
abbrev spLaw (K : PySem.W.Frag) : Sp := spD K psLaw
theorem law_hsp {n : Nat} {E : XK} {a : Addr} {ns : List Int} (hn : n ≤ 63) (hl : ns.length ≤ n) (hs : SqL K H a (ns.map V.int)) : spLaw K [.ref a] H (fun v _ => v = .bl true) E :=
  ⟨[.lst (ns.map D.int)], H, fun d => d = .bl true, Same.refl H, .cons (.lst hs Rps.ints) .nil, ⟨_, rfl, ns, rfl, Nat.le_trans hl hn, rfl⟩, fun d v _ _ e _ r => by subst e; exact r.bl_inv⟩
end
/-! ### how long a text of data is -/
/-! forests: the doors that hang rooms together that didn't, and the spare ones -/
theorem nb_add1 {ds : List Dr} {a b x z : Str} (hab : a ≠ b) (hl : Loopless ds) : z ∈ nb (ds ++ [(a, b)]) x ↔ z ∈ nb ds x ∨ (x = a ∧ z = b) ∨ (x = b ∧ z = a) := by
  have hl2 : Loopless (ds ++ [(a, b)]) := fun e he => by
    rcases List.mem_append.mp he with he | he
    · exact hl e he
    · rw [List.mem_singleton.mp he]; exact hab
  rw [mem_nb hl2, mem_nb hl]
  simp only [List.mem_append, List.mem_singleton, Prod.mk.injEq]
  constructor
  · rintro ((h | h) | (h | h))
    · exact .inl (.inl h)
    · exact .inr (.inl h)
    · exact .inl (.inr h)
    · exact .inr (.inr ⟨h.2, h.1⟩)
  · rintro ((h | h) | h | h)
    · exact .inl (.inl h)
    · exact .inr (.inl h)
    · exact .inl (.inr h)
    · exact .inr (.inr ⟨h.2, h.1⟩)
theorem Con.step {es : List Dr} {x y z : Str} (h : Con es x y) (m : z ∈ nb es y) : Con es x z := by
  obtain ⟨n, h⟩ := h
  exact ⟨n + 1, .succ h m⟩
theorem con_snoc {es : List Dr} {a b x y : Str} (hab : a ≠ b) (hl : Loopless es) : Con (es ++ [(a, b)]) x y ↔ Con es x y ∨ (Con es x a ∧ Con es b y) ∨ (Con es x b ∧ Con es a y) := by
  constructor
  · rintro ⟨n, h⟩
    induction h with
    | zero => exact .inl .refl
    | succ h m ih =>
      rcases (nb_add1 hab hl).mp m with m | ⟨rfl, rfl⟩ | ⟨rfl, rfl⟩
      · rcases ih with ih | ⟨i1, i2⟩ | ⟨i1, i2⟩
        · exact .inl (ih.step m)
        · exact .inr (.inl ⟨i1, i2.step m⟩)
        · exact .inr (.inr ⟨i1, i2.step m⟩)
      · rcases ih with ih | ⟨i1, i2⟩ | ⟨i1, i2⟩
        · exact .inr (.inl ⟨ih, .refl⟩)
        · exact .inr (.inl ⟨i1, .refl⟩)
        · exact .inl i1
      · rcases ih with ih | ⟨i1, i2⟩ | ⟨i1, i2⟩
        · exact .inr (.inr ⟨ih, .refl⟩)
        · exact .inl i1
        · exact .inr (.inr ⟨i1, .refl⟩)
  · have up : ∀ {x y}, Con es x y → Con (es ++ [(a, b)]) x y := fun {x y} ⟨n, h⟩ => ⟨n, h.of fun u v m => (nb_add1 hab hl).mpr (.inl m)⟩
    rintro (h | ⟨h1, h2⟩ | ⟨h1, h2⟩)
    · exact up h
    · exact ((up h1).step ((nb_add1 hab hl).mpr (.inr (.inl ⟨rfl, rfl⟩)))).trans (up h2)
    · exact ((up h1).step ((nb_add1 hab hl).mpr (.inr (.inr ⟨rfl, rfl⟩)))).trans (up h2)
theorem con_nil {x y : Str} : Con [] x y ↔ x = y := by
  constructor
  · rintro ⟨n, h⟩
    cases h with
    | zero => rfl
    | succ _ m => simp [nb] at m
  · rintro rfl
    exact .refl
/-- each room's stand-in among those it hangs together with -/
structure Rep (rs : List Str) (es : List Dr) (f : Str → Str) : Prop where
  mem : ∀ x, x ∈ rs → f x ∈ rs
  idem : ∀ x, x ∈ rs → f (f x) = f x
  con : ∀ x y, x ∈ rs → y ∈ rs → (f x = f y ↔ Con es x y)
theorem Rep.start (rs : List Str) : Rep rs [] id := ⟨fun _ h => h, fun _ _ => rfl, fun x y _ _ => con_nil.symm⟩
theorem Rep.self {rs : List Str} {es : List Dr} {f : Str → Str} (h : Rep rs es f) {x : Str} (hx : x ∈ rs) : Con es x (f x) := (h.con x (f x) hx (h.mem x hx)).mp (h.idem x hx).symm
def joinF (f : Str → Str) (a b : Str) : Str → Str := fun x => if f x = f b then f a else f x
theorem Rep.join {rs : List Str} {es : List Dr} {f : Str → Str} (h : Rep rs es f) {a b : Str} (ha : a ∈ rs) (hb : b ∈ rs) (hab : a ≠ b) (hl : Loopless es) (hne : f a ≠ f b) : Rep rs (es ++ [(a, b)]) (joinF f a b) := by
  have fa := h.idem a ha
  refine ⟨fun x hx => ?_, fun x hx => ?_, fun x y hx hy => ?_⟩
  · unfold joinF
    split
    · exact h.mem a ha
    · exact h.mem x hx
  · unfold joinF
    by_cases c : f x = f b
    · rw [if_pos c, if_neg (by rw [fa]; exact hne), fa]
    · rw [if_neg c, if_neg (by rw [h.idem x hx]; exact c), h.idem x hx]
  · rw [con_snoc hab hl, ← h.con x y hx hy, ← h.con x a hx ha, ← h.con b y hb hy, ← h.con x b hx hb, ← h.con a y ha hy]
    unfold joinF
    by_cases c : f x = f b
    · by_cases d : f y = f b
      · rw [if_pos c, if_pos d]
        exact ⟨fun _ => .inl (c.trans d.symm), fun _ => rfl⟩
      · rw [if_pos c, if_neg d]
        constructor
        · intro e
          exact .inr (.inr ⟨c, e⟩)
        · rintro (e | ⟨e, _⟩ | ⟨_, e⟩)
          · exact absurd (e.symm.trans c) d
          · exact absurd (e.symm.trans c) hne
          · exact e
    · by_cases d : f y = f b
      · rw [if_neg c, if_pos d]
        constructor
        · intro e
          exact .inr (.inl ⟨e, d.symm⟩)
        · rintro (e | ⟨e, _⟩ | ⟨e, _⟩)
          · exact absurd (e.trans d) c
          · exact e
          · exact absurd e c
      · rw [if_neg c, if_neg d]
        constructor
        · exact .inl
        · rintro (e | ⟨e, e2⟩ | ⟨e, _⟩)
          · exact e
          · exact absurd e2.symm d
          · exact absurd e c
theorem Rep.same {rs : List Str} {es : List Dr} {f : Str → Str} (h : Rep rs es f) {a b : Str} (ha : a ∈ rs) (hb : b ∈ rs) (hab : a ≠ b) (hl : Loopless es) (he : f a = f b) : Rep rs (es ++ [(a, b)]) f := by
  refine ⟨h.mem, h.idem, fun x y hx hy => ?_⟩
  rw [con_snoc hab hl, ← h.con x y hx hy, ← h.con x a hx ha, ← h.con b y hb hy, ← h.con x b hx hb, ← h.con a y ha hy]
  constructor
  · exact .inl
  · rintro (e | ⟨e, e2⟩ | ⟨e, e2⟩)
    · exact e
    · exact (e.trans he).trans e2
    · exact (e.trans he.symm).trans e2
open Classical in
/-- of the doors, in their order, those that hang nobody together that didn't -/
noncomputable def spareF : List Dr → List Dr → List Dr
  | _, [] => []
  | pre, e :: r => if Con pre e.1 e.2 then e :: spareF (pre ++ [e]) r else spareF (pre ++ [e]) r
open Classical in
noncomputable def treeF : List Dr → List Dr → List Dr
  | _, [] => []
  | pre, e :: r => if Con pre e.1 e.2 then treeF (pre ++ [e]) r else e :: treeF (pre ++ [e]) r
/-! how long a text of data is -/
/-- data whose text is short: weight, depth -/
structure Shw (d : PyData) (n k : Nat) : Prop where
  lay : d.canLay0 = true
  it : d.intsShort 13 = true
  sh : d.showable = true
  wt : d.weight ≤ n
  dp : d.depth ≤ k
structure Shws (ds : List PyData) (n k : Nat) : Prop where
  lay : PyData.canLayAll0 ds = true
  it : PyData.intsShortAll 13 ds = true
  sh : PyData.showableAll ds = true
  wt : PyData.weightAll ds ≤ n
  dp : PyData.depthAll ds ≤ k
theorem Shws.nil {k : Nat} : Shws [] 0 k := ⟨rfl, rfl, rfl, Nat.le_refl _, Nat.zero_le _⟩
theorem Shws.cons {d : PyData} {ds : List PyData} {n m k : Nat} (h : Shw d n k) (hs : Shws ds m k) : Shws (d :: ds) (n + 1 + m) k := by
  refine ⟨?_, ?_, ?_, ?_, ?_⟩
  · simp only [PyData.canLayAll0, h.lay, hs.lay, Bool.and_self]
  · simp only [PyData.intsShortAll, h.it, hs.it, Bool.and_self]
  · simp only [PyData.showableAll, h.sh, hs.sh, Bool.and_self]
  · have h1 := h.wt
    have h2 := hs.wt
    simp only [PyData.weightAll]
    omega
  · have h1 := h.dp
    have h2 := hs.dp
    simp only [PyData.depthAll]
    omega
theorem Shws.all {ds : List PyData} {n k : Nat} (h : ∀ d ∈ ds, Shw d n k) : Shws ds (ds.length * (n + 1)) k := by
  induction ds with
  | nil => rw [List.length_nil, Nat.zero_mul]; exact .nil
  | cons d ds ih =>
    have := Shws.cons (h d List.mem_cons_self) (ih fun x hx => h x (List.mem_cons_of_mem _ hx))
    rw [List.length_cons, Nat.succ_mul, Nat.add_comm]
    exact this
theorem Shw.list {ds : List PyData} {n k : Nat} (h : Shws ds n k) : Shw (.list ds) n (k + 1) := by
  refine ⟨?_, ?_, ?_, ?_, ?_⟩
  · simp only [PyData.canLay0]; exact h.lay
  · simp only [PyData.intsShort]; exact h.it
  · simp only [PyData.showable]; exact h.sh
  · simp only [PyData.weight]; exact h.wt
  · simp only [PyData.depth]; exact Nat.succ_le_succ h.dp
theorem Shw.tuple {ds : List PyData} {n k : Nat} (h : Shws ds n k) : Shw (.tuple ds) n (k + 1) := by
  refine ⟨?_, ?_, ?_, ?_, ?_⟩
  · simp only [PyData.canLay0]; exact h.lay
  · simp only [PyData.intsShort]; exact h.it
  · simp only [PyData.showable]; exact h.sh
  · simp only [PyData.weight]; exact h.wt
  · simp only [PyData.depth]; exact Nat.succ_le_succ h.dp
theorem Shw.str {z : Str} (h : NmOk z) : Shw (.str z) 8 0 := by
  refine ⟨?_, ?_, ?_, ?_, ?_⟩
  · simp only [PyData.canLay0, PyData.strOk]
    rw [Array.all_eq_true_iff_forall_mem]
    intro c hc
    have := (h.2.2 c (by simpa using hc)).2
    simp only [decide_eq_true_eq]
    omega
  · simp [PyData.intsShort]
  · simp [PyData.showable]
  · simp only [PyData.weight]; exact h.2.1
  · simp [PyData.depth]
theorem Shw.non : Shw .none 0 0 := by
  refine ⟨?_, ?_, ?_, ?_, ?_⟩ <;> simp [PyData.canLay0, PyData.intsShort, PyData.showable, PyData.weight, PyData.depth]
theorem Shw.shown {d : PyData} {n k : Nat} (h : Shw d n k) (hn : n ≤ 2 ^ 20) (hk : k ≤ 40) : d.showable = true ∧ d.hasDict = false ∧ d.depth ≤ 40 ∧ d.shown.length ≤ sizeLine := by
  refine ⟨h.sh, PyData.hasDict_of_canLay d h.lay, Nat.le_trans h.dp hk, ?_⟩
  have h2 := PyData.shown_le 13 (by decide) d (PyData.leavesShort_of_canLay0 13 d h.lay h.it)
  have h3 := h.wt
  have e : (2 : Nat) ^ 20 = 1048576 := by decide
  have e2 : sizeLine = 16777216 := by decide
  omega
theorem p_repr {x : D} {d : PyData} {n k : Nat} {R : D → Prop} (p : Py x d) (h : Shw d n k) (hn : n ≤ 2 ^ 20) (hk : k ≤ 40) (q : R (.str d.shown)) : fRepr x R := by
  obtain ⟨h1, h2, h3, h4⟩ := h.shown hn hk
  exact ⟨d, p, h1, h2, h3, h4, q⟩
/-- the data of pairs of texts -/
def pairsPy (es : List Dr) : PyData := .list (es.map fun e => .tuple [.str e.1, .str e.2])
theorem uq_neg {K : PySem.W.Frag} : UQ K (rU fun i => .int (-i)) (fun x R => ∃ i, x = .int i ∧ R (.int (-i))) := ⟨fun gs hx ⟨i, e, q⟩ k => by
  subst e
  rw [hx.int]
  exact ⟨i, rfl, k _ _ _ _ q (Stp.refl gs) (.int _)⟩⟩
theorem p_newPen {i : Nat} {a : PAX} {ρ : Env} {E : PEnds} (h : a ρ fun ds ρ1 => ∃ ns : List Int, ds = [.lst (ns.map D.int)] ∧ ns.length ≤ 63 ∧ E.nx (ρ1.set i (.p 0))) : pNewPen i a E ρ := h
theorem p_pen0 {ns : List Int} {P : Prop} (hl : ns.length ≤ 63) (h : P) : ∃ ms : List Int, [D.lst (ns.map D.int)] = [.lst (ms.map D.int)] ∧ ms.length ≤ 63 ∧ P := ⟨ns, rfl, hl, h⟩
theorem iteI2 {p q : Bool} {A B : Prop} (h : if q = true then A else B) : if (if true = true then q else p) = true then A else B := h
/-! statements whose ends are told once; displays of dicts that the pen is asked amid; t.index *)-/
section
variable {c : Fr} {K : PySem.W.Frag}
/-- behind the statement J holds; from there on -/
def pJn (p : PS') : PS' := fun E ρ => ∃ J : Env → Prop, p { E with nx := J } ρ ∧ ∀ ρ', J ρ' → E.nx ρ'
/-- {k: v ..}, things done amid -/
structure RPX (c : Fr) (ts : List (TE × TE)) (p : Env → (List (D × D) → Env → Prop) → Prop) : Prop where
  run : ∀ {ρ : Env} {σ : L2.St} {G H : Hp} {Q : List (V × V) → Hp → Prop} {R : List (D × D) → Env → Prop}, Sta c G H ρ σ → p ρ R → (∀ ds ρ' vs G' H', R ds ρ' → Mv c σ G H ρ G' H' ρ' → Paired (fun (x : V × V) (y : D × D) => Rp c.K G' x.1 y.1 ∧ Rp c.K G' x.2 y.2) vs ds → Q vs H') → tPairs ts σ H Q
/-- t.index(x), a row of texts known to bear no dict -/
def pTindex (a b : PQ) : PQ := fun ρ R => a ρ fun x => ∃ ys : List Str, x = .tun (ys.map D.str) ∧ b ρ fun y => ∃ (z : Str) (j : Nat), y = .str z ∧ ys[j]? = some z ∧ (∀ m, m < j → ys[m]? ≠ some z) ∧ R (.int (j : Int))
/-! a pair among pairs -/
def fInD (neg : Bool) : D → D → (D → Prop) → Prop := fun x y R => ∃ d ds, Py x d ∧ Py y (.list ds) ∧ SeqAt.shaped d = true ∧ SeqAt.shaped (.list ds) = true ∧ R (.bl (if neg then !(ds.any fun z => PyData.eqv z d) else ds.any fun z => PyData.eqv z d))
theorem Shw.shaped {d : PyData} {n k : Nat} (h : Shw d n k) (hk : k ≤ 40) : SeqAt.shaped d = true := by
  have h1 := h.dp
  simp only [SeqAt.shaped, h.lay, Bool.true_and]
  exact decide_eq_true (by omega)
end
/-! defs with defaults; companies as they stand in a heap -/
/-- a def of the text, whatever its defaults -/
structure FunV (K : PySem.W.Frag) (x qual : Str) (st : Stmt) (f : Addr) (fd : FuncData) : Prop where
  ex : ∃ (oc : Value) (od : Option Addr) (dV kV doc pm : Value) (an : Option Addr) (cdv ct : Value) (osl : Array (Option Value)),
    fd = PySem.W.fnOf x qual (defArgs st) (defBody st) (defScope st) dV kV doc pm an cdv ct ∧ K.lookup f = some ⟨oc, od, .func fd, osl⟩ ∧ PySem.W.codeIn K cdv qual = true
  kp : PySem.W.keepIn K (.ref f) = true
section
variable {P : Program} {w : World} {K : PySem.W.Frag} {mg : Str → Option Value} {base : Heap}
theorem FunV.ok {x qual : Str} {st : Stmt} {f : Addr} {fd : FuncData} {N ps : List Str} {k : Nat} {sp : Sp} (F : FunV K x qual st f fd) (S : FnScope N ps (defScope st)) (len : ∀ vs H Q E, sp vs H Q E → vs.length = ps.length)
    (hbody : ∀ (cdv : Value) (A : Around) (outer : List PySem.Env) (s : Shared) (H : Hp) (vs : List V) (Q : VK) (E : XK), Room k (A.deeper (envOfC qual (defScope st) s.heap.objs.size f cdv)) → sp vs H Q E →
      ∃ t, PSs (cxOf CX0 P w K mg base N qual (defScope st) f cdv A outer s H E).nox (defBody st) t ∧ t { nx := fun _ H' => Q .non H', rt := Q } (start N vs) H) : FnOk P w K mg base CX0 (k + 1) f fd ps sp := by
  obtain ⟨oc, od, dV, kV, doc, pm, an, cdv, ct, osl, rfl, lk, hcd⟩ := F.ex
  refine fn_of lk hcd S len fun A outer s H vs Q E hr hsp => ?_
  obtain ⟨t, h, q⟩ := hbody cdv A outer s H vs Q E hr hsp
  exact ⟨t, h.nox, q⟩
/-- all its arguments are handed in -/
theorem FunV.binds {x qual : Str} {st : Stmt} {f : Addr} {fd : FuncData} {ps : List Str} (F : FunV K x qual st f fd)
    (h : ∀ (dV kV doc pm : Value) (an : Option Addr) (cdv ct : Value) (us : List Value), us.length = ps.length → bindArgs (PySem.W.fnOf x qual (defArgs st) (defBody st) (defScope st) dV kV doc pm an cdv ct) ⟨us, []⟩ = pure (ps.zip us)) : Binds K fd ps [] := by
  obtain ⟨oc, od, dV, kV, doc, pm, an, cdv, ct, osl, rfl, lk, hcd⟩ := F.ex
  exact .all (h dV kV doc pm an cdv ct)
structure CompanyC (K : PySem.W.Frag) (mg : Str → Option Value) (C : Addr) : Prop where
  g : mg "Company" = some (.ref C)
  cl : Cls K C
  n1 : NoAttr K C "_folk"
  n2 : NoAttr K C "_ropes"
  n3 : NoAttr K C "_posts"
  n4 : NoAttr K C "_near"
abbrev cfs (f r p N : Addr) : List (Str × V) := [("_folk", .ref f), ("_ropes", .ref r), ("_posts", .ref p), ("_near", .ref N)]
end
/-! for i, x in enumerate(a tuple) -/
open PySem.Sem (wp)
section
variable {prog : Program} {w : World} {A : Around} {E : Value → Shared → Prop} {s : Shared}
end
/-- the tuple at a, each item in a new pair -/
def Iteq (K : PySem.W.Frag) (a : Addr) : It :=
  ⟨fun i H => ∃ (xs : List V) (x : V), SqT K H a xs ∧ xs[i]? = some x, fun i H v H' => ∃ T x, v = .ref T ∧ H T = none ∧ H' = upd H T (.tup [.int (i : Nat), x]) ∧ ∀ xs, SqT K H a xs → xs[i]? = some x, fun i H => ∃ xs : List V, SqT K H a xs ∧ xs.length = i⟩
def iEnumT (K : PySem.W.Frag) (ta : TA) : TI := fun σ H R => ta σ H fun vs H1 => ∃ a xs, vs = [.ref a] ∧ SqT K H1 a xs ∧ R (Iteq K a) H1
section
variable {K : PySem.W.Frag} {a : Addr} {xs : List V} {G H : Hp} {σ : L2.St} {D : Ends} {g : TG}
end
/-! dicts by names -/
/-- a dict by names -/
def byN (rs : List Str) (f : Str → D) : List (Key × D) := rs.map fun r => (.inr r, f r)
def kLenR : List V → Hp → VK → Prop := fun xs H Q => ∃ (a : Addr) (kvs : List (Key × V)), xs = [V.ref a] ∧ L2.Rd H a (.dK kvs) ∧ Q (.int (kvs.length : Int)) H
/-! dict(d), dict(pairs), == of dicts, defs as values -/
section
variable {c : Fr} {K : PySem.W.Frag} {G H G' H' : Hp} {ρ : Env} {σ : L2.St} {v : V} {d : D}
/-! ### dict(d) -/
def kDictD : List V → Hp → VK → Prop := fun xs H Q => ∃ (a : Addr) (kvs : List (Key × V)), xs = [.ref a] ∧ L2.Rd H a (.dK kvs) ∧ ∀ p, H p = none → Q (.ref p) (upd H p (.dK kvs))
/-! ### dict(pairs) -/
def kDictP (K : PySem.W.Frag) : List V → Hp → VK → Prop := fun xs H Q => ∃ (a : Addr) (ps : List Addr) (kvs : List (Key × V)), xs = [.ref a] ∧ SqL K H a (ps.map V.ref) ∧ Paired (fun p kv => SqT K H p [kV kv.1, kv.2]) ps kvs ∧
    ∀ p, H p = none → Q (.ref p) (upd H p (.dK (mergeK [] kvs)))
/-! ### == of dicts by texts -/
inductive HitV (K : PySem.W.Frag) (H : Hp) (kb : List (Key × V)) : List (Key × V) → Bool → Prop
  | nil : HitV K H kb [] true
  | miss {k : Key} {v : V} {r : List (Key × V)} : valV kb k = none → HitV K H kb ((k, v) :: r) false
  | hit {k : Key} {v y : V} {r : List (Key × V)} {d e : PyData} {b : Bool} : valV kb k = some y → Dp K H v d → Dp K H y e → SeqAt.shaped d = true → SeqAt.shaped e = true → HitV K H kb r b → HitV K H kb ((k, v) :: r) (PyData.eqv d e && b)
def rEqK (neg : Bool) (K : PySem.W.Frag) : R2 := fun x y H Q => ∃ a b kvs kus r, x = .ref a ∧ y = .ref b ∧ L2.Rd H a (.dK kvs) ∧ L2.Rd H b (.dK kus) ∧ (kvs.length = kus.length → HitV K H kus kvs r) ∧ Q (.bl (if neg then !(kvs.length == kus.length && r) else (kvs.length == kus.length && r))) H
inductive HitD (kb : List (Key × D)) : List (Key × D) → Bool → Prop
  | nil : HitD kb [] true
  | miss {k : Key} {v : D} {r : List (Key × D)} : dval kb k = none → HitD kb ((k, v) :: r) false
  | hit {k : Key} {v y : D} {r : List (Key × D)} {d e : PyData} {b : Bool} : dval kb k = some y → Py v d → Py y e → SeqAt.shaped d = true → SeqAt.shaped e = true → HitD kb r b → HitD kb ((k, v) :: r) (PyData.eqv d e && b)
def fEqK (neg : Bool) : D → D → (D → Prop) → Prop := fun x y R => ∃ es fs r, Dkt x es ∧ Dkt y fs ∧ (es.length = fs.length → HitD fs es r) ∧ R (.bl (if neg then !(es.length == fs.length && r) else (es.length == fs.length && r)))
/-! ### a built-in's call on what is given -/
/-! ### defs that ask repr, called by others -/
def DfG (P : Program) (w : World) (K : PySem.W.Frag) (mg : Str → Option Value) (base : Heap) (CX : CXT) (k : Nat) (x : Str) (ps : List Str) (sp : Sp) : Prop :=
  ∃ f fd, FnG P w K mg base CX k f fd ps sp ∧ mg x = some (.ref f) ∧ PySem.W.keepIn K (.ref f) = true ∧ Binds K fd ps []
theorem DfG.imp {P : Program} {w : World} {K : PySem.W.Frag} {mg : Str → Option Value} {base : Heap} {CX : CXT} {k : Nat} {x : Str} {ps : List Str} {sp sp' : Sp} (F : DfG P w K mg base CX k x ps sp) (h : ∀ vs H Q E, sp' vs H Q E → sp vs H Q E) : DfG P w K mg base CX k x ps sp' := by
  obtain ⟨f, fd, F, r⟩ := F
  exact ⟨f, fd, ⟨fun vs H Q E q => F.len _ _ _ _ (h _ _ _ _ q), fun A outer s H args us vs Q E g hr he hb hv hs => F.run A outer s H args us vs Q E g hr he hb hv (h _ _ _ _ hs)⟩, r⟩
/-! ### defs as values -/
def tCallS (S : Addr → Prop) (sp : Sp) (E : XK) (tf : TE) (t : TA) : TE := fun σ H Q => tf σ H fun v H1 => (∃ a, v = .ref a ∧ S a) ∧ tCall sp [] E t σ H1 Q
/-- at a stands a def that keeps the promise -/
def DefAt (P : Program) (w : World) (K : PySem.W.Frag) (mg : Str → Option Value) (base : Heap) (CX : CXT) (k : Nat) (sp : Sp) (f : Addr) : Prop :=
  ∃ (fd : FuncData) (ps : List Str), FnOk P w K mg base CX k f fd ps sp ∧ PySem.W.keepIn K (.ref f) = true ∧ Binds K fd ps []
theorem Df.at {P : Program} {w : World} {mg : Str → Option Value} {base : Heap} {CX : CXT} {k : Nat} {x : Str} {ps : List Str} {sp : Sp} (F : Df P w K mg base CX k x ps sp) : ∃ f, mg x = some (.ref f) ∧ DefAt P w K mg base CX k sp f := by
  obtain ⟨f, fd, F, hm, hkp, hb⟩ := F
  exact ⟨f, hm, fd, ps, F, hkp, hb⟩
def pPenS (S : Addr → Prop) (i : Nat) (ps : Nat → List D → (D → Nat → Prop) → Prop) (f : PX) (a : PAX) : PX := fun ρ R => f ρ fun d ρ1 => (∃ b, d = .fn b ∧ S b) ∧ pPen i ps a ρ1 R
/-- a, b = x, y: the pen may be asked for x, y is a new thing of one's own -/
def pParXN (i j : Nat) (a : PX) (b : Env → (Sl → Prop) → Prop) : PS' := fun E ρ => a ρ fun d ρ1 => b ρ1 fun s => E.nx ((ρ1.set i (.v d)).set j s)
theorem p_sz0 {P : Prop} (h : P) : ([] : List D).length ≤ sizeLine ∧ P := ⟨Nat.zero_le _, h⟩
theorem p_sz1 {x : D} {P : Prop} (h : P) : [x].length ≤ sizeLine ∧ P := ⟨by show 1 ≤ sizeLine; decide, h⟩
theorem p_sz2 {x y : D} {P : Prop} (h : P) : [x, y].length ≤ sizeLine ∧ P := ⟨by show 2 ≤ sizeLine; decide, h⟩
theorem p_sz3 {x y z : D} {P : Prop} (h : P) : [x, y, z].length ≤ sizeLine ∧ P := ⟨by show 3 ≤ sizeLine; decide, h⟩
theorem p_sz4 {x y z u : D} {P : Prop} (h : P) : [x, y, z, u].length ≤ sizeLine ∧ P := ⟨by show 4 ≤ sizeLine; decide, h⟩
end
/-! ### dicts by names, put anew -/
def setF (f : Str → Str) (a r : Str) : Str → Str := fun z => if z = a then r else f z
/-! dicts that are frozen when they come to be known: they may be walked -/
/-- a thing may be frozen as it comes to be known -/
def tFo (te : TE) : TE := fun σ H Q => te σ H fun v H1 => Q v H1 ∨ ∃ (a : Addr) (u : HO), v = .ref a ∧ H1 a = some u ∧ Mut (some u) ∧ ∀ o, Q v (upd H1 a (.frz o u))
section
variable {c : Fr} {K : PySem.W.Frag} {G H G' H' : Hp} {ρ : Env} {σ : L2.St} {v : V} {d : D}
/-- what a dict of one's own is when it is frozen -/
def Sl.datz : Sl → Option D
  | .d es => some (.dcz es)
  | .dt es => some (.dcZ es)
  | _ => none
/-- a dict of one's own is given away and frozen -/
def pGiveZ (i : Nat) : PX := fun ρ R => ∃ s d, ρ[i]? = some s ∧ s.datz = some d ∧ R d (ρ.set i (.v d))
/-! ### walks over frozen dicts -/
theorem RpK.keys : ∀ {kvs : List (Key × V)} {es : List (Key × D)}, RpK K G kvs es → kvs.map (·.1) = es.map (·.1)
  | _, _, .nil => rfl
  | _, _, .cons _ b => by rw [List.map_cons, List.map_cons, RpK.keys b]
theorem RpT.keys : ∀ {kvs : List (List Key × V)} {es : List (List Key × D)}, RpT K G kvs es → kvs.map (·.1) = es.map (·.1)
  | _, _, .nil => rfl
  | _, _, .cons _ b => by rw [List.map_cons, List.map_cons, RpT.keys b]
theorem Stp.tup {a : Addr} {xs : List V} (g : Same G H) (h : H a = some (.tup xs)) : Stp M0 G H (upd G a (.tup xs)) H := by
  refine ⟨fun _ _ _ e => e, fun b o e => ?_, fun b o e => ?_, fun b o e => ?_, fun b o e => ⟨o, e⟩⟩
  · by_cases q : b = a
    · subst q
      rw [upd_same]
      have := g _ _ e
      rw [h] at this
      exact this
    · rw [upd_ne q]; exact e
  · by_cases q : b = a
    · subst q; rw [upd_same] at e; rw [h]; exact e
    · rw [upd_ne q] at e; exact g _ _ e
  · by_cases q : b = a
    · subst q; exact .inr ⟨xs, upd_same⟩
    · exact .inl (upd_ne q)
end
/-! loops over enumerate and zip -/
open RZ
section
variable {c : Fr} {K : PySem.W.Frag} {G H G' H' : Hp} {ρ : Env} {σ : L2.St} {v : V} {d : D}
/-- rows of the i-th of one and the other, in new pairs -/
theorem wk_pairs {J : It} {n : Nat} {Gd : Hp → Prop} {xs ys : Nat → Option V} {ds : List D} (w : Walk J n Gd (YPair xs ys)) (hn : ds.length = n) (hg : ∀ G1 H1, Same G G1 → Same G1 H1 → Gd H1)
    (hd : ∀ i x y, i < n → xs i = some x → ys i = some y → ∃ p q, ds[i]? = some (.tup [p, q]) ∧ Rp K G x p ∧ Rp K G y q) : Wkk K G J ds :=
  ⟨_, _, (by rw [hn]; exact w), hg, fun i G1 H1 v H2 hi g1 g2 y => by
    obtain ⟨T, x, y, rfl, hT, rfl, hx, hy⟩ := y
    obtain ⟨p, q, h1, h2, h3⟩ := hd i x y (by rw [← hn]; exact hi) hx hy
    have st : Stp M0 G1 H1 (upd G1 T (.tup [x, y])) (upd H1 T (.tup [x, y])) := (Stp.newM g2 hT).freeze upd_same hT (none_of g2 hT)
    exact ⟨_, _, h1, st, .tup (tof upd_same) (.cons (h2.same (g1.trans st.gg)) (.cons (h3.same (g1.trans st.gg)) .nil))⟩⟩
def enumD (ds : List D) : List D := (List.range ds.length).zipWith (fun (i : Nat) d => .tup [.int (i : Int), d]) ds
/-! zip -/
theorem k_pi_zipA {X : Cx} {K : PySem.W.Frag} (hK : X.K = K) {e e2 : Expr} {ta : TA} {p pos tpos : Pos} {elts : List Expr} {kk : Nat} (hg : Gl X "zip") (hm : X.mg "zip" = none) (ha : PA X [e, e2] ta)
    (hs : starEach [e, e2] X.env = (false, eval e X.env) :: starEach [e2] X.env := by rfl) (hpl : (backTo pos (starEach [e2] X.env)).any (·.1) = false := by rfl) :
    PI X (.Tuple elts kk tpos) (.Call (.Name "zip" p) [e, e2] [] pos) (iZipA K ta) := by subst hK; exact pi_zipA hg hm ha hs hpl
def zipD (xs ys : List D) : List D := List.zipWith (fun a b => .tup [a, b]) xs ys
theorem zipD_len (xs ys : List D) : (zipD xs ys).length = min xs.length ys.length := List.length_zipWith ..
theorem zipD_get {xs ys : List D} {i : Nat} {x y : D} (hx : xs[i]? = some x) (hy : ys[i]? = some y) : (zipD xs ys)[i]? = some (.tup [x, y]) := by
  unfold zipD
  rw [List.getElem?_zipWith, hx, hy]
theorem walk_zipT {a b : Addr} {xs ys : List V} {n : Nat} (hn : n = min xs.length ys.length) : Walk (ItzT K a b) n (fun H => SqT K H a xs ∧ SqT K H b ys) (YPair (fun i => xs[i]?) (fun i => ys[i]?)) := by
  subst hn
  refine ⟨fun i _ hi q => ?_, fun _ q => ⟨xs, ys, q.1, q.2, by omega⟩, fun i H v H' _ q y => ?_⟩
  · have h1 : i < xs.length := by omega
    have h2 : i < ys.length := by omega
    exact ⟨xs, ys, xs[i], ys[i], q.1, q.2, by simp [h1], by simp [h2]⟩
  · obtain ⟨T, x, y, h1, h2, h3, h4, h5⟩ := y
    exact ⟨T, x, y, h1, h2, h3, h4 xs q.1, h5 ys q.2⟩
theorem wk_zipL {a b : Addr} {vs us : List V} {xs ys : List D} (h : SqL K G a vs) (h' : SqL K G b us) (r : Rps K G vs xs) (r' : Rps K G us ys) : Wkk K G (Itz K a b) (zipD xs ys) :=
  wk_pairs (walk_zip rfl) (by rw [zipD_len, r.len, r'.len]) (fun G1 H1 g1 g2 => ⟨(g1.trans g2).seq h, (g1.trans g2).seq h'⟩) fun i x y _ hx hy => by
    obtain ⟨d, hd, rr⟩ := r.get' hx
    obtain ⟨e, he, re⟩ := r'.get' hy
    exact ⟨_, _, zipD_get hd he, rr, re⟩
theorem wk_zipT {a b : Addr} {vs us : List V} {xs ys : List D} (h : SqT K G a vs) (h' : SqT K G b us) (r : Rps K G vs xs) (r' : Rps K G us ys) : Wkk K G (ItzT K a b) (zipD xs ys) :=
  wk_pairs (walk_zipT rfl) (by rw [zipD_len, r.len, r'.len]) (fun G1 H1 g1 g2 => ⟨Same.sqt (g1.trans g2) h, Same.sqt (g1.trans g2) h'⟩) fun i x y _ hx hy => by
    obtain ⟨d, hd, rr⟩ := r.get' hx
    obtain ⟨e, he, re⟩ := r'.get' hy
    exact ⟨_, _, zipD_get hd he, rr, re⟩
theorem iq_zip {ta : TA} {a : PAQ} (h : RA c ta a) : RIQ c (iZipA c.K ta) (fun ρ R => a ρ fun ds => ∃ x y, ds = [x, y] ∧ ((∃ xs ys, x = .lst xs ∧ y = .lst ys ∧ R (zipD xs ys)) ∨ ∃ xs ys, Tp x xs ∧ Tp y ys ∧ R (zipD xs ys))) := ⟨fun s q k => h.run s q fun ds vs G1 H1 ⟨x, y, e, q1⟩ t1 r1 => by
  subst e
  cases r1 with
  | cons r1 r => cases r with
    | cons r2 r =>
      cases r
      rcases q1 with ⟨xs, ys, rfl, rfl, q1⟩ | ⟨xs, ys, e1, e2, q1⟩
      · obtain ⟨a, us, rfl, h1, h2⟩ := r1.lst_inv
        obtain ⟨b, ws, rfl, h3, h4⟩ := r2.lst_inv
        exact ⟨a, b, us, ws, rfl, .inl ⟨t1.gh.seq h1, t1.gh.seq h3, k _ _ G1 H1 q1 t1 (wk_zipL h1 h3 h2 h4)⟩⟩
      · obtain ⟨a, us, rfl, h1, h2, h3⟩ := (Po.of (H := H1) r1).tp e1 t1.gh
        obtain ⟨b, ws, rfl, h4, h5, h6⟩ := (Po.of (H := H1) r2).tp e2 t1.gh
        exact ⟨a, b, us, ws, rfl, .inr ⟨h2, h5, k _ _ G1 H1 q1 t1 (wk_zipT h1 h4 h3 h6)⟩⟩⟩
/-! d.get(k, x) -/
def pGet2 (a b e : PQ) : PQ := fun ρ R => a ρ fun x => ∃ es, Dkt x es ∧ b ρ fun y => e ρ fun z => ∃ k, y = kyD k ∧ R ((dval es k).getD z)
/-! ### a call that is lent things of one's own; it tells a text, a number, a truth, None -/
structure RAL (c : Fr) (ta : TA) (p : PAQ) : Prop where
  run : ∀ {ρ : Env} {σ : L2.St} {G H : Hp} {Q : List V → Hp → Prop} {R : List D → Prop}, Sta c G H ρ σ → p ρ R → (∀ ds vs G' H', R ds → Stp M0 G H G' H' → Paired (fun v d => Po c.K G' H' v d) vs ds → Q vs H') → ta σ H Q
end
/-! name = {k: v for ..}, the name a local -/
/-! d[k], l, n = (x, a new thing, y) -/
section
variable {c : Fr} {K : PySem.W.Frag} {G H G' H' : Hp} {ρ : Env} {σ : L2.St}
def pSub3 (o i j : Nat) (x : D) (b : Env → (Sl → Prop) → Prop) (y : D) (k : PQ) : PS' := fun E ρ => b ρ fun t => ∃ es, ρ[o]? = some (.d es) ∧ o ≠ i ∧ k ρ fun ky => ∃ q, ky = kyD q ∧ es.length < sizeLine ∧ E.nx (((ρ.set i t).set o (.d (dputD es q x))).set j (.v y))
theorem p_neStrs {xs ys : List Str} {R : D → Prop} (h1 : ∀ z ∈ xs, NmOk z) (h2 : ∀ z ∈ ys, NmOk z) (q : R (.bl (!decide (xs = ys)))) : fEqD true (.lst (xs.map D.str)) (.lst (ys.map D.str)) R :=
  ⟨.list (xs.map .str), .list (ys.map .str), .lst Pys.strs, .lst Pys.strs, (Shw.list (Shws.all (n := 8) (k := 0) fun d hd => by obtain ⟨e, he, rfl⟩ := List.mem_map.mp hd; exact .str (h1 e he))).shaped (by omega), (Shw.list (Shws.all (n := 8) (k := 0) fun d hd => by obtain ⟨e, he, rfl⟩ := List.mem_map.mp hd; exact .str (h2 e he))).shaped (by omega), by
    have e : PyData.eqv (.list (xs.map .str)) (.list (ys.map .str)) = decide (xs = ys) := by rw [PyData.eqv]; exact eqv_strs xs ys
    rw [e]; exact q⟩
theorem p_catL {ds es : List D} {R : Sl → Prop} (hl : ds.length + es.length ≤ sizeLine) (q : R (.l (ds ++ es))) : fCatL (.lst ds) (.lst es) R := ⟨ds, es, rfl, rfl, hl, q⟩
theorem p_catT {ds es : List D} {R : D → Prop} (hl : ds.length + es.length ≤ sizeLine) (q : R (.tup (ds ++ es))) : fCatT (.tup ds) (.tup es) R := ⟨ds, es, .inl rfl, .inl rfl, hl, q⟩
end
/-! a zip whose first pair is still held: each further pair is a new one -/
/-- a zip that has handed out its own pair -/
def ZO (h : Heap) (z TI TO T : Addr) (b : Bool) : Prop := h.get? z = some { cls := .type "zip", dict := none, data := .fields #[rawInt T, .bool b, .bool false, .ref TI, .ref TO], slots := #[] }
section
variable {prog : Program} {w : World} {A : Around} {E : Value → Shared → Prop} {s : Shared} {z TI TO T i1 i2 : Addr} {fp1 fp2 : List Addr} {n1 n2 i : Nat} {P1 P2 : Nat → Value → Prop} {St1 St2 : Nat → Heap → Prop} {b : Bool} {oT : Obj}
end
/-- the cells of a zip and of the list that gathers: S lies above the zip's -/
structure ZSep (z TI TO i1 i2 S : Addr) (fp1 fp2 : List Addr) : Prop where
  sp : ZipSep2 z TI TO i1 i2 fp1 fp2
  zS : z < S
  TIS : TI < S
  TOS : TO < S
  i1S : i1 < S
  i2S : i2 < S
  S1 : S ∉ fp1
  S2 : S ∉ fp2
/-- behind i pairs -/
def ZSt (St1 St2 : Nat → Heap → Prop) (h : Heap) (z TI TO i1 i2 S : Addr) (i : Nat) : Prop :=
  IsTupOf2 h TI (.ref i1) (.ref i2) ∧ St1 i h ∧ St2 i h ∧ ((IsZip h z TI TO .none ∧ ∃ a1 a2, IsTupOf2 h TO a1 a2) ∨ ∃ T b oT, ZO h z TI TO T b ∧ h.get? T = some oT ∧ S < T)
section
variable {prog : Program} {w : World} {A : Around} {E : Value → Shared → Prop} {s : Shared} {z TI TO i1 i2 S : Addr} {fp1 fp2 : List Addr} {n1 n2 i : Nat} {P1 P2 : Nat → Value → Prop} {St1 St2 : Nat → Heap → Prop}
end
/-- the pairs handed out so far stand at as -/
structure ZPs (P1 P2 : Nat → Value → Prop) (lo : Addr) (h : Heap) (as : List Addr) : Prop where
  rise : as.Pairwise (· < ·)
  above : ∀ a ∈ as, lo < a
  pairs : ∀ (j : Nat) (a : Addr), as[j]? = some a → ∃ x y, P1 j x ∧ P2 j y ∧ IsTupOf2 h a x y
theorem ZPs.there {P1 P2 : Nat → Value → Prop} {lo : Addr} {h : Heap} {as : List Addr} (g : ZPs P1 P2 lo h as) {a : Addr} (ha : a ∈ as) : a < h.objs.size := by
  obtain ⟨j, hj⟩ := List.mem_iff_getElem?.mp ha
  obtain ⟨_, _, _, _, e⟩ := g.pairs j a hj
  exact Heap.lt_size e
section
variable {prog : Program} {w : World} {A : Around} {E : Value → Shared → Prop} {s : Shared} {R : Result → Shared → Prop} {z TI TO i1 i2 S : Addr} {fp1 fp2 : List Addr} {n1 n2 : Nat} {P1 P2 : Nat → Value → Prop} {St1 St2 : Nat → Heap → Prop}
end
section
variable {prog : Program} {w : World} {A : Around} {E : Value → Shared → Prop} {s : Shared} {z TI TO i1 i2 : Addr} {fp1 fp2 : List Addr} {n1 n2 : Nat} {P1 P2 : Nat → Value → Prop} {St1 St2 : Nat → Heap → Prop}
end
/-! list(zip(a, b)), two lists or two tuples -/
/-- pairs at their addresses -/
def putP : Hp → List Addr → List (V × V) → Hp
  | H, a :: as, p :: ps => putP (upd H a (.tup [p.1, p.2])) as ps
  | H, _, _ => H
section
variable {X : Cx}
/-- list(zip(a, b)) over values -/
def rLZ (K : PySem.W.Frag) : List V → Hp → VK → Prop := fun zs H Q => ∃ (a b : Addr) (xs ys : List V), zs = [.ref a, .ref b] ∧ ((SqL K H a xs ∧ SqL K H b ys) ∨ (SqT K H a xs ∧ SqT K H b ys)) ∧
  ∀ (H' : Hp) (p : Addr) (ts : List Addr), (∀ b o, H b = some o → H' b = some o) → H p = none → (∀ t ∈ ts, H t = none) → p ∉ ts → ts.Nodup → H' p = some (.lst (ts.map V.ref)) → Paired (fun (t : Addr) (q : V × V) => H' t = some (.tup [q.1, q.2])) ts (xs.zip ys) → Q (.ref p) H'
def tLZ (K : PySem.W.Frag) (ta : TA) : TE := fun σ H Q => ta σ H fun xs H1 => rLZ K xs H1 Q
end
/-! list(zip(a, b)) over data -/
section
variable {c : Fr} {K : PySem.W.Frag} {G H G' H' : Hp} {ρ : Env} {σ : L2.St}
end
/-! t[-2::-1]; a or b of rows -/
/-- t[-2::-1] -/
def tRevT2 (K : PySem.W.Frag) (te : TE) : TE := fun σ H Q => te σ H fun x H1 => ∃ a xs, x = .ref a ∧ SqT K H1 a xs ∧ ∀ p, H1 p = none → Q (.ref p) (upd H1 p (.tup xs.dropLast.reverse))
/-- a or b, by a's truth -/
def tOrT (K : PySem.W.Frag) (ta tb : TE) : TE := fun σ H Q => ta σ H fun x H1 => ∃ c, TruV K x H1 c ∧ if c = true then Q x H1 else tb σ H1 Q
section
variable {c : Fr} {K : PySem.W.Frag} {G H G' H' : Hp} {ρ : Env} {σ : L2.St}
/-- a or b of tuples -/
def pOrT (a b : PQ) : PQ := fun ρ R => a ρ fun x => ∃ ds, Tp x ds ∧ if ds.isEmpty = true then b ρ R else R x
end
/-! slices of data that is made of rows; rows of truths; pairs of neighbours in a row -/
def cutL {α : Type} (xs : List α) (lo hi : Option Int) : List α := (xs.drop (HT.sIx xs.length 0 lo)).take (HT.sIx xs.length xs.length hi - HT.sIx xs.length 0 lo)
theorem cutD_map {α : Type} (f : α → D) (xs : List α) (lo hi : Option Int) : cutD (xs.map f) lo hi = (cutL xs lo hi).map f := by
  unfold cutD cutL
  rw [List.length_map, List.map_take, List.map_drop]
theorem cutL_from {α : Type} (xs : List α) (k : Nat) : cutL xs (some (k : Int)) none = xs.drop k := by
  unfold cutL
  rw [HT.sIx_nat, HT.sIx_none]
  by_cases h : k ≤ xs.length
  · rw [Nat.min_eq_left h]
    exact List.take_of_length_le (by rw [List.length_drop]; omega)
  · rw [Nat.min_eq_right (by omega), List.drop_eq_nil_of_le (Nat.le_refl _), List.drop_eq_nil_of_le (by omega), List.take_nil]
theorem cutL_to {α : Type} (xs : List α) (k : Nat) : cutL xs none (some (k : Int)) = xs.take k := by
  unfold cutL
  rw [HT.sIx_nat, HT.sIx_none, Nat.sub_zero, List.drop_zero]
  by_cases h : k ≤ xs.length
  · rw [Nat.min_eq_left h]
  · rw [Nat.min_eq_right (by omega), List.take_length, List.take_of_length_le (by omega)]
theorem cutL_tail {α : Type} (xs : List α) : cutL xs (some 1) none = xs.tail := by
  rw [show (1 : Int) = ((1 : Nat) : Int) from rfl, cutL_from, List.drop_one]
theorem zipPr (xs ys : List Str) : zipD (xs.map D.str) (ys.map D.str) = (xs.zip ys).map prD := by
  unfold zipD
  rw [List.zipWith_map, List.zip, List.map_zipWith]
theorem shw_bl (b : Bool) : Shw (.bool b) 1 0 := by
  refine ⟨?_, ?_, ?_, ?_, ?_⟩ <;> simp [PyData.canLay0, PyData.intsShort, PyData.showable, PyData.weight, PyData.depth]
theorem py_tp {d : D} {ws : List Str} (h : Tp d (ws.map D.str)) : Py d (.tuple (ws.map .str)) := by
  have hp : Pys (ws.map D.str) (ws.map PyData.str) := by
    induction ws generalizing d with
    | nil => exact .nil
    | cons z ws ih => exact .cons (.str z) (ih (d := .tup (ws.map D.str)) (.inl rfl))
  rcases h with rfl | rfl
  · exact .tup hp
  · exact .tun hp
theorem shw_wk {ws : List Str} (h : ∀ z ∈ ws, NmOk z) : Shw (.tuple (ws.map .str)) (ws.length * 9) 1 := by
  have := Shw.tuple (Shws.all (ds := ws.map PyData.str) (n := 8) (k := 0) fun d hd => by
    obtain ⟨z, hz, rfl⟩ := List.mem_map.mp hd
    exact .str (h z hz))
  rw [List.length_map] at this
  exact this
/-! pairs at a distance -/
/-- the i-th and the (i+k)-th are unlike -/
def Apt (k : Nat) (rm : List Str) : Prop := ∀ i a b, rm[i]? = some a → rm[i + k]? = some b → a ≠ b
/-- no room follows itself, at once or behind one other -/
def Taut (rm : List Str) : Prop := 1 < rm.length ∧ Apt 1 rm ∧ Apt 2 rm
/-- the last rope is among those ahead -/
def Comes (ws : List Str) : Prop := ∃ p, (ws.zip ws.tail).getLast? = some p ∧ p ∈ (ws.zip ws.tail).dropLast
/-! slices whose bounds the pen is asked for -/
section
variable {c : Fr} {K : PySem.W.Frag} {G H G' H' : Hp} {ρ : Env} {σ : L2.St}
structure RPtX (c : Fr) (to : TO) (p : Env → (Option Int → Env → Prop) → Prop) : Prop where
  run : ∀ {ρ : Env} {σ : L2.St} {G H : Hp} {Q : Option Int → Hp → Prop} {R : Option Int → Env → Prop}, Sta c G H ρ σ → p ρ R → (∀ o ρ' G' H', R o ρ' → Mv c σ G H ρ G' H' ρ' → Q o H') → to σ H Q
def pSlX (f : D → Option Int → Option Int → (D → Prop) → Prop) (a : PX) (l h : Env → (Option Int → Env → Prop) → Prop) : PX := fun ρ R => a ρ fun d ρ1 => l ρ1 fun lo ρ2 => h ρ2 fun hi ρ3 => f d lo hi fun e => R e ρ3
end
/-! {k: v for x in xs} whatever the keys are: ints, texts, or tuples of such *)-/
section
variable {X : Cx}
/-- a dict's table anew: of plain keys or of tuples -/
def NewTab (o : HO) : Prop := o = .dK [] ∨ o = .dT []
/-- the reading of such a comprehension: o0 the table anew -/
def tDcG (o0 : HO) (wi : TI) (g : TG) (tt : TT) (tk tv : TE) (own : List Nat) : TE := fun σ H Q => wi σ H fun J Ha => ∀ dd, Ha dd = none → ∃ W : Nat → Nat → Hp → Prop, (∃ m, W 0 m (upd Ha dd o0)) ∧ ∀ i m Hb, W i m Hb →
  (J.stop i Hb ∧ Q (.ref dd) Hb) ∨ (J.go i Hb ∧ ∃ N : Hp → Prop, (∀ Hc, N Hc → ∃ m', m' < m ∧ W (i + 1) m' Hc) ∧ ∀ x Hc, J.yld i Hb x Hc → g x (L2.wipe σ own) Hc fun σ' Hd => L2.wipe σ' own = L2.wipe σ own ∧ tt σ' Hd fun b He =>
    if b = true then tk σ' He fun y Hf => tv σ' Hf fun z Hg => ∃ Hh, DPut Hg dd y z Hh ∧ N Hh else N He)
end
/-! dicts by tuples of texts, over data -/
section
variable {c : Fr} {K : PySem.W.Frag} {G H G' H' : Hp} {ρ : Env} {σ : L2.St} {v : V} {d : D}
/-! tables -/
def dvalT (es : List (List Key × D)) (k : List Key) : Option D := (es.find? fun p => decide (p.1 = k)).map (·.2)
def dputT (es : List (List Key × D)) (k : List Key) (d : D) : List (List Key × D) := if es.any (fun p => decide (p.1 = k)) then es.map (fun p => if p.1 = k then (k, d) else p) else es ++ [(k, d)]
theorem RpT.len : ∀ {v : List (List Key × V)} {d : List (List Key × D)}, RpT K G v d → v.length = d.length
  | _, _, .nil => rfl
  | _, _, .cons _ b => by simp [RpT.len b]
theorem RpT.val : ∀ {kvs : List (List Key × V)} {es : List (List Key × D)} {k : List Key}, RpT K G kvs es → (dvalT es k = none → valV kvs k = none) ∧ ∀ d, dvalT es k = some d → ∃ v, valV kvs k = some v ∧ Rp K G v d
  | _, _, k, .nil => ⟨fun _ => rfl, fun e h => by cases h⟩
  | _, _, k, .cons (k := k') (v := v) (d := d) (vs := vs) (ds := ds) r t => by
    by_cases h : k' = k
    · subst h
      refine ⟨fun z => ?_, fun e z => ?_⟩
      · unfold dvalT at z
        simp at z
      · unfold dvalT at z
        simp at z
        subst z
        exact ⟨v, valV_pos rfl, r⟩
    · have e1 : dvalT ((k', d) :: ds) k = dvalT ds k := by unfold dvalT; simp [List.find?_cons, h]
      rw [e1, valV_neg h]
      exact RpT.val t
theorem RpT.isSome {kvs : List (List Key × V)} {es : List (List Key × D)} {k : List Key} (h : RpT K G kvs es) : (valV kvs k).isSome = (dvalT es k).isSome := by
  cases e : dvalT es k with
  | none => rw [h.val.1 e]; rfl
  | some d => obtain ⟨v, hv, _⟩ := h.val.2 d e; rw [hv]; rfl
theorem RpT.any : ∀ {kvs : List (List Key × V)} {es : List (List Key × D)} {k : List Key}, RpT K G kvs es → (kvs.any fun kv => decide (kv.1 = k)) = (es.any fun kv => decide (kv.1 = k))
  | _, _, k, .nil => rfl
  | _, _, k, .cons r t => by rw [List.any_cons, List.any_cons, RpT.any t]
theorem RpT.put {k : List Key} {v : V} {d : D} {kvs : List (List Key × V)} {es : List (List Key × D)} (h : RpT K G kvs es) (r : Rp K G v d) : RpT K G (putK kvs k v) (dputT es k d) := by
  have hm : ∀ {kvs : List (List Key × V)} {es : List (List Key × D)}, RpT K G kvs es → RpT K G (kvs.map fun kv => if kv.1 = k then (kv.1, v) else kv) (es.map fun p => if p.1 = k then (k, d) else p) := fun {kvs es} h => by
    induction kvs generalizing es with
    | nil => cases h; exact .nil
    | cons q qs ih => cases h with
      | cons a b =>
        rw [List.map_cons, List.map_cons]
        split
        · rename_i k' _ _ _ e
          have e' : k' = k := e
          subst e'
          exact .cons r (ih b)
        · exact .cons a (ih b)
  have ha : ∀ {kvs : List (List Key × V)} {es : List (List Key × D)}, RpT K G kvs es → RpT K G (kvs ++ [(k, v)]) (es ++ [(k, d)]) := fun {kvs es} h => by
    induction kvs generalizing es with
    | nil => cases h; exact .cons r .nil
    | cons q qs ih => cases h with
      | cons a b => exact .cons a (ih b)
  unfold putK dputT
  rw [h.any]
  split
  · exact hm h
  · exact ha h
/-- d[a, b] -/
def pDGetT (a b : PQ) : PQ := fun ρ R => a ρ fun x => b ρ fun y => ∃ es k d, DT x es ∧ y = .tuk k ∧ dvalT es k = some d ∧ R d
def pDInT (neg : Bool) (a b : PQ) : PQ := fun ρ R => a ρ fun y => b ρ fun x => ∃ es k, DT x es ∧ y = .tuk k ∧ R (.bl (if neg then !(dvalT es k).isSome else (dvalT es k).isSome))
/-- d[a, b] = e, a dict of one's own -/
def pDPutT (i : Nat) (a b : PX) : PS' := fun E ρ => a ρ fun d ρ1 => ∃ es0, ρ1[i]? = some (.dt es0) ∧ b ρ1 fun y ρ2 => ∃ es k, ρ2[i]? = some (.dt es) ∧ y = .tuk k ∧ es.length < sizeLine ∧ E.nx (ρ2.set i (.dt (dputT es k d)))
/-- {k: v for x in xs}, the keys tuples -/
def pDcT (pi : PAQ) (pg : PGt) (pt : PB) (pk pv : PQ) (vs : List Nat) : Env → (Sl → Prop) → Prop := fun ρ R => pi ρ fun ds => ds.length < 2 ^ 20 ∧ ∃ Pv : Nat → List (List Key × D) → Prop, Pv 0 [] ∧
  (∀ i d acc, i < ds.length → ds[i]? = some d → acc.length ≤ i → Pv i acc → pg d (wipeE ρ vs) fun ρ2 => pt ρ2 fun b => if b = true then pk ρ2 fun y => pv ρ2 fun z => ∃ k, y = .tuk k ∧ Pv (i + 1) (dputT acc k z) else Pv (i + 1) acc) ∧ ∀ acc, acc.length ≤ ds.length → Pv ds.length acc → R (.dt acc)
/-- len -/
def kLenT : List V → Hp → VK → Prop := fun xs H Q => ∃ (a : Addr) (kvs : List (List Key × V)), xs = [V.ref a] ∧ L2.Rd H a (.dT kvs) ∧ Q (.int (kvs.length : Int)) H
end
/-! list(d.values()) *)-/
def tListVals (te : TE) : TE := fun σ H Q => te σ H fun x Ha => ∃ (d : Addr) (kvs : List (Key × V)), x = .ref d ∧ Ha d = some (.dK kvs) ∧ ∀ p, Ha p = none → Q (.ref p) (upd Ha p (.lst (kvs.map (·.2))))
section
variable {X : Cx} {e : Expr} {te : TE} {p apos cpos pos : Pos}
end
section
variable {c : Fr} {K : PySem.W.Frag} {G H G' H' : Hp} {ρ : Env} {σ : L2.St}
end
/-! how such readings are answered; tables of pairs of texts -/
section
variable {c : Fr} {K : PySem.W.Frag} {ρ : Env} {q q' : PQ} {e e' : PX} {R : D → Prop} {i : Nat} {E : PEnds}
theorem mapK2 (a b : Str) : List.map kyD [.inr a, .inr b] = [.str a, .str b] := rfl
end
def pn4 (B : D → D → D → D → (Sl → Prop) → Prop) : List D → (Sl → Prop) → Prop := fun ds R => ∃ x y z u, ds = [x, y, z, u] ∧ B x y z u R
/-! pairs of texts as keys -/
abbrev kyP (p : Dr) : List Key := [.inr p.1, .inr p.2]
theorem kyP_inj {p q : Dr} (h : kyP p = kyP q) : p = q := by
  injection h with h1 h2
  injection h2 with h2
  exact Prod.ext (Sum.inr.inj h1) (Sum.inr.inj h2)
/-- a table whose keys are the pairs -/
def tblL (L : List Dr) : List (List Key × D) := L.map fun p => (kyP p, .bl true)
/-- a pair among pairs -/
def insD (L : List Dr) (p : Dr) : List Dr := if p ∈ L then L else L ++ [p]
/-! firm pulls: the greatest set of pulls each of which is met by a post or by another behind -/
def Pull (es : List Dr) (f : Str → Str) (a x : Str) : Prop := f a ≠ x ∧ ∃ o ∈ nb es a, f o = x
def FirmP (es : List Dr) (ps : List Str) (f : Str → Str) (a x : Str) : Prop := ∃ S : Str → Str → Prop, S a x ∧ ∀ b y, S b y → Pull es f b y ∧ (b ∈ ps ∨ ∃ o ∈ nb es b, f o ≠ f b ∧ f o ≠ y ∧ S o (f b))
theorem FirmP.behind {es : List Dr} {ps : List Str} {f : Str → Str} {a x : Str} (h : FirmP es ps f a x) : a ∈ ps ∨ ∃ o ∈ nb es a, f o ≠ f a ∧ f o ≠ x ∧ FirmP es ps f o (f a) := by
  obtain ⟨S, h1, h2⟩ := h
  exact (h2 a x h1).2.imp id fun ⟨o, k1, k2, k3, k4⟩ => ⟨o, k1, k2, k3, S, k4, h2⟩
/-- one turn of letting go what is not met -/
def Met (es : List Dr) (ps : List Str) (f : Str → Str) (L : List Dr) (p : Dr) : Prop := p.1 ∈ ps ∨ ∃ o ∈ nb es p.1, f o ≠ f p.1 ∧ f o ≠ p.2 ∧ (o, f p.1) ∈ L
/-- those that don't go -/
def HeldP (es : List Dr) (ps : List Str) (f : Str → Str) (a : Str) : Prop := a ∈ ps ∨ ∃ o ∈ nb es a, ∃ u ∈ nb es a, f o ≠ f u ∧ FirmP es ps f o (f a) ∧ FirmP es ps f u (f a)
/-! sorted(d.items()), the keys and values texts *)-/
def txt2 (es : List Dr) : List (Key × V) := es.map fun e => (.inr e.1, .str e.2)
def tSortItems (te : TE) : TE := fun σ H Q => te σ H fun x Ha => ∃ (d : Addr) (es : List Dr), x = .ref d ∧ L2.Rd Ha d (.dK (txt2 es)) ∧ es.length ≤ 1000 ∧
  ∀ (Hb : Hp) (p : Addr) (ts : List Addr) (fs : List Dr), fs.Perm es → fs.Pairwise leD → (∀ b o, Ha b = some o → Hb b = some o) → Ha p = none → (∀ t ∈ ts, Ha t = none) → p ∉ ts → ts.Nodup → Hb p = some (.lst (ts.map V.ref)) → Paired (fun (t : Addr) (q : Dr) => Hb t = some (.tup [.str q.1, .str q.2])) ts fs → Q (.ref p) Hb
/-! sorted(d.items()) over data -/
section
variable {c : Fr} {K : PySem.W.Frag} {G H G' H' : Hp} {ρ : Env} {σ : L2.St}
def itD (es : List Dr) : List (Key × D) := es.map fun e => (.inr e.1, .str e.2)
end
/-! int(..) of a truth value; equal rows of walks -/
def fInt : D → (D → Prop) → Prop := fun x R => (∃ i, x = .int i ∧ R (.int i)) ∨ ∃ k, x = .bl k ∧ R (.int (if k = true then 1 else 0))
theorem cq_int {K : PySem.W.Frag} : CQ K kInt fInt := ⟨fun gs hx q k => by
  rcases q with ⟨i, rfl, q⟩ | ⟨b, rfl, q⟩
  · rw [hx.int]; exact c_intI (k _ _ _ _ q (Stp.refl gs) (.int _))
  · rw [hx.bl]; exact c_intB (k _ _ _ _ q (Stp.refl gs) (.int _))⟩
theorem p_intB {k : Bool} {R : D → Prop} (q : R (.int (if k = true then 1 else 0))) : fInt (.bl k) R := .inr ⟨k, rfl, q⟩
/-! d[k] += e of a dict of one's own; d.get of a dict by tuples -/
section
variable {c : Fr}
def pGet2T (a b e : PQ) : PQ := fun ρ R => a ρ fun x => ∃ es, DT x es ∧ b ρ fun y => e ρ fun z => ∃ k, y = .tuk k ∧ R ((dvalT es k).getD z)
def pDAug (i : Nat) (a b : PQ) : PS' := fun E ρ => ∃ es, ρ[i]? = some (.d es) ∧ a ρ fun y => ∃ ky n, y = kyD ky ∧ dval es ky = some (.int n) ∧ b ρ fun z => ∃ m, z = .int m ∧ es.length < sizeLine ∧ E.nx (ρ.set i (.d (dputD es ky (.int (n + m)))))
theorem RX.or {te : TE} {p p' : PX} (h : RX c te p) (h' : RX c te p') : RX c te (fun ρ R => p ρ R ∨ p' ρ R) := ⟨fun s q k => q.elim (fun q => h.run s q k) (fun q => h'.run s q k)⟩
/-- a or b of numbers, or of nothing -/
def pOrI (a b : PQ) : PQ := fun ρ R => a ρ fun x => (x = .non ∧ b ρ R) ∨ ∃ n, x = .int n ∧ if n = 0 then b ρ R else R (.int n)
end
section
variable {ρ : Env} {a b e : PQ} {R : D → Prop} {i : Nat} {E : PEnds}
end
/-! xs.extend(t), t a tuple -/
set_option maxRecDepth 8000 in
def rExtendT (K : PySem.W.Frag) : V → List V → Hp → VK → Prop := fun x vs H Q => ∃ l b xs zs, x = .ref l ∧ vs = [.ref b] ∧ H l = some (.lst xs) ∧ SqT K H b zs ∧ xs.length + zs.length ≤ sizeLine ∧ Q .non (upd H l (.lst (xs ++ zs)))
section
variable {c : Fr}
def pExtT (i : Nat) (a : PQ) : PS' := fun E ρ => (∃ ds0, ρ[i]? = some (.l ds0)) ∧ a ρ fun t => ∃ ds es, ρ[i]? = some (.l ds) ∧ Tp t es ∧ ds.length + es.length ≤ sizeLine ∧ E.nx (ρ.set i (.l (ds ++ es)))
end
/-! zip of two tuples of texts: its pairs can be keys -/
open RZ
section
variable {c : Fr} {K : PySem.W.Frag} {G H G' H' : Hp} {ρ : Env} {σ : L2.St} {v : V} {d : D}
def zipK (xs ys : List Str) : List D := List.zipWith (fun a b => .tuk [.inr a, .inr b]) xs ys
theorem dvalT_put (es : List (List Key × D)) (k k' : List Key) (d : D) : dvalT (dputT es k d) k' = if k' = k then some d else dvalT es k' := by
  unfold dvalT dputT
  by_cases c : es.any (fun e => decide (e.1 = k)) = true
  · rw [if_pos c]
    induction es with
    | nil => cases c
    | cons e es ih =>
      rw [List.map_cons]
      by_cases e1 : e.1 = k
      · rw [if_pos e1]
        by_cases e2 : k' = k
        · rw [if_pos e2, List.find?_cons_of_pos (by simp [e2])]
          rfl
        · rw [if_neg e2, List.find?_cons_of_neg (by simp; exact fun q => e2 q.symm), List.find?_cons_of_neg (by simp [e1]; exact fun q => e2 q.symm)]
          by_cases c2 : es.any (fun e => decide (e.1 = k)) = true
          · have := ih c2
            rw [if_neg e2] at this
            exact this
          · have hm : es.map (fun p => if p.1 = k then (k, d) else p) = es := by
              conv => rhs; rw [← List.map_id es]
              refine List.map_congr_left fun p hp => ?_
              rw [if_neg]
              · rfl
              · intro q
                exact c2 (List.any_eq_true.mpr ⟨p, hp, by simp [q]⟩)
            rw [hm]
      · rw [if_neg e1]
        have c2 : es.any (fun e => decide (e.1 = k)) = true := by
          rw [List.any_cons, decide_eq_false e1, Bool.false_or] at c
          exact c
        have := ih c2
        by_cases e3 : e.1 = k'
        · rw [List.find?_cons_of_pos (by simp [e3]), List.find?_cons_of_pos (by simp [e3]), if_neg (fun q => e1 (e3.trans q))]
        · rw [List.find?_cons_of_neg (by simp [e3]), List.find?_cons_of_neg (by simp [e3])]
          exact this
  · rw [if_neg c, List.find?_append]
    by_cases e2 : k' = k
    · subst e2
      rw [if_pos rfl]
      have : es.find? (fun p => decide (p.1 = k')) = none := List.find?_eq_none.mpr fun e he q => c (List.any_eq_true.mpr ⟨e, he, q⟩)
      rw [this]
      simp
    · rw [if_neg e2, List.find?_cons_of_neg (by simp; exact fun q => e2 q.symm)]
      simp
end
/-! errors over data: what is raised, as class and fields; try; a suite's own error -/
/-- an error's fields as data -/
def ExRp (K : PySem.W.Frag) (G : Hp) (od : Option Addr) (fs : List (Str × D)) : Prop := (od = none ∧ fs = []) ∨ ∃ dd vs, od = some dd ∧ G dd = some (.xd vs) ∧ RpF K G vs fs
theorem ExRp.same {K : PySem.W.Frag} {G G' : Hp} {od : Option Addr} {fs : List (Str × D)} (h : ExRp K G od fs) (e : Same G G') : ExRp K G' od fs := by
  rcases h with h | ⟨dd, vs, h1, h2, h3⟩
  · exact .inl h
  · exact .inr ⟨dd, vs, h1, e _ _ h2, h3.same e⟩
theorem ExRp.nil {K : PySem.W.Frag} {G : Hp} : ExRp K G none [] := .inl ⟨rfl, rfl⟩
/-- how an error may go on -/
abbrev HX := Addr → List (Str × D) → Env → Prop
def XLk (c : Fr) (W : WX) (hx : HX) : Prop := ∀ C fs od ρ σ G H, Sta c G H ρ σ → ExRp c.K G od fs → hx C fs ρ → W (.ref C) od σ H
/-- none may -/
def hx0 : HX := fun _ _ _ => False
abbrev WOf (E : XK) : WX := fun cls d _ H => E cls d H
/-- a def that tells known data, or raises -/
def spDE (K : PySem.W.Frag) (ps : List D → (D → Prop) → (Addr → List (Str × D) → Prop) → Prop) : Sp := fun vs H Q E => ∃ ds G R X, Same G H ∧ Rps K G vs ds ∧ ps ds R X ∧
  (∀ d v G' H', R d → Stp M0 G H G' H' → Rp K G' v d → Q v H') ∧ ∀ C fs od G' H', X C fs → Stp M0 G H G' H' → ExRp K G' od fs → E (.ref C) od H'
/-- a def that tells a new thing, or raises -/
def spNE (P : Program) (w : World) (K : PySem.W.Frag) (ps : List D → (Sl → Prop) → (Addr → List (Str × D) → Prop) → Prop) : Sp := fun vs H Q E => ∃ ds G R X, Same G H ∧ Rps K G vs ds ∧ ps ds R X ∧
  (∀ s a G' H', R s → Stp M0 G H G' H' → SlOk ⟨P, w, K, M0, G, H, []⟩ G' H' s (some (.ref a)) → s.nu = true → H a = none → Q (.ref a) H') ∧ ∀ C fs od G' H', X C fs → Stp M0 G H G' H' → ExRp K G' od fs → E (.ref C) od H'
section
variable {c : Fr} {W : WX} {hx : HX} {ta : TA} {a : PAQ} {ax : PAX} {ps : List D → (D → Prop) → (Addr → List (Str × D) → Prop) → Prop} {pn : List D → (Sl → Prop) → (Addr → List (Str × D) → Prop) → Prop} {E : XK}
def pCallE (ps : List D → (D → Prop) → (Addr → List (Str × D) → Prop) → Prop) (hx : HX) (a : PAQ) : PQ := fun ρ R => a ρ fun ds => ps ds R fun C fs => hx C fs ρ
def pCallEX (ps : List D → (D → Prop) → (Addr → List (Str × D) → Prop) → Prop) (hx : HX) (a : PAX) : PX := fun ρ R => a ρ fun ds ρ1 => ps ds (fun d => R d ρ1) fun C fs => hx C fs ρ1
/-- the promise of an error's own __init__ of one field -/
def spXI (C : Addr) (f : Str) : Sp := fun vs H Q _ => ∃ a y, vs = [.ref a, y] ∧ H a = some (exo a C none) ∧ ∀ dx, H dx = none → dx ≠ a → Q .non (upd (upd H dx (exd dx [(f, y)])) a (exo a C (some dx)))
def spXI2 (C : Addr) (f g : Str) : Sp := fun vs H Q _ => ∃ a y z, vs = [.ref a, y, z] ∧ H a = some (exo a C none) ∧ ∀ dx, H dx = none → dx ≠ a → Q .non (upd (upd (upd H dx (exd dx [(f, y)])) a (exo a C (some dx))) dx (exd dx [(g, z), (f, y)]))
end
/-! ### try -/
section
variable {c : Fr} {G H G' H' : Hp} {ρ ρ' : Env} {σ σ' : L2.St}
theorem Sta.re (s : Sta c G H ρ σ) : Sta { c with G0 := G } G H ρ σ :=
  ⟨⟨s.st.up, Same.refl G, s.st.gh, fun _ _ _ => .inl rfl, s.st.th⟩, s.sl, s.nw, s.ds, s.tb⟩
theorem Sta.un (s : Sta c G H ρ σ) (s' : Sta { c with G0 := G } G' H' ρ' σ') : Sta c G' H' ρ' σ' :=
  ⟨⟨s'.st.up, s.st.gg.trans s'.st.gg, s'.st.gh, fun a o e => fr_trans (s'.st.gg a) (s.st.fr' a o e) (s'.st.fr' a o e), s'.st.th⟩, s'.sl, s'.nw, s'.ds, s'.tb⟩
theorem Lk.re {D' : Ends} {E : PEnds} (s : Sta c G H ρ σ) (l : Lk c G D' E) : Lk { c with G0 := G } G D' E :=
  ⟨fun ρ σ G' H' g s' q => l.nx ρ σ G' H' g (s.un s') q, fun d ρ σ v G' H' g s' q r => l.rt d ρ σ v G' H' g (s.un s') q r, fun ρ σ G' H' g s' q => l.bk ρ σ G' H' g (s.un s') q, fun ρ σ G' H' g s' q => l.ct ρ σ G' H' g (s.un s') q,
    fun t ρ σ a G' H' g s' q ok nu hn => l.rn t ρ σ a G' H' g (s.un s') q (by cases t <;> exact ok) nu hn, fun t t' ρ σ u a b G' H' g s' q ht ok ok' nu nu' hn hn' ne => l.rt2 t t' ρ σ u a b G' H' g (s.un s') q ht (by cases t <;> exact ok) (by cases t' <;> exact ok') nu nu' hn hn' ne⟩
def offP (i : Nat) (E : PEnds) : PEnds := { nx := fun ρ => E.nx (ρ.set i .un), rt := E.rt, bk := fun ρ => E.bk (ρ.set i .un), ct := fun ρ => E.ct (ρ.set i .un), rn := E.rn, rt2 := E.rt2 }
theorem Lk.off {D' : Ends} {E : PEnds} {i : Nat} (l : Lk c G D' E) : Lk c G (offE i D') (offP i E) :=
  ⟨fun ρ σ G' H' g s q => l.nx _ _ G' H' g (s.setU none) q, l.rt, fun ρ σ G' H' g s q => l.bk _ _ G' H' g (s.setU none) q, fun ρ σ G' H' g s q => l.ct _ _ G' H' g (s.setU none) q, l.rn, l.rt2⟩
abbrev PCl := Addr × Nat × (Addr → List (Str × D) → PS')
def pMore (K : PySem.W.Frag) (out : HX) (E : PEnds) : List PCl → HX
  | [] => out
  | q :: r => fun C fs ρ => ∃ b, PySem.W.exmOne K (.ref C) (.ref q.1) = some b ∧ (b = true → C = q.1 ∧ ∀ a, q.2.2 a fs (offP q.2.1 E) (ρ.set q.2.1 (.v (.fn a)))) ∧ (b = false → pMore K out E r C fs ρ)
inductive HsR (c : Fr) : List Cl → List PCl → Prop
  | nil : HsR c [] []
  | cons {C : Addr} {i : Nat} {ts : Addr → Value → Option Addr → TS} {su : Addr → List (Str × D) → PS'} {l : List Cl} {lp : List PCl} (hs : ∀ (Gs : Hp) (a : Addr) (d : Option Addr) (fs : List (Str × D)), ExRp c.K Gs d fs → RS { c with G0 := Gs } (ts a (.ref C) d) (su a fs)) (r : HsR c l lp) : HsR c ((.ref C, i, ts) :: l) ((C, i, su) :: lp)
def pTry (K : PySem.W.Frag) (out : HX) (lp : List PCl) (pb : HX → PS') : PS' := fun E ρ => pb (pMore K out E lp) E ρ
/-- try, its suites -/
def tTry (K : PySem.W.Frag) (tb : WX → TS) (l : List Cl) : TS := fun D' σ H => tb (wMore K (fun _ _ _ _ => False) D' l) D' σ H
/-! ### in a suite -/
variable {te : TE} {pe : PQ} {a : Addr} {d : Option Addr} {fs : List (Str × D)}
def pXf (fs : List (Str × D)) (a : Addr) (n : Str) (pe : PQ) : PQ := fun ρ R => pe ρ fun x => x = .fn a ∧ ∃ y, fs.lookup n = some y ∧ R y
/-- isinstance(e, c), e the suite's own error, with fields or without -/
def rIsED (K : PySem.W.Frag) (C a : Addr) (d : Option Addr) : List V → Hp → VK → Prop := fun xs H Q => ∃ (x : V) (cv : Value) (b : Bool), xs = [.ref a, x] ∧ (∀ u, RelV x u → u = cv) ∧ (d = none ∨ ∃ dd vs, d = some dd ∧ H dd = some (.xd vs)) ∧ PySem.W.kitOne K (.ref C) cv = some b ∧ Q (.bl b) H
def pIsE (K : PySem.W.Frag) (C a : Addr) (cv : Value) (pe : PQ) : PQ := fun ρ R => pe ρ fun x => x = .fn a ∧ ∃ b, PySem.W.kitOne K (.ref C) cv = some b ∧ R (.bl b)
end
/-! ### defs that raise -/
section
variable {P : Program} {w : World} {K : PySem.W.Frag} {H : Hp}
abbrev XD := Addr → List (Str × D) → Prop
def pe1 {α : Type} (B : D → (α → Prop) → XD → Prop) : List D → (α → Prop) → XD → Prop := fun ds R X => ∃ x, ds = [x] ∧ B x R X
def pe2 {α : Type} (B : D → D → (α → Prop) → XD → Prop) : List D → (α → Prop) → XD → Prop := fun ds R X => ∃ x y, ds = [x, y] ∧ B x y R X
def pe3 {α : Type} (B : D → D → D → (α → Prop) → XD → Prop) : List D → (α → Prop) → XD → Prop := fun ds R X => ∃ x y z, ds = [x, y, z] ∧ B x y z R X
def pe4 {α : Type} (B : D → D → D → D → (α → Prop) → XD → Prop) : List D → (α → Prop) → XD → Prop := fun ds R X => ∃ x y z u, ds = [x, y, z, u] ∧ B x y z u R X
def pe5 {α : Type} (B : D → D → D → D → D → (α → Prop) → XD → Prop) : List D → (α → Prop) → XD → Prop := fun ds R X => ∃ x y z u v, ds = [x, y, z, u, v] ∧ B x y z u v R X
/-- one that never raises here -/
theorem spDE_of {ps : List D → (D → Prop) → XD → Prop} {ps' : List D → (D → Prop) → Prop} (f : ∀ ds R, ps' ds R → ps ds R fun _ _ => False) (vs : List V) (H : Hp) (Q : VK) (E : XK) (h : spD K ps' vs H Q E) : spDE K ps vs H Q E := by
  obtain ⟨ds, G, R, g, hr, hp, hq⟩ := h
  exact ⟨ds, G, R, fun _ _ => False, g, hr, f _ _ hp, hq, fun _ _ _ _ _ x => x.elim⟩
end
/-! a def that a local holds, called in a try or not -/
def tCallV (S : Addr → Prop) (sp : Sp) (E : L2.St → XK) (tf : TE) (t : TA) : TE := fun σ H Q => tf σ H fun v H1 => (∃ a, v = .ref a ∧ S a) ∧ L2.tCallS sp E t σ H1 Q
section
variable {c : Fr} {W : WX} {hx : HX} {tf : TE} {ta : TA} {f : PQ} {a : PAQ} {S : Addr → Prop} {ps : List D → (D → Prop) → (Addr → List (Str × D) → Prop) → Prop}
def pCallV (S : Addr → Prop) (ps : List D → (D → Prop) → XD → Prop) (hx : HX) (f : PQ) (a : PAQ) : PQ := fun ρ R => f ρ fun d => (∃ b, d = .fn b ∧ S b) ∧ pCallE ps hx a ρ R
/-- a def that may raise, called where it doesn't -/
theorem Df.calm {P : Program} {w : World} {K : PySem.W.Frag} {mg : Str → Option Value} {base : Heap} {CX : CXT} {k : Nat} {x : Str} {qs : List Str} {ps : List D → (D → Prop) → XD → Prop} {ps' : List D → (D → Prop) → Prop} (F : Df P w K mg base CX k x qs (spDE K ps)) (h : ∀ ds R, ps' ds R → ps ds R fun _ _ => False) : Df P w K mg base CX k x qs (spD K ps') :=
  F.imp fun vs H Q E q => spDE_of h vs H Q E q
theorem spDE.imp {K : PySem.W.Frag} {ps ps' : List D → (D → Prop) → XD → Prop} (f : ∀ ds R X, ps' ds R X → ps ds R X) (vs : List V) (H : Hp) (Q : VK) (E : XK) (h : spDE K ps' vs H Q E) : spDE K ps vs H Q E := by
  obtain ⟨ds, G, R, X, g, hr, hp, hq⟩ := h
  exact ⟨ds, G, R, X, g, hr, f _ _ _ hp, hq⟩
end
/-! min(.., default=..) of rows of texts; any thing in a tuple -/
def rMinDef (K : PySem.W.Frag) : List V → List V → Hp → VK → Prop := fun vs zs H Q => ∃ (a : Addr) (xs : List V) (ms : List (List Str)) (z : V), vs = [V.ref a] ∧ zs = [z] ∧ SqL K H a xs ∧ Rws K H xs ms ∧ (ms = [] → Q z H) ∧
  ∀ m0 mt, ms = m0 :: mt → ∀ (t : Addr) (i : Nat), SqT K H t ((minW m0 mt).map V.str) → xs[i]? = some (V.ref t) → ms[i]? = some (minW m0 mt) → Q (.ref t) H
section
variable {c : Fr} {K : PySem.W.Frag} {te tk : TE} {a b : PQ}
theorem Rps.rows {G H : Hp} (g : Same G H) : ∀ {vs : List V} {ms : List (List Str)}, Rps K G vs (ms.map fun m => D.tup (m.map D.str)) → Rws K H vs ms := fun {vs ms} h => by
  refine ⟨by rw [h.len, List.length_map], fun i m e => ?_⟩
  obtain ⟨y, e1, r⟩ := h.get (i := i) (x := .tup (m.map D.str)) (by rw [List.getElem?_map, e]; rfl)
  obtain ⟨t, us, rfl, h1, h2⟩ := r.tup_inv
  rw [h2.strs_inv] at h1
  exact ⟨t, e1, Same.sqt g h1⟩
def pMinDef (a b : PQ) : PQ := fun ρ R => a ρ fun x => ∃ ms : List (List Str), x = .lst (ms.map fun m => .tup (m.map D.str)) ∧ b ρ fun y => (ms = [] → R y) ∧ ∀ m0 mt, ms = m0 :: mt → R (.tup ((minW m0 mt).map D.str))
end
/-! slices and places from behind; rings of walks read from behind -/
theorem p_ixTk {ds : List D} {x : D} {R : D → Prop} (k : Nat) (hk : 1 ≤ k) (hl : k ≤ ds.length) (h : ds[ds.length - k]? = some x) (r : R x) : ∃ es i d, Tp (.tup ds) es ∧ D.int (-(k : Int)) = .int i ∧ atI es i = some d ∧ R d := by
  refine ⟨ds, -(k : Int), x, .inl rfl, rfl, ?_, r⟩
  unfold atI ixN
  rw [if_neg (by omega), if_pos (by omega)]
  show ds[(-(k : Int) + (ds.length : Int)).toNat]? = _
  rw [show (-(k : Int) + (ds.length : Int)).toNat = ds.length - k by omega]
  exact h
theorem rngD_0 (n : Nat) : rngD 0 n = (List.range n).map fun k => D.int ((k : Nat) : Int) := by
  unfold rngD
  exact List.map_congr_left fun k _ => by rw [Int.zero_add]
theorem shw_int {i : Int} (h : i.natAbs < 10 ^ 12) : Shw (.int i) 41 0 := by
  have hl : i.natAbs.log2 < 40 := by
    by_cases e : i.natAbs = 0
    · rw [e]; decide
    · exact (Nat.log2_lt e).mpr (Nat.lt_trans h (by decide))
  refine ⟨?_, ?_, ?_, ?_, ?_⟩
  · simp [PyData.canLay0]
  · simp only [PyData.intsShort]
    exact decide_eq_true (PyData.shown_int_le h)
  · simp [PyData.showable]
    omega
  · simp only [PyData.weight]
    split <;> omega
  · simp [PyData.depth]
/-! error classes with fields of their own -/
/-- an error's class with one field -/
structure ErrI (P : Program) (w : World) (K : PySem.W.Frag) (mg : Str → Option Value) (base : Heap) (x : Str) (C : Addr) (f : Str) : Prop where
  g : mg x = some (.ref C)
  ox : OexC K C
  xf : XfC K C
  nf : PySem.W.findIn K (.ref C) f = some none
  exc : ExcC K C
  ini : ∃ fI fd, PySem.W.findIn K (.ref C) "__init__" = some (some (.ref fI)) ∧ PySem.W.typeIn K (.ref fI) = some (.type "function") ∧ FnOk P w K mg base CX0 1 fI fd ["self", f] (spXI C f) ∧ Binds K fd ["self", f] []
section
variable {P : Program} {w : World} {K : PySem.W.Frag} {mg : Str → Option Value} {base : Heap}
end
section
variable {c : Fr} {te : TE} {ta : TA} {C : Addr} {m : Str} {a : PQ} {r : PAQ} {ps : List D → (D → Prop) → XD → Prop} {pn : List D → (Sl → Prop) → XD → Prop} {E : XK} {hx : HX}
def pMethE (C : Addr) (m : Str) (ps : List D → (D → Prop) → XD → Prop) (hx : HX) (a : PQ) (r : PAQ) : PQ := fun ρ R => a ρ fun d => ∃ fs, d = .obj C fs ∧ fs.lookup m = none ∧ r ρ fun ds => ps (d :: ds) R fun C' fs' => hx C' fs' ρ
theorem Dm.calm {P : Program} {w : World} {K : PySem.W.Frag} {mg : Str → Option Value} {base : Heap} {CX : CXT} {k : Nat} {qs : List Str} {ps : List D → (D → Prop) → XD → Prop} {ps' : List D → (D → Prop) → Prop} (F : Dm P w K mg base CX k C m qs (spDE K ps)) (h : ∀ ds R, ps' ds R → ps ds R fun _ _ => False) : Dm P w K mg base CX k C m qs (spD K ps') :=
  F.imp fun vs H Q E q => spDE_of h vs H Q E q
end
/-! any thing in a tuple -/
def rInTD (K : PySem.W.Frag) : R2 := fun x y H Q => ∃ d ds, Dp K H x d ∧ Dp K H y (.tuple ds) ∧ SeqAt.shaped d = true ∧ SeqAt.shaped (.tuple ds) = true ∧ Q (.bl (ds.any fun z => PyData.eqv z d)) H
theorem op_inTD {X : Cx} (hu : X.A.units + 65 < cLine) : OpR X (compareOp .In) (rInTD X.K) := by
  intro pins s σ H x y v u Q I rx ry h
  obtain ⟨d, ds, hd, he, sd, se, q⟩ := h
  obtain ⟨as, r1⟩ := Dp.reads I d x v hd rx
  obtain ⟨bs, r2⟩ := Dp.reads I (.tuple ds) y u he ry
  exact SeqAt.in_tuple_reads r2 r1 (SeqAt.canLay_of_shaped se) (SeqAt.canLay_of_shaped sd) (room_in_shaped sd hu) ⟨.bl _, H, I, rfl, q⟩
def fInTD : D → D → (D → Prop) → Prop := fun x y R => ∃ d ds, Py x d ∧ Py y (.tuple ds) ∧ SeqAt.shaped d = true ∧ SeqAt.shaped (.tuple ds) = true ∧ R (.bl (ds.any fun z => PyData.eqv z d))
theorem oq_inTD {K : PySem.W.Frag} : OQ K (rInTD K) fInTD := ⟨fun gs hx hy ⟨a, b, e1, e2, s1, s2, q⟩ k => ⟨a, b, hx.dp e1 gs, hy.dp e2 gs, s1, s2, k _ _ _ _ q (Stp.refl gs) (.bl _)⟩⟩
/-- among these texts, as Python sees it -/
def anyEq (zs : List Str) (d : PyData) : Bool := (zs.map PyData.str).any fun z => PyData.eqv z d
theorem anyEq_str (zs : List Str) (x : Str) : anyEq zs (.str x) = decide (x ∈ zs) := by
  unfold anyEq
  induction zs with
  | nil => rfl
  | cons z zs ih =>
    rw [List.map_cons, List.any_cons, ih]
    have : PyData.eqv (.str z) (.str x) = (z == x) := by simp [PyData.eqv]
    rw [this]
    by_cases c : z = x
    · subst c; simp
    · rw [beq_eq_false_iff_ne.mpr c]
      simp [Ne.symm c]
theorem anyEq_no (zs : List Str) {d : PyData} (h : ∀ z, PyData.eqv (.str z) d = false) : anyEq zs d = false := by
  unfold anyEq
  rw [List.any_eq_false]
  intro z hz
  obtain ⟨y, _, rfl⟩ := List.mem_map.mp hz
  rw [h y]
  decide
theorem p_inTD {x y : D} {d : PyData} {zs : List Str} {R : D → Prop} (hx : Py x d) (hy : Tp y (zs.map D.str)) (hp : SeqAt.shaped d = true) (hz : ∀ z ∈ zs, SOk z) (q : R (.bl (anyEq zs d))) : fInTD x y R :=
  ⟨d, zs.map .str, hx, py_tp hy, hp, sh_tup hz, q⟩
/-! l.index(row) of a list of rows -/
section
variable {c : Fr} {K : PySem.W.Frag} {te : TE} {tk : TE} {a b : PQ}
def pIndexR (a b : PQ) : PQ := fun ρ R => a ρ fun x => ∃ ms : List (List Str), x = .lst (ms.map fun m => .tup (m.map D.str)) ∧ (∀ m ∈ ms, ∀ z ∈ m, SOk z) ∧ b ρ fun y => ∃ (m : List Str) (j : Nat), y = .tup (m.map D.str) ∧ ms[j]? = some m ∧ (∀ i, i < j → ms[i]? ≠ some m) ∧ R (.int (j : Int))
/-- x + y, x asked for first, y quiet: a new list -/
def pOpNX (f : D → D → (Sl → Prop) → Prop) (a : PX) (b : PQ) : PN := fun ρ R => a ρ fun x ρ1 => b ρ1 fun y => f x y fun s => R s ρ1
def pgUnl (n : Nat) (b : PGts) : PGt := fun d ρ R => ∃ ds, d = .lst ds ∧ ds.length = n ∧ b ds ρ R
end
/-! walks that never turn straight back, counted (they are kept turned: the end comes first) -/
structure Nbw (ds : List Dr) (p : List Str) : Prop where
  st : ∀ (i : Nat) (x y : Str), p[i]? = some x → p[i + 1]? = some y → y ∈ nb ds x
  bk : ∀ (i : Nat) (x y : Str), p[i]? = some x → p[i + 2]? = some y → x ≠ y
/-- one step on -/
def extW (ds : List Dr) (p : List Str) : List (List Str) :=
  match p with
  | [] => []
  | x :: r => ((nb ds x).filter fun y => decide (r[0]? ≠ some y)).map fun y => y :: x :: r
def wks (ds : List Dr) (a : Str) : Nat → List (List Str)
  | 0 => [[a]]
  | n + 1 => (wks ds a n).flatMap (extW ds)
def NbNd (ds : List Dr) : Prop := ∀ x, (nb ds x).Nodup
/-- so many come to b -/
def Ew (ds : List Dr) (a : Str) (n : Nat) (b : Str) : Nat := (wks ds a n).countP fun p => decide (p[0]? = some b)
/-- so many end with the step x, y -/
def Lw (ds : List Dr) (a : Str) (n : Nat) (x y : Str) : Nat := (wks ds a n).countP fun p => decide (p[0]? = some y ∧ p[1]? = some x)
/-! sums -/
def sumN (xs : List Str) (f : Str → Nat) : Nat := (xs.map f).sum
/-! where no door is spare, one such walk at most -/
/-- none comes back -/
def Noc (ds : List Dr) : Prop := ∀ p x, Nbw ds p → 2 ≤ p.length → fst0 p = some x → lst p = some x → False
section
variable {es : List Dr} {e : Dr}
def Cr (e : Dr) (x y : Str) : Prop := (x = e.1 ∧ y = e.2) ∨ (x = e.2 ∧ y = e.1)
end
/-! words of letters that have an inverse: taken together letter by letter, the last kept first -/
section
variable {α : Type} [DecidableEq α] (inv : α → α)
def lstep (st : List α) (a : α) : List α :=
  match st with
  | [] => [a]
  | b :: r => if b = inv a then r else a :: b :: r
def leanR (w : List α) : List α := w.foldl (lstep inv) []
def Redu (w : List α) : Prop := ∀ (i : Nat) (a b : α), w[i]? = some a → w[i + 1]? = some b → b ≠ inv a
variable {inv}
end
/-! what a walk spells by its spare doors -/
abbrev Ltr := Nat × Bool
def linv (c : Ltr) : Ltr := (c.1, !c.2)
/-- letters of steps: none along the tree -/
structure LtOk (lt : Str → Str → Option Ltr) (es tr : List Dr) : Prop where
  back : ∀ x y, lt y x = (lt x y).map linv
  inj : ∀ {x y u v c}, lt x y = some c → lt u v = some c → x = u ∧ y = v
  tree : ∀ {x y}, y ∈ nb es x → lt x y = none → y ∈ nb tr x
  non : ∀ {x y}, y ∈ nb tr x → lt x y = none
def spl (lt : Str → Str → Option Ltr) : List Str → List Ltr
  | x :: y :: l => (lt x y).toList ++ spl lt (y :: l)
  | _ => []
section
variable {lt : Str → Str → Option Ltr} {es tr : List Dr}
end
/-! the tree and the spare doors: letters by number and way -/
/-- the place of a pair -/
def idxP (p : Dr) : List Dr → Option Nat
  | [] => none
  | e :: r => if e = p then some 0 else (idxP p r).map (· + 1)
theorem idxP_none {p : Dr} : ∀ {sp : List Dr}, idxP p sp = none ↔ p ∉ sp
  | [] => by simp [idxP]
  | e :: r => by
    unfold idxP
    by_cases c : e = p
    · rw [if_pos c]; simp [c]
    · rw [if_neg c, Option.map_eq_none_iff, idxP_none, List.mem_cons]
      constructor
      · rintro h (q | q)
        · exact c q.symm
        · exact h q
      · exact fun h q => h (.inr q)
def ltO (sp : List Dr) (x y : Str) : Option Ltr :=
  match idxP (x, y) sp with
  | some k => some (k, true)
  | none => (idxP (y, x) sp).map fun k => (k, false)
/-! read off: a walk with a given spelling -/
def leanW (w : List Ltr) : List Ltr := (leanR linv w).reverse
section
variable {lt : Str → Str → Option Ltr} {es tr : List Dr}
/-- a walk, by its steps -/
def Stp1 (ds : List Dr) (p : List Str) : Prop := ∀ (i : Nat) (x y : Str), p[i]? = some x → p[i + 1]? = some y → y ∈ nb ds x
end
/-! the spelling of a walk turned; walks that spell nothing -/
section
variable {lt : Str → Str → Option Ltr} {es tr : List Dr}
/-! read off: through the doors in their order, along the tree between them -/
def roAcc (P : Str → Str → List Str) (door : Ltr → Dr) (acc : List Str) (c : Ltr) : List Str := acc ++ (P ((lst acc).getD (door c).1) (door c).1).tail ++ [(door c).2]
end
/-! closed walks that go together have one root, or turned roots -/
section
variable {p q g R : List Str} {x b : Str} {n : Nat}
end
/-! roots of walks that go together; what leads a closed walk to another of its name -/
section
variable {u v o W V : List Str} {x z : Str} {t n d t' n' d' : Nat}
end
/-! closed walks that go together, and their roots -/
section
variable {u v w o f : List Str} {x : Str} {t n d t' n' d' t2 n2 d2 : Nat}
end
/-! how long a walk behind powers of a root is -/
section
variable {p q r L : List Str} {x z : Str} {t n d k : Nat}
/-- how many rooms two lists have alike, from the first on -/
def cm : List Str → List Str → Nat
  | a :: as, b :: bs => if a = b then cm as bs + 1 else 0
  | _, _ => 0
end
/-! all walks that lead a closed walk to another one -/
section
variable {W f L o : List Str} {x z : Str} {t n d k : Nat}
end
/-! walks as keys of a table -/
section
variable {c : Fr} {K : PySem.W.Frag} {G H : Hp} {ta tb : TE} {ta' : TA} {a b : PQ} {ρ : Env}
def ktx (ws : List Str) : List Key := ws.map Sum.inr
/-- a walk that may be a key -/
def tkD (ws : List Str) : D := .tuk (ktx ws)
end
/-! a table of walks -/
def tblW (L : List (List Str)) : List (List Key × D) := L.map fun p => (ktx p, .bl true)
def insW (L : List (List Str)) (p : List Str) : List (List Str) := if p ∈ L then L else L ++ [p]
/-! repr of great numbers -/
/-! dict(pairs), their keys tuples of texts and numbers -/
def mergeKT (kvs : List (List Key × V)) : List (List Key × V) := kvs.foldl (fun acc kv => putK acc kv.1 kv.2) []
def dmergeT (es : List (List Key × D)) : List (List Key × D) := es.foldl (fun acc p => dputT acc p.1 p.2) []
section
variable {X : Cx} {pins : List (Addr × Obj)} {σ : L2.St} {H : Hp} {s : Shared}
theorem KT.is {P : Program} {w : World} {h : Heap} (ok : HOk P w H h) : ∀ {kvs : List (List Key × V)} {xs : List (List Key × Addr × Value)}, KT H kvs xs → ∀ x ∈ xs, (tupleKind (mixKind P w)).is h x.1 x.2.1
  | _, _, .nil, x, hx => nomatch hx
  | _, _, .cons hq t, x, hx => by
    rcases List.mem_cons.mp hx with e | hx
    · subst e
      exact key_of ok (by rw [← hq.1]; exact hq.2.1)
    · exact KT.is ok t x hx
end
def kDictPT (K : PySem.W.Frag) : List V → Hp → VK → Prop := fun xs H Q => ∃ (a : Addr) (ps : List Addr) (kvs : List (List Key × V)), xs = [.ref a] ∧ SqL K H a (ps.map V.ref) ∧ Paired (fun p kv => ∃ b, SqT K H p [.ref b, kv.2] ∧ H b = some (.tup (kv.1.map kV))) ps kvs ∧
    ∀ p, H p = none → Q (.ref p) (upd H p (.dT (mergeKT kvs)))
section
variable {c : Fr} {K : PySem.W.Frag} {G H : Hp}
end
/-! an own error with a field: its facts, off what is written -/
/-! for a, b in a dict by tuples -/
section
variable {c : Fr}
def pgTupK (n : Nat) (b : PGts) : PGt := fun d ρ R => ∃ ks, d = .tuk ks ∧ ks.length = n ∧ b (ks.map kyD) ρ R
end
/-! what is refused: [True, repr(x)]; texts shown are texts that can be written *)-/
/-- it is shown as t -/
def Rpr (x : D) (t : Str) : Prop := ∀ R : D → Prop, R (.str t) → fRepr x R
/-! a lambda without parameters, handed to a def, over data -/
/-- all that is tracked stays, but what stands at P -/
def But (P : Addr) (H H1 : Hp) : Prop := ∀ b o, b ≠ P → H b = some o → H1 b = some o
theorem But.refl {P : Addr} {H : Hp} : But P H H := fun _ _ _ e => e
section
variable {X : Cx} {pins : List (Addr × Obj)} {σ : L2.St} {H : Hp} {s : Shared}
end
/-- the call of what was handed in, in a try -/
def tAct (W : WX) (i : Nat) (f d : Addr) (q : Str) (tl : XK → Hp → VK → Prop) : TE := fun σ H Q => ∃ E : XK, (∀ cls x H', E cls x H' → W cls x σ H') ∧ σ[i]? = some (some (.ref f)) ∧ H d = some (LamX.CodeO d q) ∧ tl E H Q
abbrev lamE (X : Cx) (q : Str) (scope : Scope) (L f d : Addr) : PySem.Env := PySem.W.envX q scope L f (.ref d) (cloFrom X.env.cells scope.names [])
/-- a def of one parameter, handed a thing to be called -/
structure FnL (P : Program) (w : World) (K : PySem.W.Frag) (mg : Str → Option Value) (base : Heap) (k : Nat) (x : Str) (g : Addr) (fd : FuncData) (a : Str) (ps : (XK → Hp → VK → Prop) → Hp → VK → Prop) : Prop where
  ex : ∃ (oc : Value) (od : Option Addr) (pg : Arguments) (bg : List Stmt) (sg : Scope) (dV kV doc pm : Value) (an : Option Addr) (cdv ct : Value) (osl : Array (Option Value)) (Ng : List Str),
    fd = PySem.W.fnOf x x pg bg sg dV kV doc pm an cdv ct ∧ K.lookup g = some ⟨oc, od, .func fd, osl⟩ ∧ PySem.W.codeIn K cdv x = true ∧ FnScope Ng [a] sg ∧ Ng[0]? = some a ∧ Vis sg a ∧
    ∀ (A : Around) (st : List PySem.Env) (f d : Addr) (q : Str) (s : Shared) (H : Hp) (Q : VK) (tl : XK → Hp → VK → Prop), A.guards = some [] → Room k (A.deeper (envOfC x sg s.heap.objs.size g cdv)) → H d = some (LamX.CodeO d q) →
      (∀ (W : WX) (pn : List (Addr × Obj)) (xe : Value → Shared → Prop) (p1 p2 : Pos), Takes ((cxOf C8.CX0 P w K mg base Ng x sg g cdv A st s H C8.E0).tr pn xe) W → PE ((cxOf C8.CX0 P w K mg base Ng x sg g cdv A st s H C8.E0).tr pn xe) (.Call (.Name a p1) [] [] p2) (tAct W 0 f d q tl)) →
      ps tl H Q → ∃ t, PSs (cxOf C8.CX0 P w K mg base Ng x sg g cdv A st s H C8.E0).nox bg t ∧ t { nx := fun _ H' => Q .non H', rt := Q } (L2.start Ng [.ref f]) H
def DfL (P : Program) (w : World) (K : PySem.W.Frag) (mg : Str → Option Value) (base : Heap) (k : Nat) (x a : Str) (ps : (XK → Hp → VK → Prop) → Hp → VK → Prop) : Prop :=
  ∃ g fd, FnL P w K mg base k x g fd a ps ∧ mg x = some (.ref g) ∧ PySem.W.keepIn K (.ref g) = true ∧ L2.Binds K fd [a] []
def tLam (P : Addr) (q : Str) (tt : (XK → Hp → VK → Prop) → Hp → VK → Prop) (t : XK → TE) : TE := fun σ H Q => LamX.TabS H P q ∧ ∀ H1, But P H H1 → LamX.TabS H1 P q → tt (fun E H' Q' => t E σ H' Q') H1 Q
/-! lambdas over data: what is handed in as what it does -/
/-- what a def does with what it is handed to call: A R X, that it gives what R holds of, or raises what X holds of -/
abbrev Does := (D → Prop) → XD → Prop
abbrev APs := Does → (D → Prop) → Prop
def Acts (K : PySem.W.Frag) (G H : Hp) (tl : XK → Hp → VK → Prop) (A : Does) : Prop := ∀ (G' H' : Hp) (E : XK) (R' : D → Prop) (X : XD) (Q' : VK), Stp M0 G H G' H' → A R' X →
  (∀ d v G2 H2, R' d → Stp M0 G' H' G2 H2 → Rp K G2 v d → Q' v H2) → (∀ C fs od G2 H2, X C fs → Stp M0 G' H' G2 H2 → ExRp K G2 od fs → E (.ref C) od H2) → tl E H' Q'
def spA (K : PySem.W.Frag) (ps : APs) : (XK → Hp → VK → Prop) → Hp → VK → Prop := fun tl H Q => ∃ G A R, Same G H ∧ ps A R ∧ Acts K G H tl A ∧ ∀ d v G' H', R d → Stp M0 G H G' H' → Rp K G' v d → Q v H'
section
variable {c : Fr} {G H G' H' : Hp} {ρ : Env} {σ : L2.St}
/-- the slots that are known -/
def knS : Sl → Sl
  | .v d => .v d
  | _ => .un
def kn : Env → Env := List.map knS
theorem kn_own {s : Sl} : (knS s).own = false := by cases s <;> rfl
theorem kn_get {i : Nat} {t : Sl} (e : (kn ρ)[i]? = some t) : t.own = false := by
  unfold kn at e
  rw [List.getElem?_map] at e
  cases h : ρ[i]? with
  | none => rw [h] at e; cases e
  | some s => rw [h] at e; cases e; exact kn_own
theorem paired_kn {R : Sl → Option V → Prop} (hu : ∀ x, R .un x) : ∀ {ρ : Env} {σ : L2.St}, Paired R ρ σ → Paired R (kn ρ) σ
  | _, _, .nil => .nil
  | _, _, .cons (a := s) h t => .cons (by cases s <;> first | exact h | exact hu _) (paired_kn hu t)
/-- seen by what was handed out -/
theorem Sta.seen (s : Sta c G H ρ σ) : Sta ⟨c.P, c.w, c.K, MN H, G, H, []⟩ G H (kn ρ) σ := by
  refine Sta.begin s.gh (paired_kn (fun _ => trivial) (paired_map s.sl fun i t x _ _ ok => ?_)) (fun i t x a e1 e2 o => ?_) (fun i j t u x y a _ e1 e2 e3 e4 o1 o2 => ?_)
  · cases t <;> exact ok
  · have := o.1; rw [kn_get e1] at this; cases this
  · have := o1.1; rw [kn_get e1] at this; cases this
/-- a table has grown -/
theorem Sta.grown {P : Addr} {q : Str} {H1 : Hp} (s : Sta c G H ρ σ) (hT : (P, q) ∈ c.T) (hM : c.M P) (hu : ∀ p ∈ c.T, p.1 = P → p.2 = q) (b : But P H H1) (t1 : LamX.TabS H1 P q) : Mv c σ G H ρ G H1 ρ := by
  obtain ⟨n0, gP, ps, hP, _⟩ := s.tb _ hT
  have t : Stp (M1 P) G H G H1 := ⟨fun a o n e => b a o n e, Same.refl G, fun a o e => b a o (fun z => by rw [z, gP] at e; cases e) (s.gh a o e), fun _ _ _ => .inl rfl, fun a o e => by
    by_cases z : a = P
    · obtain ⟨ps', h', _⟩ := t1
      exact ⟨_, by rw [z]; exact h'⟩
    · exact ⟨o, b a o z e⟩⟩
  have own : ∀ i s' x a, ρ[i]? = some s' → σ[i]? = some x → Own s' x a → a ≠ P := fun i s' x a e1 e2 o z => by
    obtain ⟨x', f, ok⟩ := s.get e1
    rw [e2] at f
    cases f
    rw [z] at o
    exact (ok.plain o.1 o.2 hP).1 ps rfl
  refine ⟨⟨s.st.inner t fun a m => .inl (by rw [show a = P from m]; exact hM), paired_map s.sl fun i s' x e1 e2 ok => ok.stp t fun a o => own i s' x a e1 e2 o, s.nw, s.ds, fun p cm => ?_⟩, Same.refl G, fun _ h => h, fun a o e _ nt => b a o (fun z => by rw [z, hP] at e; exact nt ps (Option.some.inj e).symm) e, fun _ _ _ _ => .inl rfl, t.th⟩
  obtain ⟨m0, gp, ps', h1, h2, h3⟩ := s.tb p cm
  refine ⟨m0, gp, ?_⟩
  by_cases z : p.1 = P
  · rw [z, hu p cm z]; exact t1
  · refine ⟨ps', b _ _ z h1, h2, fun pos cv hc => ?_⟩
    obtain ⟨d, e1, e2⟩ := h3 pos cv hc
    exact ⟨d, e1, b _ _ (fun z => by rw [z, hP] at e2; cases e2) e2⟩
def pLam (ps : APs) (pb : HX → PQ) : PX := fun ρ R => ps (fun R' X => pb (fun C fs _ => X C fs) (kn ρ) R') fun d => R d ρ
/-- a() in a try -/
def pAct (i : Nat) (f : Addr) (A : Does) (hx : HX) : PQ := fun ρ R => ρ[i]? = some (.v (.fn f)) ∧ A R fun C fs => hx C fs ρ
end
section
variable {P : Program} {w : World} {K : PySem.W.Frag} {mg : Str → Option Value} {base : Heap} {H : Hp}
end
/-! the end of a law that makes lambdas -/
abbrev lawQ : Str := "law.<locals>." ++ "<lambda>"
/-- the script, and the law's own table -/
def tabH (P a : Addr) (x : Option HO) : Hp := fun b => if b = P then some (.tbl #[]) else if b = a then x else none
section
variable {P : Program} {w : World} {K : PySem.W.Frag} {mg mb : Str → Option Value} {CX : CXT} {k : Nat} {fa a c T : Addr} {fd : FuncData} {x : Str} {sp : Sp} {s₁ : Shared} {vs : List Value}
end
/-! ### the law's own def -/
def MT (H : Hp) (T : Addr) : Addr → Prop := fun a => H a = none ∨ a = T
def spLawT (K : PySem.W.Frag) (T : Addr) : Sp := fun vs H Q _ => ∃ (G : Hp) (ns : List Int), Same G H ∧ Rps K G vs [.lst (ns.map D.int)] ∧ ns.length ≤ 63 ∧ G T = none ∧ H T = some (.tbl #[]) ∧ ∀ H', Q (.bl true) H'
section
variable {P : Program} {w : World} {K : PySem.W.Frag} {mg : Str → Option Value} {base : Heap} {H : Hp}
end
/-! == and != of instances whose class has its own __eq__ (and object's __ne__), over data -/
namespace NeO
section
variable {prog : Program} {w : World} {A : Around} {E : Value → Shared → Prop} {s : Shared} {K : PySem.W.Frag} {x C f : Addr} {ox : Obj} {od : Option Obj} {b : Value}
end
end NeO
/-- two instances of one class, by its own == -/
def rOwn (C : Addr) (neg : Bool) (sp : Sp) : R2 := fun x y H Q => ∃ a dx fs b dy gs, x = .ref a ∧ y = .ref b ∧ H a = some (.ins C dx fs) ∧ H b = some (.ins C dy gs) ∧ sp [x, y] H (fun v H' => ∃ t, v = .bl t ∧ Q (.bl (if neg then !t else t)) H') fun _ _ _ => False
section
variable {X : Cx} {K : PySem.W.Frag} {C : Addr} {sp : Sp} {k k' : Nat} {ps : List Str}
end
def fOwn (C : Addr) (neg : Bool) (ps : List D → (D → Prop) → Prop) : D → D → (D → Prop) → Prop := fun x y R => ∃ fs gs, x = .obj C fs ∧ y = .obj C gs ∧ ps [x, y] fun d => ∃ t, d = .bl t ∧ R (.bl (if neg then !t else t))
/-- isinstance of an own class -/
structure InsK (K : PySem.W.Frag) (C : Addr) : Prop where
  cl : Cls K C
  ca : PySem.W.findIn K (.ref C) "__class__" = some (some (.builtin "object.__class__"))
  gs : PySem.W.specialIn K (.builtin "object.__class__") "__get__" = some (some (.builtin "getset_descriptor.__get__"))
  tk : PySem.W.takesIn K (.builtin "object.__class__") = some true
  mr : PySem.W.mroIn K C (.type "object") = some true
  ic : PySem.W.isClsIn K C = true
  ty : PySem.W.typeIn K (.ref C) = some (.type "type")
def fIsiC (C : Addr) : D → (D → Prop) → Prop := fun x R => (∃ fs, x = .obj C fs ∧ R (.bl true)) ∨ (∃ m, x.tyn = some m ∧ R (.bl false))
/-! texts in capitals; an empty dict among things of any kind: repr, `in` a tuple of texts -/
section
variable {c : Fr} {te : TE} {a : PQ}
def pUpper (a : PQ) : PQ := fun ρ R => a ρ fun d => ∃ z, d = .str z ∧ z.length ≤ 5592405 ∧ R (.str (Txt.upper z))
theorem q_upper (h : RQ c te a) : RQ c (tM0 (fun x xs H Q => ∃ a, x = .str a ∧ xs = [] ∧ a.length ≤ 5592405 ∧ Q (.str (Txt.upper a)) H) te) (pUpper a) := ⟨fun s q k => h.run s q fun d v G1 H1 ⟨z, e, hl, q1⟩ t1 r1 => by
  subst e
  rw [r1.str_inv]
  exact ⟨⟨z, rfl⟩, z, rfl, rfl, hl, k _ _ _ _ q1 t1 (.str _)⟩⟩
theorem p_upper {ρ : Env} {R : D → Prop} (h : a ρ fun d => ∃ z, d = .str z ∧ z.length ≤ 5592405 ∧ R (.str (Txt.upper z))) : pUpper a ρ R := h
end
/-! letters -/
theorem upper_letter : ∀ c ∈ List.range 26, Unicode.upperOf (c + 97) = [c + 65] := by decide +kernel
theorem upper_cps {z : Str} (h : NmOk z) : (Txt.upper z).cps.toList = z.cps.toList.map (· - 32) := by
  have e : (Txt.upper z).cps = placed z fun _ c => Unicode.upperOf c := rfl
  rw [e]
  unfold placed
  have key : ∀ l : List Nat, (∀ c ∈ l, 97 ≤ c ∧ c ≤ 122) → l.flatMap (fun c => Unicode.upperOf c) = l.map (· - 32) := by
    intro l
    induction l with
    | nil => intro _; rfl
    | cons c l ih =>
      intro hl
      have hc := hl c List.mem_cons_self
      have h1 := upper_letter (c - 97) (List.mem_range.mpr (by omega))
      rw [show c - 97 + 97 = c by omega, show c - 97 + 65 = c - 32 by omega] at h1
      rw [List.flatMap_cons, h1, ih fun d hd => hl d (List.mem_cons_of_mem _ hd), List.map_cons]
      rfl
  rw [← key z.cps.toList h.2.2]
  simp only [Array.toList_flatten, List.flatMap_def, Array.toList_map, Array.toList_mapIdx]
  congr 1
  rw [List.mapIdx_eq_zipIdx_map]
  apply List.ext_getElem?
  intro i
  simp only [List.getElem?_map, List.getElem?_zipIdx]
  cases z.cps.toList[i]? <;> simp
theorem upper_len {z : Str} (h : NmOk z) : (Txt.upper z).length = z.length := by
  have h1 := congrArg List.length (upper_cps h)
  unfold Str.length
  simpa using h1
theorem upper_sok {z : Str} (h : NmOk z) : SOk (Txt.upper z) := by
  show (Txt.upper z).cps.all (· < 0x110000) = true
  rw [← Array.all_toList, upper_cps h, List.all_eq_true]
  intro c hc
  obtain ⟨d, hd, rfl⟩ := List.mem_map.mp hc
  have := h.2.2 d hd
  exact decide_eq_true (by omega)
/-! things of any kind -/
section
variable {X : Cx} {pins : List (Addr × Obj)} {σ : L2.St} {H : Hp} {s : Shared} {K : PySem.W.Frag}
theorem reads_dE (I : Inv X pins σ H s) {a : Addr} (h : L2.Rd H a (.dK [])) : Reads s.heap (.ref a) (.dict []) (a :: [] ++ []) ∧ sysModules ∉ (a :: [] ++ []) := by
  obtain ⟨_, hsys, vs, kv, o, es, ep, ho, hx, hd, hk, hp, hn⟩ := dk_rd I.hok h
  cases kv
  have e : es.toList = [] := by cases h : es.toList with
    | nil => rfl
    | cons x xs => rw [h] at hp; cases hp
  refine ⟨Reads.dict ho hx.1 hd (by rw [e]; exact ReadsAll.nil) (by rw [e]; exact ReadsAll.nil), fun h => ?_⟩
  have h' : sysModules = a := by simpa using h
  rw [h'] at hsys
  simp at hsys
theorem str_eq_dict (b : Str) (u : Tok) (l : Addr) (c : Value) (es : Array DictEntry) (n : Nat) (dd : Option Addr) (sl : Array (Option Value)) :
    Meets (Builtin.«str.__eq__» ⟨[.str b u, .ref l], []⟩) (fun _ R s => s.heap.get? l = some { cls := c, dict := dd, data := .dict es n, slots := sl } ∧ R (.ok (.ret .notImplemented)) s) :=
  .of_wp fun prog w A R s h => by obtain ⟨hp, g, d, tk, os⟩ := s; obtain ⟨hl, h⟩ := h; wp_walk using wpAny_loadPart' hl, wpAny_load hl; exact ⟨_, rfl, h⟩
theorem dict_eq_str {M : Program} {w : World} {A : Around} {E : Value → Shared → Prop} {Q : Value → Shared → Prop} {a : Addr} (b : Str) (u : Tok) (da : s.TypeIs (.ref a) "dict") (hq : Q .notImplemented s) : wpAny (model M w) A (call (.builtin "dict.__eq__") [.ref a, .str b u]) Q E s := by
  refine wpAny_call_entry PySem.F.slot_dict_eq da PySem.F.entry_dict_eq ?_ (PySem.F.args_dict_eq_2 _ _)
  show wpAny _ _ (Builtin.Dict.dictSlotArgs "__eq__" ⟨[.ref a, .str b u], []⟩ >>= _) _ _ s
  refine wpAny_bind ?_
  unfold Builtin.Dict.dictSlotArgs
  refine wpAny_bind (wpAny_notOrdered_dict da ?_)
  show wpAny _ _ (pure (Value.ref a, Value.str b u)) _ _ s
  refine wpAny_pure ?_
  refine wpAny_bind (wpAny_isInstance (T := "str") (typeIs_str _ _ _) PySem.F.sub_str_dict ?_)
  rw [if_pos (by decide)]
  exact wpAny_bind (wpAny_rule (wpAny_pure ⟨_, rfl, hq⟩))
theorem eqAt_str_dict {A : Around} {l : Addr} {o : Obj} {es : Array DictEntry} {n : Nat} (b : Str) (u : Tok) (ho : s.heap.get? l = some o) (hc : o.cls = .type "dict") (hd : o.data = .dict es n) (hu : A.units < cLine) : SeqAt.EqAt A s (.str b u) (.ref l) false := fun prog w E Q h => by
  obtain ⟨cls, dd, data, sl⟩ := o
  simp only at hc hd
  subst hc hd
  unfold eqBool
  refine wpAny_holding ?_
  refine wpAny_ite_split (fun hab => absurd (eq_of_beq hab) nofun) (fun _ => ?_)
  refine wpAny_bind (SeqAt.rc_eq_decline_or (k := false) (typeIs_str s b u) ⟨_, ho, rfl⟩ (by decide) F.sub_dict_str F.slot_str_eq F.slot_dict_eq_refl
    (fun _ hq => PySem.call_meets F.slot_str_eq (typeIs_str s b u) F.entry_str_eq (F.args_str_eq_2 _ _) (str_eq_dict b u l (.type "dict") es n dd sl) ⟨ho, hq⟩)
    (fun _ hq => dict_eq_str b u ⟨_, ho, rfl⟩ hq)
    (fun _ hq => wpAny_of_eq (rfl : isSame (.str b u) (.ref l) = pure false) hq) (.inr hu) (wpAny_truthy_bool h))
theorem vals_strs : ∀ {zs : List Str} {us : List Value}, Vals (zs.map V.str) us → ∀ u ∈ us, ∃ b t, u = .str b t
  | [], _, .nil, u, hu => by cases hu
  | z :: zs, _, .cons r t, u, hu => by
    rcases List.mem_cons.mp hu with e | hu
    · subst e
      obtain ⟨tk, rfl⟩ := r
      exact ⟨_, _, rfl⟩
    · exact vals_strs t u hu
def rInTE (K : PySem.W.Frag) : R2 := fun x y H Q => (rInTD K x y H Q) ∨ ∃ (a p : Addr) (zs : List Str), x = .ref a ∧ L2.Rd H a (.dK []) ∧ y = .ref p ∧ SqT K H p (zs.map V.str) ∧ Q (.bl false) H
theorem op_inTE (hu : X.A.units + 65 < cLine) : OpR X (compareOp .In) (rInTE X.K) := by
  intro pins s σ H x y v u Q I rx ry h
  rcases h with h | ⟨a, p, zs, rfl, hd, rfl, hp, q⟩
  · exact op_inTD hu pins s σ H x y v u Q I rx ry h
  · cases rx
    cases ry
    obtain ⟨_, hsys, vs, kv, o, es, ep, ho, hx, hdd, _⟩ := dk_rd I.hok hd
    obtain ⟨its, rv, ht, _⟩ := I.tuple hp
    refine SeqAt.in_tupleAt (fun _ => false) ht (fun y hy => ?_) ?_
    · obtain ⟨b, t, rfl⟩ := vals_strs rv y (by simpa using hy)
      exact eqAt_str_dict b t ho hx.1 hdd (by show X.A.units + 1 < cLine; omega)
    · rw [show its.toArray.any (fun _ => false) = false by rw [Array.any_eq_false]; intro i hi; simp]
      exact ⟨.bl false, H, I, rfl, q⟩
theorem k_op_inTE (e : X.K = K) (hu : X.A.units + 65 < cLine) : OpR X (compareOp .In) (rInTE K) := by subst e; exact op_inTE hu
def kReprE (K : PySem.W.Frag) : List V → Hp → VK → Prop := fun xs H Q => ∃ (x : V) (d : PyData), xs = [x] ∧ ((Dp K H x d ∧ d.showable = true ∧ d.hasDict = false ∧ d.depth ≤ 40 ∧ d.shown.length ≤ sizeLine) ∨ ∃ a, x = .ref a ∧ L2.Rd H a (.dK []) ∧ d = .dict []) ∧ Q (.str d.shown) H
theorem k_reprE (e : X.K = K) (gd : X.A.guards = some []) (hu : X.A.units + 64 < cLine) : CallR X (.builtin "repr") (kReprE K) := by
  subst e
  intro pins s σ H xs us Q I r h
  obtain ⟨x, d, rfl, h, q⟩ := h
  rcases h with ⟨h1, h2, h3, h4, h5⟩ | ⟨a, rfl, h, rfl⟩
  · exact call_reprV gd hu pins s σ H [x] us Q I r ⟨x, d, rfl, h1, h2, h3, h4, h5, q⟩
  · rw [Vals.ref1 r]
    obtain ⟨h1, h2⟩ := reads_dE I h
    have hdep : PyData.depth (.dict []) ≤ 2 := by decide +kernel
    exact repr_of_reads' h1 (by rfl) (fun _ => h2) gd (by omega) (fun _ _ e => e) (fun h' u tk hk => ⟨.str _, H, I.kept (t' := tk) hk, ⟨_, rfl⟩, q⟩) (by decide +kernel)
end
section
variable {K : PySem.W.Frag} {G H : Hp} {v : V} {d : D}
def fInTE : D → D → (D → Prop) → Prop := fun x y R => fInTD x y R ∨ ∃ zs : List Str, x = .dct [] ∧ Tp y (zs.map D.str) ∧ R (.bl false)
theorem oq_inTE : OQ K (rInTE K) fInTE := ⟨fun gs hx hy h k => by
  rcases h with h | ⟨zs, rfl, t, q⟩
  · exact .inl (oq_inTD.run gs hx hy h k)
  · obtain ⟨a, kvs, rfl, h1, h2⟩ := hx.dct gs
    cases h2
    obtain ⟨p, vs, rfl, _, h3, h4⟩ := hy.tp t gs
    rw [h4.strs_inv] at h3
    exact .inr ⟨a, p, zs, rfl, .inl h1, rfl, h3, k _ _ _ _ q (Stp.refl gs) (.bl _)⟩⟩
theorem p_inTE {x y : D} {d : PyData} {zs : List Str} {R : D → Prop} (hx : (Py x d ∧ SeqAt.shaped d = true) ∨ (x = .dct [] ∧ anyEq zs d = false)) (hy : Tp y (zs.map D.str)) (hz : ∀ z ∈ zs, SOk z) (q : R (.bl (anyEq zs d))) : fInTE x y R := by
  rcases hx with ⟨hx, hp⟩ | ⟨rfl, e⟩
  · exact .inl (p_inTD hx hy hp hz q)
  · rw [e] at q
    exact .inr ⟨zs, rfl, hy, q⟩
def fReprE : D → (D → Prop) → Prop := fun x R => fRepr x R ∨ (x = .dct [] ∧ R (.str (PyData.shown (.dict []))))
theorem cq_reprE : CQ K (kReprE K) fReprE := ⟨fun gs hx h k => by
  rcases h with ⟨d, p, h1, h2, h3, h4, q⟩ | ⟨rfl, q⟩
  · exact ⟨_, d, rfl, .inl ⟨hx.dp p gs, h1, h2, h3, h4⟩, k _ _ _ _ q (Stp.refl gs) (.str _)⟩
  · obtain ⟨a, kvs, rfl, h1, h2⟩ := hx.dct gs
    cases h2
    exact ⟨_, .dict [], rfl, .inr ⟨a, rfl, .inl h1, rfl⟩, k _ _ _ _ q (Stp.refl gs) (.str _)⟩⟩
end
/-- it is shown as t -/
def RprE (x : D) (t : Str) : Prop := ∀ R : D → Prop, R (.str t) → fReprE x R
theorem Rpr.e {x : D} {t : Str} (h : Rpr x t) : RprE x t := fun R q => .inl (h R q)
/-- none of these texts, and how it is shown -/
def NoNm (rs : List Str) (x : D) : Prop := ∃ d t, ((Py x d ∧ SeqAt.shaped d = true) ∨ (x = .dct [] ∧ anyEq rs d = false)) ∧ anyEq rs d = false ∧ RprE x t ∧ SOk t
/-! x + y, both asked for: a new list *)-/
section
variable {c : Fr}
def pOpNXX (f : D → D → (Sl → Prop) → Prop) (a b : PX) : PN := fun ρ R => a ρ fun x ρ1 => b ρ1 fun y ρ2 => f x y fun s => R s ρ2
theorem nx_opX {r : R2} {f : D → D → (Sl → Prop) → Prop} {ta tb : TE} {a b : PX} (o : ON c r f) (ha : RX c ta a) (hb : RX c tb b) : RNX c (tOp r ta tb) (pOpNXX f a b) :=
  ⟨fun s q k => ha.run s q fun x ρ1 v G1 H1 q1 m1 r1 => hb.run m1.s q1 fun y ρ2 u G2 H2 q2 m2 r2 =>
    o.run m2.s.gh (.inl (r1.same m2.g)) (.inl r2) q2 fun z w G3 H3 q3 t3 r3 ow hn => k z ρ2 w G3 H3 q3 ((m1.trans m2).stp t3) r3 ow ((m1.trans m2).free hn)⟩
theorem p_opNXX {f : D → D → (Sl → Prop) → Prop} {a b : PX} {ρ : Env} {R : Sl → Env → Prop} (h : a ρ fun x ρ1 => b ρ1 fun y ρ2 => f x y fun s => R s ρ2) : pOpNXX f a b ρ R := h
end
/-! repr of a tuple of texts and empty dicts -/
/-- texts and empty dicts -/
inductive SeD : List D → List PyData → Prop
  | nil : SeD [] []
  | str (z : Str) {ds : List D} {es : List PyData} : SeD ds es → SeD (.str z :: ds) (.str z :: es)
  | dct {ds : List D} {es : List PyData} : SeD ds es → SeD (.dct [] :: ds) (.dict [] :: es)
inductive Sv (H : Hp) : List V → List PyData → Prop
  | nil : Sv H [] []
  | str (z : Str) {vs : List V} {es : List PyData} : Sv H vs es → Sv H (.str z :: vs) (.str z :: es)
  | dct {a : Addr} {vs : List V} {es : List PyData} : L2.Rd H a (.dK []) → Sv H vs es → Sv H (.ref a :: vs) (.dict [] :: es)
section
variable {X : Cx} {pins : List (Addr × Obj)} {σ : L2.St} {H : Hp} {s : Shared} {K : PySem.W.Frag}
theorem Sv.reads (I : Inv X pins σ H s) : ∀ {vs : List V} {es : List PyData} {us : List Value}, Sv H vs es → Vals vs us → ∃ as, ReadsAll s.heap us es as ∧ sysModules ∉ as
  | _, _, _, .nil, r => by
    cases r
    exact ⟨_, ReadsAll.nil, fun h => by cases h⟩
  | _, _, _, .str z h, r => by
    cases r with
    | cons r1 r2 =>
      obtain ⟨t, rfl⟩ := r1
      obtain ⟨as, q1, q2⟩ := h.reads I r2
      exact ⟨_, ReadsAll.cons (Reads.str z t) q1, by simpa using q2⟩
  | _, _, _, .dct hd h, r => by
    cases r with
    | cons r1 r2 =>
      cases r1
      obtain ⟨as, q1, q2⟩ := h.reads I r2
      obtain ⟨p1, p2⟩ := reads_dE I hd
      exact ⟨_, ReadsAll.cons p1 q1, fun h => by
        rcases List.mem_append.mp h with h | h
        · exact p2 h
        · exact q2 h⟩
def kReprT (K : PySem.W.Frag) : List V → Hp → VK → Prop := fun xs H Q => kReprE K xs H Q ∨ ∃ (a : Addr) (vs : List V) (es : List PyData), xs = [.ref a] ∧ SqT K H a vs ∧ Sv H vs es ∧ (PyData.tuple es).showable = true ∧ (PyData.tuple es).depth ≤ 40 ∧ (PyData.tuple es).shown.length ≤ sizeLine ∧ Q (.str (PyData.tuple es).shown) H
theorem k_reprT (e : X.K = K) (gd : X.A.guards = some []) (hu : X.A.units + 64 < cLine) : CallR X (.builtin "repr") (kReprT K) := by
  intro pins s σ H xs us Q I r h
  rcases h with h | ⟨a, vs, es, rfl, ht, hs, h1, h2, h3, q⟩
  · exact k_reprE e gd hu pins s σ H xs us Q I r h
  · subst e
    rw [Vals.ref1 r]
    obtain ⟨its, rv, ⟨o, ho, hc, n, hd⟩, _⟩ := I.tuple ht
    obtain ⟨as, p1, p2⟩ := hs.reads I rv
    exact repr_of_reads' (Reads.tuple ho hc hd p1) h1 (fun _ => p2) gd (by omega) (fun _ _ e => e) (fun h' u tk hk => ⟨.str _, H, I.kept (t' := tk) hk, ⟨_, rfl⟩, q⟩) h3
end
section
variable {K : PySem.W.Frag} {G H : Hp} {v : V} {d : D}
def fReprT : D → (D → Prop) → Prop := fun x R => fReprE x R ∨ ∃ ds es, x = .tup ds ∧ SeD ds es ∧ (PyData.tuple es).showable = true ∧ (PyData.tuple es).depth ≤ 40 ∧ (PyData.tuple es).shown.length ≤ sizeLine ∧ R (.str (PyData.tuple es).shown)
theorem SeD.sv {ds : List D} {es : List PyData} (h : SeD ds es) : ∀ {vs : List V}, Rps K G vs ds → L2.Same G H → Sv H vs es := by
  induction h with
  | nil =>
    intro vs r gs
    cases r
    exact .nil
  | str z h ih =>
    intro vs r gs
    cases r with
    | cons r1 r2 =>
      rw [r1.str_inv]
      exact .str z (ih r2 gs)
  | dct h ih =>
    intro vs r gs
    cases r with
    | cons r1 r2 =>
      obtain ⟨a, kvs, rfl, h1, h2⟩ := r1.dct_inv
      cases h2
      exact .dct (.inl (gs _ _ h1)) (ih r2 gs)
theorem cq_reprT : CQ K (kReprT K) fReprT := ⟨fun gs hx h k => by
  rcases h with h | ⟨ds, es, rfl, hs, h1, h2, h3, q⟩
  · exact .inl (cq_reprE.run gs hx h k)
  · obtain ⟨p, vs, rfl, _, h4, h5⟩ := hx.tp (.inl rfl) gs
    exact .inr ⟨p, vs, es, rfl, h4, hs.sv h5 gs, h1, h2, h3, k _ _ _ _ q (Stp.refl gs) (.str _)⟩⟩
end
/-- it is shown as t, anything -/
def RprT (x : D) (t : Str) : Prop := ∀ R : D → Prop, R (.str t) → fReprT x R
theorem SeD.leaves {ds : List D} {es : List PyData} (h : SeD ds es) (hz : ∀ z, D.str z ∈ ds → NmOk z) : PyData.leavesShortAll 13 es = true ∧ PyData.showableAll es = true ∧ PyData.weightAll es ≤ 9 * ds.length ∧ PyData.depthAll es ≤ 1 := by
  induction h with
  | nil => exact ⟨rfl, rfl, Nat.le_refl _, Nat.zero_le _⟩
  | str z h ih =>
    obtain ⟨a, b, c, d⟩ := ih fun y hy => hz y (List.mem_cons_of_mem _ hy)
    have hs := Shw.str (hz z List.mem_cons_self)
    have hl := PyData.leavesShort_of_canLay0 13 _ hs.lay hs.it
    refine ⟨?_, ?_, ?_, ?_⟩
    · simp only [PyData.leavesShortAll, hl, a, Bool.and_self]
    · simp only [PyData.showableAll, hs.sh, b, Bool.and_self]
    · have := hs.wt
      simp only [PyData.weightAll, List.length_cons]
      omega
    · have := hs.dp
      simp only [PyData.depthAll]
      omega
  | dct h ih =>
    obtain ⟨a, b, c, d⟩ := ih fun y hy => hz y (List.mem_cons_of_mem _ hy)
    refine ⟨?_, ?_, ?_, ?_⟩
    · simp only [PyData.leavesShortAll, a, Bool.and_true]
      decide +kernel
    · simp only [PyData.showableAll, b, Bool.and_true]
      decide +kernel
    · have e : (PyData.dict []).weight = 0 := by decide +kernel
      simp only [PyData.weightAll, List.length_cons, e]
      omega
    · have e : (PyData.dict []).depth ≤ 1 := by decide +kernel
      simp only [PyData.depthAll]
      omega
theorem rprT_se {ds : List D} {es : List PyData} (h : SeD ds es) (hz : ∀ z, D.str z ∈ ds → NmOk z) (hl : ds.length ≤ 10000) : RprT (.tup ds) (PyData.tuple es).shown := by
  obtain ⟨a, b, c, d⟩ := h.leaves hz
  refine fun R q => .inr ⟨ds, es, rfl, h, by simp only [PyData.showable]; exact b, by simp only [PyData.depth]; omega, ?_, q⟩
  have h2 := PyData.shown_le 13 (by decide) (.tuple es) (by simp only [PyData.leavesShort]; exact a)
  have e2 : sizeLine = 16777216 := by decide
  have e3 : (PyData.tuple es).weight = PyData.weightAll es := by simp only [PyData.weight]
  rw [e3] at h2
  omega
/-! lists of unlike lengths are unlike *)-/
section
variable {X : Cx} {K : PySem.W.Frag}
def rNeL (K : PySem.W.Frag) : R2 := fun x y H Q => rNeD K x y H Q ∨ ∃ (a b : Addr) (xs ys : List V), x = .ref a ∧ y = .ref b ∧ SqL K H a xs ∧ SqL K H b ys ∧ xs.length ≠ ys.length ∧ Q (.bl true) H
theorem k_op_neL (e : X.K = K) (hu : X.A.units + 64 < cLine) : OpR X (compareOp .NotEq) (rNeL K) := by
  intro pins s σ H x y v u Q I rx ry h
  subst e
  rcases h with h | ⟨a, b, xs, ys, rfl, rfl, h1, h2, hl, q⟩
  · exact op_neD hu pins s σ H x y v u Q I rx ry h
  · cases rx
    cases ry
    obtain ⟨its, rv, ⟨o, n, ho, hc, _, hd⟩, _⟩ := I.list h1
    obtain ⟨jts, rw_, ⟨o2, n2, ho2, hc2, _, hd2⟩, _⟩ := I.list h2
    refine SeqAt.RcNeAt.lists_lengths (items := its.toArray) (items2 := jts.toArray) ⟨o, ho, hc, n, hd⟩ ⟨o2, ho2, hc2, n2, hd2⟩ ?_ (by omega) _ _ _ _ ⟨.bl true, H, I, rfl, q⟩
    have e1 := rv.length
    have e2 := rw_.length
    simp only [List.size_toArray, bne_iff_ne, ne_eq]
    omega
def fNeL : D → D → (D → Prop) → Prop := fun x y R => fEqD true x y R ∨ ∃ ds es, x = .lst ds ∧ y = .lst es ∧ ds.length ≠ es.length ∧ R (.bl true)
theorem oq_neL : OQ K (rNeL K) fNeL := ⟨fun gs hx hy h k => by
  rcases h with h | ⟨ds, es, rfl, rfl, hl, q⟩
  · exact .inl (oq_neD.run gs hx hy h k)
  · obtain ⟨a, vs, rfl, h1, r1⟩ := hx.lst gs
    obtain ⟨b, us, rfl, h2, r2⟩ := hy.lst gs
    exact .inr ⟨a, b, vs, us, rfl, rfl, h1, h2, by rw [r1.len, r2.len]; exact hl, k _ _ _ _ q (Stp.refl gs) (.bl _)⟩⟩
end
/-! for x in zip(a, b), x a name: the pair that the zip keeps may be held, let go, or gone -/
open PySem PySem.Spec PyProof.Rows
/-- a zip, whatever pair it keeps -/
def ZB (h : Heap) (z TI TO : Addr) (x : Value) (b : Bool) : Prop := h.get? z = some { cls := .type "zip", dict := none, data := .fields #[x, .bool b, .bool false, .ref TI, .ref TO], slots := #[] }
section
variable {prog : Program} {w : World} {A : Around} {E : Value → Shared → Prop} {s : Shared} {z TI TO i1 i2 : Addr} {fp1 fp2 : List Addr} {n1 n2 i : Nat} {P1 P2 : Nat → Value → Prop} {St1 St2 : Nat → Heap → Prop} {b : Bool} {x : Value} {a1 a2 : Value}
/-- no pair is kept, or it is gone -/
def Gone (h : Heap) (x : Value) : Prop := x = .none ∨ ∃ T : Addr, x = rawInt T ∧ h.get? T = none
/-- the zip in any of its states -/
def ZAny (h : Heap) (z TI TO : Addr) : Prop := ∃ x b, (x = .none ∨ ∃ T : Addr, x = rawInt T) ∧ ZB h z TI TO x b
end
open L2 RZ
def iZipN (K : PySem.W.Frag) (ta : TA) : TI := fun σ H R => ta σ H fun vs H1 => ∃ a b xs ys, vs = [.ref a, .ref b] ∧ SqT K H1 a xs ∧ SqT K H1 b ys ∧ R (ItzT K a b) H1
section
variable {c : Fr}
end
/-! letters as pairs of numbers; the table of signs; a walk's steps; taking letters together, one by one -/
def wayI (b : Bool) : Int := if b = true then 1 else -1
def lD (c : Ltr) : D := .tup [.int (c.1 : Int), .int (wayI c.2)]
def lPy (c : Ltr) : PyData := .tuple [.int (c.1 : Int), .int (wayI c.2)]
/-! the table of signs -/
theorem idxP_snoc (p e : Dr) : ∀ ys : List Dr, idxP p (ys ++ [e]) = if p ∈ ys then idxP p ys else if e = p then some ys.length else none
  | [] => by simp [idxP]
  | y :: ys => by
    have ih := idxP_snoc p e ys
    rw [List.cons_append]
    unfold idxP
    by_cases h : y = p
    · rw [if_pos h, if_pos h, if_pos (by rw [h]; exact List.mem_cons_self)]
    · rw [if_neg h, if_neg h, ih]
      by_cases m : p ∈ ys
      · rw [if_pos m, if_pos (List.mem_cons_of_mem _ m)]
      · rw [if_neg m, if_neg (fun z => (List.mem_cons.mp z).elim (fun e => h e.symm) m)]
        by_cases c : e = p
        · rw [if_pos c, if_pos c]
          rfl
        · rw [if_neg c, if_neg c]
          rfl
theorem ltO_snoc {ys : List Dr} {e : Dr} (h1 : e ∉ ys) (h2 : (e.2, e.1) ∉ ys) (h3 : e.1 ≠ e.2) (x y : Str) :
    ltO (ys ++ [e]) x y = if (x, y) = (e.2, e.1) then some (ys.length, false) else if (x, y) = e then some (ys.length, true) else ltO ys x y := by
  have hne : (e.2, e.1) ≠ e := fun q => h3 (Prod.ext_iff.mp q).2
  unfold ltO
  rw [idxP_snoc, idxP_snoc]
  by_cases c1 : (x, y) = (e.2, e.1)
  · rw [if_pos c1]
    have hx : (x, y) ∉ ys := by rw [c1]; exact h2
    have hyx : (y, x) = e := by
      have := Prod.ext_iff.mp c1
      exact Prod.ext this.2 this.1
    rw [if_neg hx, if_neg (fun q => hne (by rw [← c1]; exact q.symm))]
    dsimp only
    rw [if_neg (by rw [hyx]; exact h1), if_pos hyx.symm]
    rfl
  · rw [if_neg c1]
    by_cases c2 : (x, y) = e
    · rw [if_pos c2, if_neg (by rw [c2]; exact h1), if_pos c2.symm]
    · rw [if_neg c2]
      have hyx : ¬ e = (y, x) := fun q => c1 (by rw [q])
      have e1 : (if (x, y) ∈ ys then idxP (x, y) ys else if e = (x, y) then some ys.length else none) = idxP (x, y) ys := by
        by_cases m : (x, y) ∈ ys
        · rw [if_pos m]
        · rw [if_neg m, if_neg (fun q => c2 q.symm), idxP_none.mpr m]
      have e2 : (if (y, x) ∈ ys then idxP (y, x) ys else if e = (y, x) then some ys.length else none) = idxP (y, x) ys := by
        by_cases m : (y, x) ∈ ys
        · rw [if_pos m]
        · rw [if_neg m, if_neg hyx, idxP_none.mpr m]
      rw [e1, e2]
/-- the table tells the letters -/
def SgOk (T : List (List Key × D)) (ys : List Dr) : Prop := ∀ x y, dvalT T (kyP (x, y)) = (ltO ys x y).map lD
theorem SgOk.nil : SgOk [] [] := fun x y => rfl
theorem SgOk.snoc {T : List (List Key × D)} {ys : List Dr} {e : Dr} (h : SgOk T ys) (h1 : e ∉ ys) (h2 : (e.2, e.1) ∉ ys) (h3 : e.1 ≠ e.2) : SgOk (dputT (dputT T (kyP e) (lD (ys.length, true))) (kyP (e.2, e.1)) (lD (ys.length, false))) (ys ++ [e]) := fun x y => by
  rw [dvalT_put, dvalT_put, ltO_snoc h1 h2 h3]
  by_cases c1 : (x, y) = (e.2, e.1)
  · rw [if_pos (by rw [c1]), if_pos c1]
    rfl
  · rw [if_neg (fun q => c1 (kyP_inj q)), if_neg c1]
    by_cases c2 : (x, y) = e
    · rw [if_pos (by rw [c2]), if_pos c2]
      rfl
    · rw [if_neg (fun q => c2 (kyP_inj q)), if_neg c2]
      exact h x y
/-! a walk's steps -/
def prsOf : List Str → List Dr
  | x :: y :: l => (x, y) :: prsOf (y :: l)
  | _ => []
/-! letter by letter -/
theorem pys_ints : ∀ xs : List Int, Pys (xs.map D.int) (xs.map PyData.int)
  | [] => .nil
  | a :: r => .cons (.int a) (pys_ints r)
theorem p_eqIs {neg : Bool} {a b : List Int} {x y : D} {R : D → Prop} (hx : x = .lst (a.map D.int)) (hy : y = .lst (b.map D.int)) (q : R (.bl (if neg then !decide (a = b) else decide (a = b)))) : fEqD neg x y R := by
  subst hx hy
  exact ⟨_, _, .lst (pys_ints a), .lst (pys_ints b), sh_ints a, sh_ints b, by rw [show PyData.eqv (.list (a.map PyData.int)) (.list (b.map PyData.int)) = decide (a = b) by rw [PyData.eqv, eqv_ints]]; exact q⟩
/-! the text -/
def topS (i : Nat) : Stmt := PySem.Challenge.pw_tautropes_k04_walks_or_not.main.body.getD i (.Pass ⟨0, 0, 0, 0⟩)
local macro_rules | `(tactic| walk_at "u1") => `(tactic| first
  | with_reducible refine r_seq ?_ | with_reducible refine r_asg ?_ | with_reducible refine r_gname ?_ | with_reducible refine r_ret ?_ | with_reducible refine r_drop ?_ | with_reducible refine r_if ?_
  | with_reducible refine r_par ?_ | with_reducible refine r_par' ?_ | with_reducible refine r_par3 ?_ | with_reducible refine r_par3' ?_ | with_reducible refine r_next ?_
  | ((with_reducible refine' r_var ?h ?_); (case h => rfl))
  | with_reducible refine r_c ?_ | with_reducible refine r_op ?_ | with_reducible refine r_un ?_ | with_reducible refine r_cb ?_ | with_reducible refine r_call ?_ | with_reducible refine r_cons ?_ | with_reducible refine r_nil ?_
  | with_reducible refine r_tup ?_ | with_reducible refine r_lst ?_ | with_reducible refine r_ifx ?_ | with_reducible refine r_sl ?_ | with_reducible refine r_nopart ?_ | with_reducible refine r_part ?_
  | with_reducible refine r_int ?_ | with_reducible refine r_bool ?_ | with_reducible refine r_test ?_ | with_reducible refine r_tb ?_ | with_reducible refine r_and ?_ | with_reducible refine r_or ?_ | with_reducible refine r_not ?_
  | with_reducible refine r_andv ?_ | with_reducible refine r_orv ?_ | with_reducible refine r_notv ?_ | with_reducible refine r_yes ?_ | with_reducible refine r_dget ?_ | with_reducible refine r_bm0 ?_ | with_reducible refine r_bm ?_ | with_reducible refine r_revT ?_
  | with_reducible refine r_I0 ?_ | with_reducible refine r_U ?_
  | ((with_reducible refine r_eq ?h ?_); (case h => rfl)) | ((with_reducible refine r_ne ?h ?_); (case h => rfl))
  | ((with_reducible refine iteT ?_)) | ((with_reducible refine iteF ?_)))
local macro_rules | `(tactic| walk_at "go") => `(tactic| ((try dsimp only); repeat (walk_at "u1"; (try dsimp only))))
local macro_rules | `(tactic| walk_at "u1") => `(tactic| first
  | with_reducible refine r_forT ?_ | with_reducible refine r_forL ?_ | with_reducible refine r_forR1 ?_ | with_reducible refine r_forR2 ?_ | with_reducible refine r_lcT ?_ | with_reducible refine r_lcL ?_ | with_reducible refine r_lcR1 ?_ | with_reducible refine r_lcR2 ?_)
local macro_rules | `(tactic| walk_at "go0") => `(tactic| ((try dsimp only [cxOf]); walk_at "go"))
local macro_rules | `(tactic| walk_at "gs") => `(tactic| first
  | exact L2.Same.refl _ | assumption
  | (refine L2.Same.trans ?_ (Stp.gh (by assumption)); walk_at "gs")
  | (refine L2.Same.trans ?_ (Stp.gg (by assumption)); walk_at "gs"))
local macro_rules | `(tactic| walk_at "sq") => `(tactic| first
  | assumption | exact lof (by assumption) | exact tof (by assumption)
  | (refine L2.Same.seq ?_ (by assumption); walk_at "gs") | (refine Same.sqt ?_ (by assumption); walk_at "gs")
  | (refine L2.Same.seq ?_ (lof (by assumption)); walk_at "gs") | (refine Same.sqt ?_ (tof (by assumption)); walk_at "gs"))
local macro_rules | `(tactic| walk_at "u1") => `(tactic| first
  | ((with_reducible refine' c_len (Or.inl ?h) ?_); (case h => walk_at "sq")) | ((with_reducible refine' c_len (Or.inr ?h) ?_); (case h => walk_at "sq"))
  | ((with_reducible refine' c_lenS ?h ?_); (case h => assumption)) | with_reducible refine c_abs ?_ | with_reducible refine c_max ?_ | with_reducible refine c_min ?_ | with_reducible refine c_intI ?_ | with_reducible refine c_intB ?_)
local macro_rules | `(tactic| walk_at "hp") => `(tactic| first | assumption | exact upd_same)
local macro_rules | `(tactic| walk_at "u1") => `(tactic| first
  | ((with_reducible refine' c_meth ?h ?_); (case h => walk_at "hp")))
local macro_rules | `(tactic| walk_at "dg") => `(tactic| first | exact pen_cells (by walk_at "hp") | exact pen_at (by walk_at "hp") | exact pen_left (by walk_at "hp"))
local macro_rules | `(tactic| walk_at "cond") => `(tactic| first
  | (show (0 : Int) < _; (try simp only [List.length_map]); omega) | (show (0 : Int) < _ ∧ _; (try simp only [List.length_map]); omega) | exact ⟨by decide, by decide, by decide⟩ | exact Or.inl ⟨by omega, by omega⟩ | exact Or.inr ⟨by omega, by omega⟩)
local macro_rules | `(tactic| walk_at "u1") => `(tactic| first
  | ((with_reducible refine' r_dget' ?h ?_); (case h => walk_at "dg")) | ((with_reducible refine' r_I ?h ?_); (case h => walk_at "cond")) | with_reducible refine r_dput ?_
  | ((with_reducible refine' r_put ?h ?_); (case h => first | exact pen_putAt (by walk_at "hp") _ | exact pen_putLeft (by walk_at "hp") _)))
local macro_rules | `(tactic| walk_at "u1") => `(tactic| first
  | with_reducible refine r_m1 ?_ | with_reducible refine r_m1s ?_ | with_reducible refine r_tupF ?_ | with_reducible refine r_bmF ?_)
local macro_rules | `(tactic| walk_at "kn") => `(tactic| first | assumption | (refine Pen.stp0 ?_ (by assumption); walk_at "kn"))
local macro_rules | `(tactic| walk_at "u1") => `(tactic| first
  | with_reducible refine r_pcons ?_ | with_reducible refine r_pnil ?_ | with_reducible refine r_disp ?_)
local macro_rules | `(tactic| walk_at "u1") => `(tactic| first
  | with_reducible refine r_gcons ?_ | with_reducible refine r_gnil ?_)
local macro_rules | `(tactic| walk_at "u1") => `(tactic| first
  | with_reducible refine iteN1 ?_ | with_reducible refine iteN2 ?_)
local macro_rules | `(tactic| walk_at "u1") => `(tactic| first
  | with_reducible refine r_revQ ?_)
local macro_rules | `(tactic| walk_at "u1") => `(tactic| first
  | with_reducible refine r_callS ?_)
local macro_rules | `(tactic| walk_at "u1") => `(tactic| first
  | with_reducible refine r_fld ?_ | with_reducible refine r_sfld ?_ | with_reducible refine r_meth ?_ | with_reducible refine r_make ?_ | with_reducible refine r_saddK ?_ | with_reducible refine r_saddT ?_)

structure Mgs (mg : Str → Option Value) : Prop where
  enumerate : mg "enumerate" = none
  len : mg "len" = none
  range : mg "range" = none
  list_ : mg "list" = none
  tuple_ : mg "tuple" = none
  abs : mg "abs" = none
  max : mg "max" = none
  min : mg "min" = none
  sorted : mg "sorted" = none
  isinstance : mg "isinstance" = none
  int_ : mg "int" = none
  ValueError_ : mg "ValueError" = none
  bool_ : mg "bool" = none
  str_ : mg "str" = none
  dict_ : mg "dict" = none
  repr : mg "repr" = none
  zip : mg "zip" = none
  any : mg "any" = none
  all : mg "all" = none
  sum : mg "sum" = none
  set_ : mg "set" = none
abbrev sPen : Stmt := topS 21
theorem scPen : FnScope ["_law_script"] ["_law_script"] (defScope sPen) := ⟨rfl, rfl, rfl, by decide +kernel, rfl, by decide +kernel, by decide +kernel⟩
abbrev sDraw : Stmt := topS 22
theorem scDraw : FnScope ["_law_pen_here", "_law_many", "_law_digit", "_law_at", "_law_cell", "_law_blend"] ["_law_pen_here", "_law_many"] (defScope sDraw) := ⟨rfl, rfl, rfl, by decide +kernel, rfl, by decide +kernel, by decide +kernel⟩
abbrev sPick : Stmt := topS 23
theorem scPick : FnScope ["_law_pen_here", "_law_some"] ["_law_pen_here", "_law_some"] (defScope sPick) := ⟨rfl, rfl, rfl, by decide +kernel, rfl, by decide +kernel, by decide +kernel⟩
def spDraw (K : PySem.W.Frag) : Sp := fun vs H Q _ => ∃ (p : Addr) (i : Int) (m n : Nat) (G : Hp), vs = [.ref p, .int i] ∧ Same G H ∧ Pen K G p n H ∧ n < 2 ^ 40 ∧ i = (m : Int) ∧ 1 ≤ m ∧ m < 2 ^ 30 ∧
  ∀ (d : Nat) H', d < m → Stp (M1 p) G H G H' → Pen K G p (n + 1) H' → Q (.int (d : Int)) H'
abbrev DDraw (P : Program) (w : World) (K : PySem.W.Frag) (mg : Str → Option Value) (base : Heap) : Prop := Df P w K mg base CX0 1 "_law_draw" ["_law_pen_here", "_law_many"] (spDraw K)
section
variable {P : Program} {w : World} {K : PySem.W.Frag} {mg : Str → Option Value} {base : Heap}
theorem ok_Draw {f : Addr} {fd : FuncData} (F : Fun K "_law_draw" "_law_draw" sDraw f fd) (M : Mgs mg) : FnOk P w K mg base CX0 1 f fd ["_law_pen_here", "_law_many"] (spDraw K) := by
  refine F.ok scDraw (fun vs H Q E h => ?_) (fun cdv A outer s H vs Q E hr h => ?_)
  · obtain ⟨p, i, m, n, G, rfl, _⟩ := h
    rfl
  · obtain ⟨p, i, m, n, G, rfl, g0, hp, hn, rfl, hm, hm2, q⟩ := h
    have hu := hu_of hr
    have hu64 := hu64_of hr
    obtain ⟨gp, c, ns, a, l, hc, hl, ha, hH⟩ := hp
    refine ⟨_, ((pss_cons (ps_if (pt_cmpR op_gt (pe_dget hu (pv 0) pe_str (fun _ _ => rfl)) pe_int (nomark _))
    (pss_cons (ps_set (i := 2) scDraw.nd rfl (Or.inl rfl) (pe_op op_mod (pe_dget hu (pv 0) pe_str (fun _ _ => rfl)) (pv 1)))
    (pss_cons (ps_dput hu (pv 0) pe_str (pe_op op_fdiv (pe_dget hu (pv 0) pe_str (fun _ _ => rfl)) (pv 1)) rfl)
    (pss_one (ps_ret (pv 2)))))
    pss_nil)
    (pss_cons (ps_set (i := 3) scDraw.nd rfl (Or.inl rfl) (pe_dget hu (pv 0) pe_str (fun _ _ => rfl)))
    (pss_cons (ps_dput hu (pv 0) pe_str (pe_op op_add (pv 3) pe_int) rfl)
    (pss_cons (ps_set (i := 4) scDraw.nd rfl (Or.inl rfl) (pe_op op_add (pe_op op_mul pe_int (pv 3)) pe_int))
    (pss_cons (ps_if (pt_cmpR (k_op_neD (K := K) rfl hu64) (pe_dget hu (pv 0) pe_str (fun _ _ => rfl)) (pe_lst pa_nil) (nomark _))
    (pss_one (ps_set (i := 4) scDraw.nd rfl (Or.inl rfl) (pe_ix (k_ix_list (K := K) rfl) (pe_dget hu (pv 0) pe_str (fun _ _ => rfl)) (pe_op op_mod (pv 3) (pe_callB (k_len (K := K) rfl) (by rfl) M.len PySem.boot_len (pa_cons (pe_dget hu (pv 0) pe_str (fun _ _ => rfl)) pa_nil))) (fun _ _ => rfl))))
    pss_nil)
    (pss_cons (ps_if (PW.pt (pw_and (pt_cmpR op_lt (pv 3) (pe_callB (k_len (K := K) rfl) (by rfl) M.len PySem.boot_len (pa_cons (pe_dget hu (pv 0) pe_str (fun _ _ => rfl)) pa_nil)) (nomark _)) (pw_and1 (pt_cmpR op_ge (pe_callB call_absK (by rfl) M.abs (by decide +kernel) (pa_cons (pv 4) pa_nil)) (pe_op op_pow pe_int pe_int) (nomark _)))))
    (pss_cons (ps_dput hu (pv 0) pe_str (pe_op op_fdiv (pe_op op_sub (pe_callB call_absK (by rfl) M.abs (by decide +kernel) (pa_cons (pv 4) pa_nil)) (pe_op op_pow pe_int pe_int)) (pv 1)) rfl)
    (pss_one (ps_ret (pe_op op_mod (pe_op op_sub (pe_callB call_absK (by rfl) M.abs (by decide +kernel) (pa_cons (pv 4) pa_nil)) (pe_op op_pow pe_int pe_int)) (pv 1)))))
    pss_nil)
    (pss_cons (ps_set (i := 5) scDraw.nd rfl (Or.inl rfl) (pe_op op_mod (pe_op op_add (pe_op op_add (pe_op op_add (pe_op op_mul (pe_op op_mod (pv 4) pe_int) pe_int) (pe_op op_mul (pe_op op_mul pe_int (pv 3)) (pv 3))) (pe_op op_mul pe_int (pv 3))) pe_int) pe_int))
    (pss_cons (ps_set (i := 5) scDraw.nd rfl (Or.inl rfl) (pe_op op_mod (pe_op op_add (pe_op op_add (pe_op op_add (pe_op op_mul (pv 5) (pv 5)) (pe_op op_mul pe_int (pv 5))) (pe_op op_mul pe_int (pv 3))) pe_int) pe_int))
    (pss_one (ps_ret (pe_op op_mod (pe_op op_fdiv (pe_op op_mod (pe_op op_mul (pv 5) (pe_op op_add (pv 5) pe_int)) pe_int) pe_int) (pv 1))))))))))))), ?_⟩
    walk_at "go0"
    refine ifD (fun c1 => ?_) (fun c1 => ?_)
    · walk_at "go"
      obtain ⟨d, e, hd⟩ := mod_nat (i := l) hm
      rw [e]
      exact q d _ hd (Stp.mut g0 hH gp rfl) ⟨gp, c, ns, a, _, hc, hl, Nat.le_succ_of_le ha, upd_same⟩
    · walk_at "go"
      have s1 : Stp (M1 p) G H G (upd H p (penO c (a + 1) l)) := Stp.mut g0 hH gp rfl
      have h1 : (upd H p (penO c (a + 1) l)) p = some (penO c (a + 1) l) := upd_same
      generalize upd H p (penO c (a + 1) l) = H1 at s1 h1 ⊢
      have hc1 : SqL K H1 c (ns.map V.int) := s1.gh.seq hc
      refine ⟨Nat.zero_le _, fun z nz => ?_⟩
      have s2 : Stp (M1 p) G H G (upd H1 z (.lst [])) := s1.trans (Stp.newM s1.gh nz)
      have h2 : (upd H1 z (.lst [])) p = some (penO c (a + 1) l) := by rw [upd_ne (ne_of_none h1 nz)]; exact h1
      have hz : (upd H1 z (.lst [])) z = some (.lst (([] : List Int).map V.int)) := upd_same
      have hc2 : SqL K (upd H1 z (.lst [])) c (ns.map V.int) := (same_new nz).seq hc1
      generalize upd H1 z (.lst []) = H2 at s2 h2 hz hc2 ⊢
      refine r_neII hc2 (lof hz) ?_
      have fin : ∀ d : Nat, d < m → Q (.int (d : Int)) H2 := fun d hd => q d H2 hd s2 ⟨gp, c, ns, a + 1, l, hc, hl, Nat.succ_le_succ ha, h2⟩
      have fin2 : ∀ (d : Nat) (j : Int), d < m → Q (.int (d : Int)) (upd H2 p (penO c (a + 1) j)) := fun d j hd => q d _ hd (s2.trans (Stp.mut s2.gh h2 gp rfl)) ⟨gp, c, ns, a + 1, j, hc, hl, Nat.succ_le_succ ha, upd_same⟩
      walk_at "go"
      refine ifND (fun c2 => ?_) (fun c2 => ?_)
      · have hpos : 1 ≤ ns.length := by
          cases ns with
          | nil => exact absurd rfl c2
          | cons x r => simp
        obtain ⟨d0, e0, hd0⟩ := mod_nat (i := (a : Int)) hpos
        walk_at "go"
        rw [List.length_map, e0]
        refine r_ixL' hc2 rfl (v := .int ns[d0]) (by rw [List.getElem?_map, List.getElem?_eq_getElem hd0]; rfl) ?_
        generalize ns[d0] = cell
        walk_at "go"
        refine ifD (fun c3 => ?_) (fun c3 => ?_)
        · walk_at "go"
          refine ifD (fun c4 => ?_) (fun c4 => ?_)
          · walk_at "go"
            exact mod_q (Q := fun v => Q v _) hm (fun d hd => fin2 d _ hd)
          · walk_at "go"
            exact mod_q (Q := fun v => Q v _) hm fin
        · walk_at "go"
          exact mod_q (Q := fun v => Q v _) hm fin
      · walk_at "go"
        generalize (23 * (a : Int) + 7) = cell
        walk_at "go"
        refine ifD (fun c3 => ?_) (fun c3 => ?_)
        · walk_at "go"
          refine ifD (fun c4 => ?_) (fun c4 => ?_)
          · walk_at "go"
            exact mod_q (Q := fun v => Q v _) hm (fun d hd => fin2 d _ hd)
          · walk_at "go"
            exact mod_q (Q := fun v => Q v _) hm fin
        · walk_at "go"
          exact mod_q (Q := fun v => Q v _) hm fin
end
section
variable {P : Program} {w : World} {K : PySem.W.Frag} {mg : Str → Option Value} {base : Heap}
theorem use_draw {G H : Hp} {p : Addr} {i : Int} {m n : Nat} {Q : VK} {E : XK} (g0 : Same G H) (hp : Pen K G p n H) (hn : n < 2 ^ 40) (e : i = (m : Int)) (h1 : 1 ≤ m) (h2 : m < 2 ^ 30)
    (q : ∀ (d : Nat) H', d < m → Stp (M1 p) G H G H' → Pen K G p (n + 1) H' → Q (.int (d : Int)) H') : spDraw K [.ref p, .int i] H Q E := ⟨p, i, m, n, G, rfl, g0, hp, hn, e, h1, h2, q⟩
def spPick (K : PySem.W.Frag) : Sp := fun vs H Q _ => ∃ (p : Addr) (src : V) (items : List V) (n : Nat) (G : Hp), vs = [.ref p, src] ∧ Same G H ∧ Pen K G p n H ∧ n < 2 ^ 40 ∧ Src K G src items ∧ 1 ≤ items.length ∧ items.length < 2 ^ 30 ∧
  ∀ (d : Nat) x H', items[d]? = some x → Stp (M1 p) G H G H' → Pen K G p (n + 1) H' → Q x H'
abbrev DPick (P : Program) (w : World) (K : PySem.W.Frag) (mg : Str → Option Value) (base : Heap) : Prop := Df P w K mg base CX0 2 "_law_pick" ["_law_pen_here", "_law_some"] (spPick K)
theorem use_pick {G H : Hp} {p : Addr} {src : V} {items : List V} {n : Nat} {Q : VK} {E : XK} (g0 : Same G H) (hp : Pen K G p n H) (hn : n < 2 ^ 40) (hs : Src K G src items) (h1 : 1 ≤ items.length) (h2 : items.length < 2 ^ 30)
    (q : ∀ (d : Nat) x H', items[d]? = some x → Stp (M1 p) G H G H' → Pen K G p (n + 1) H' → Q x H') : spPick K [.ref p, src] H Q E := ⟨p, src, items, n, G, rfl, g0, hp, hn, hs, h1, h2, q⟩
theorem ok_Pick {f : Addr} {fd : FuncData} (F : Fun K "_law_pick" "_law_pick" sPick f fd) (M : Mgs mg) (D_draw : DDraw P w K mg base) : FnOk P w K mg base CX0 2 f fd ["_law_pen_here", "_law_some"] (spPick K) := by
  refine F.ok scPick (fun vs H Q E h => ?_) (fun cdv A outer s H vs Q E hr h => ?_)
  · obtain ⟨p, src, items, n, G, rfl, _⟩ := h
    rfl
  · obtain ⟨p, src, items, n, G, rfl, g0, hp, hn, hs, h1, h2, q⟩ := h
    refine ⟨_, ((pss_one (ps_ret (pe_ix (k_ix_seq (K := K) rfl) (pv 1) (pe_df D_draw hr (by rfl) pass0 (pa_cons (pv 0) (pa_cons (pe_callB (k_lenQ (K := K) rfl) (by rfl) M.len PySem.boot_len (pa_cons (pv 1) pa_nil)) pa_nil))) (fun _ _ => rfl))))), ?_⟩
    walk_at "go0"
    refine c_lenQ (Src.len (hs.same g0)) ?_
    walk_at "go"
    refine use_draw g0 hp hn rfl h1 h2 (fun d H' hd s1 hp1 => ?_)
    walk_at "go"
    exact Src.at (hs.same s1.gh) (List.getElem?_eq_getElem hd) (q d _ _ (List.getElem?_eq_getElem hd) s1 hp1)
def spPen (K : PySem.W.Frag) : Sp := fun vs H Q _ => ∃ (a : Addr) (ns : List Int) (G : Hp), vs = [.ref a] ∧ Same G H ∧ SqL K G a (ns.map V.int) ∧ ns.length ≤ 63 ∧
  ∀ p G' H', Stp M0 G H G' H' → Pen K G' p 0 H' → H p = none → Q (.ref p) H'
abbrev DPen (P : Program) (w : World) (K : PySem.W.Frag) (mg : Str → Option Value) (base : Heap) : Prop := Df P w K mg base CX0 1 "_law_pen" ["_law_script"] (spPen K)
theorem ok_Pen {f : Addr} {fd : FuncData} (F : Fun K "_law_pen" "_law_pen" sPen f fd) (M : Mgs mg) : FnOk P w K mg base CX0 1 f fd ["_law_script"] (spPen K) := by
  refine F.ok scPen (fun vs H Q E h => ?_) (fun cdv A outer s H vs Q E hr h => ?_)
  · obtain ⟨a, ns, G, rfl, _⟩ := h
    rfl
  · obtain ⟨a, ns, G, rfl, g0, hS, hl, q⟩ := h
    refine ⟨_, ((pss_one (ps_ret (pe_disp (pps_cons pe_str (pe_callTy (k_list (K := K) rfl) (by rfl) M.list_ (by decide +kernel) (pa_cons (pe_slice (k_sl_list (K := K) rfl) (pv 0) po_none (po_some pe_int)) pa_nil)) (pps_cons pe_str pe_int (pps_cons pe_str pe_int pps_nil))) (by rfl) (by rfl) (fun z => by cases z) (by decide))))), ?_⟩
    walk_at "go0"
    intro p np
    walk_at "go"
    have n0 : ∀ b, b ≠ p → (upd H p (.dK [])) b = H b := fun b hb => upd_ne hb
    have s1 : Stp M0 G H G (upd H p (.dK [])) := Stp.newM g0 np
    have hp1 : (upd H p (.dK [])) p = some (.dK []) := upd_same
    generalize upd H p (.dK []) = H1 at s1 hp1 ⊢
    refine r_slL (s1.gh.seq hS) (fun l nl => ?_)
    have e1 : cutV (ns.map V.int) none (some 63) = ns.map V.int := by
      unfold cutV
      rw [show (some (63 : Int)) = some ((63 : Nat) : Int) from rfl, HT.sIx_nat, HT.sIx_none, List.drop_zero, List.length_map, Nat.sub_zero]
      exact List.take_of_length_le (by rw [List.length_map]; omega)
    rw [e1]
    walk_at "go"
    have s2 : Stp M0 G H G (upd H1 l (.lst (ns.map V.int))) := s1.trans (Stp.newM s1.gh nl)
    have hl2 : (upd H1 l (.lst (ns.map V.int))) l = some (.lst (ns.map V.int)) := upd_same
    have hp2 : (upd H1 l (.lst (ns.map V.int))) p = some (.dK []) := by rw [upd_ne (ne_of_none hp1 nl)]; exact hp1
    generalize upd H1 l (.lst (ns.map V.int)) = H2 at s2 hl2 hp2 ⊢
    refine c_list (.inl (lof hl2)) (fun k nk => ?_)
    have s3 : Stp M0 G H (upd G k (.lst (ns.map V.int))) (upd H2 k (.lst (ns.map V.int))) := s2.trans (Stp.new s2.gh nk)
    have hp3 : (upd H2 k (.lst (ns.map V.int))) p = some (.dK []) := by rw [upd_ne (ne_of_none hp2 nk)]; exact hp2
    have hk : (upd G k (.lst (ns.map V.int))) k = some (.lst (ns.map V.int)) := upd_same
    have gp : (upd G k (.lst (ns.map V.int))) p = none := by rw [upd_ne (ne_of_none hp2 nk)]; exact none_of g0 np
    generalize upd H2 k (.lst (ns.map V.int)) = H3 at s3 hp3 ⊢
    generalize upd G k (.lst (ns.map V.int)) = G3 at s3 hk gp ⊢
    walk_at "go"
    refine ⟨hp3, [(.inr "cells", .ref k), (.inr "at", .int 0), (.inr "left", .int 0)], rfl, (by show 3 ≤ 15; decide), ?_⟩
    rw [merge3 (by decide +kernel) (by decide +kernel) (by decide +kernel)]
    exact q p G3 _ (s3.inner (M' := M1 p) (Stp.mut s3.gh hp3 gp rfl) (fun a e => .inr (by rw [e]; exact np))) ⟨gp, k, ns, 0, 0, lof hk, hl, Nat.le_refl 0, upd_same⟩ np
end
abbrev sNames : Stmt := topS 25
theorem scNames : FnScope ["_law_pen_here", "_law_many", "_law_letters", "_law_base", "_law_at", "_law_begin", "_law_short", "_law_by", "_law_found", "_law_some", "_law_k", "_law_tail"] ["_law_pen_here", "_law_many"] (defScope sNames) := ⟨rfl, rfl, rfl, by decide +kernel, rfl, by decide +kernel, by decide +kernel⟩
section
variable {P : Program} {w : World} {K : PySem.W.Frag} {mg : Str → Option Value} {base : Heap}
def letters : Str := "abcdefghijklmnopqrstuvwxyz"
theorem letters_ok : ∀ c ∈ letters.cps.toList, 97 ≤ c ∧ c ≤ 122 := by decide +kernel
theorem letters_len : letters.cps.toList.length = 26 := by decide +kernel
def wordsT : Str := "room door folk rope post at acts go tie cut free a ab abc b ba ro roo rooms c ca cab z"
def wordsL : List Str := ["room", "door", "folk", "rope", "post", "at", "acts", "go", "tie", "cut", "free", "a", "ab", "abc", "b", "ba", "ro", "roo", "rooms", "c", "ca", "cab", "z"]
theorem words_eq : Txt.split wordsT " " = wordsL := by decide +kernel
instance (z : Str) : Decidable (NmOk z) := inferInstanceAs (Decidable (_ ∧ _ ∧ _))
theorem words_ok : ∀ z ∈ wordsL, NmOk z := by decide +kernel
def bysL : List Int := [1, 3, 5, 7, 9, 11, 15, 17, 19, 21, 23, 25]
theorem bys_ok : ∀ b ∈ bysL, 0 < b ∧ b < 26 := by decide
theorem words_nd : wordsL.Nodup := by decide +kernel
theorem letters_nd : letters.cps.toList.Nodup := by decide +kernel
theorem nodup_by {α β : Type} {ws : List α} (f : Nat → β) (g : α → β) (h : ∀ j z, ws[j]? = some z → g z = f j) (inj : ∀ j k, j < k → k < ws.length → f j ≠ f k) : ws.Nodup := by
  rw [List.Nodup, List.pairwise_iff_getElem]
  intro i j hi hj hij e
  refine inj i j hij hj ?_
  rw [← h i _ (List.getElem?_eq_getElem hi), ← h j _ (List.getElem?_eq_getElem hj), e]
theorem nd_get {α : Type} {l : List α} (h : l.Nodup) {i j : Nat} (hi : i < l.length) (e : l[i]? = l[j]?) : i = j := (List.getElem?_inj hi h).mp e
def fW (d2 : Nat) (j : Nat) : Option Str := wordsL[(((d2 : Int) + 5 * (j : Int)) % 23).toNat]?
def fL (d2 : Nat) (b : Int) (j : Nat) : Option Nat := letters.cps.toList[(((d2 : Int) + b * (j : Int)) % 26).toNat]?
theorem fW_inj (d2 j k : Nat) (h : j < k) (hk : k < 21) : fW d2 j ≠ fW d2 k := fun e => by
  have hl : wordsL.length = 23 := rfl
  have := nd_get words_nd (by rw [hl]; omega) e
  omega
theorem fL_inj (d2 : Nat) (b : Int) (hb : b ∈ bysL) (j k : Nat) (h : j < k) (hk : k < 21) : fL d2 b j ≠ fL d2 b k := fun e => by
  have hl := letters_len
  have e2 := nd_get letters_nd (by rw [hl]; omega) e
  simp only [bysL, List.mem_cons, List.not_mem_nil, or_false] at hb
  rcases hb with rfl | rfl | rfl | rfl | rfl | rfl | rfl | rfl | rfl | rfl | rfl | rfl <;> omega
def qNames : List Str := ["q", "qq", "qqq", "qqqq"]
/-- one of the four that is none of the names -/
def HasStr (ns : List Str) : Prop := ∃ z ∈ qNames, z ∉ ns
theorem words_noq : ("q" : Str) ∉ wordsL := by decide +kernel
theorem fW_str {d2 : Nat} {ns : List Str} (h : ∀ j z, ns[j]? = some z → some z = fW d2 j) : HasStr ns := ⟨"q", by simp [qNames], fun hm => by
  obtain ⟨j, hj, e⟩ := List.getElem_of_mem hm
  have h2 := h j _ (List.getElem?_eq_getElem hj)
  rw [e] at h2
  exact words_noq (List.mem_of_getElem? (l := wordsL) (show fW d2 j = some "q" from h2.symm))⟩
theorem q_sign : ∀ z ∈ qNames, ∀ (d : Nat) (c : Nat), z.cps.toList[d]? = some c → c = 113 := by
  have h : ∀ z ∈ qNames, ∀ c ∈ z.cps.toList, c = 113 := by decide +kernel
  exact fun z hz d c e => h z hz c (List.mem_of_getElem? e)
theorem fL_str {d1 d2 : Nat} {b : Int} (hb : b ∈ bysL) {ns : List Str} (hl : ns.length ≤ 20) (hn : ns.Nodup) (h : ∀ j z, ns[j]? = some z → z.cps.toList[d1]? = fL d2 b j) : HasStr ns := by
  refine Classical.byContradiction fun hc => ?_
  have hall : ∀ z ∈ qNames, z ∈ ns := fun z hz => Classical.byContradiction fun hm => hc ⟨z, hz, hm⟩
  have hf : ∀ z ∈ qNames, ∃ j, j < 20 ∧ ns[j]? = some z ∧ fL d2 b j = some 113 := fun z hz => by
    obtain ⟨j, hj, e⟩ := List.getElem_of_mem (hall z hz)
    have e1 : ns[j]? = some z := by rw [List.getElem?_eq_getElem hj, e]
    have h2 := h j z e1
    have hs : (fL d2 b j).isSome = true := by
      unfold fL
      rw [List.getElem?_eq_getElem (by rw [letters_len]; omega)]
      rfl
    obtain ⟨c, hc2⟩ := Option.isSome_iff_exists.mp hs
    rw [hc2] at h2
    have := q_sign z hz d1 c h2
    subst this
    exact ⟨j, by omega, e1, hc2⟩
  obtain ⟨j, hj, e1, e2⟩ := hf "q" (by simp [qNames])
  obtain ⟨k, hk, e3, e4⟩ := hf "qq" (by simp [qNames])
  have hjk : j = k := by
    rcases Nat.lt_trichotomy j k with h1 | h1 | h1
    · exact absurd (e2.trans e4.symm) (fL_inj d2 b hb j k h1 (by omega))
    · exact h1
    · exact absurd (e4.trans e2.symm) (fL_inj d2 b hb k j h1 (by omega))
  rw [hjk, e3] at e1
  exact absurd (Option.some.inj e1) (by decide +kernel)
def spNames (K : PySem.W.Frag) : Sp := fun vs H Q _ => ∃ (p : Addr) (i : Int) (m n : Nat) (G : Hp), vs = [.ref p, .int i] ∧ Same G H ∧ Pen K G p n H ∧ n + 100 < 2 ^ 40 ∧ i = (m : Int) ∧ m ≤ 20 ∧
  ∀ r (ns : List Str) G' H', Stp (M1 p) G H G' H' → Pen K G' p (n + 20) H' → SqL K G' r (ns.map V.str) → ns.length = m → (∀ z ∈ ns, NmOk z) → ns.Nodup → HasStr ns → Q (.ref r) H'
abbrev DNames (P : Program) (w : World) (K : PySem.W.Frag) (mg : Str → Option Value) (base : Heap) : Prop := Df P w K mg base CX0 3 "_law_names" ["_law_pen_here", "_law_many"] (spNames K)
theorem ok_Names {f : Addr} {fd : FuncData} (F : Fun K "_law_names" "_law_names" sNames f fd) (M : Mgs mg) (D_draw : DDraw P w K mg base) (D_pick : DPick P w K mg base) : FnOk P w K mg base CX0 3 f fd ["_law_pen_here", "_law_many"] (spNames K) := by
  refine F.ok scNames (fun vs H Q E h => ?_) (fun cdv A outer s H vs Q E hr h => ?_)
  · obtain ⟨p, i, m, n, G, rfl, _⟩ := h
    rfl
  · obtain ⟨p, i, m, n, G, rfl, g0, hp, hn, rfl, hm, q⟩ := h
    refine ⟨_, ((pss_cons (ps_set (i := 2) scNames.nd rfl (Or.inr rfl) pe_str)
    (pss_cons (ps_set (i := 3) scNames.nd rfl (Or.inl rfl) (k_join (K := K) rfl pe_str (pe_lc (own := [("_law_k", 10)]) rfl scNames.nd (pi_range1 (by rfl) M.range (pa_cons (pe_op op_add pe_int (pe_df D_draw hr (by rfl) pass0 (pa_cons (pv 0) (pa_cons pe_int pa_nil)))) pa_nil)) (blkOk_by (N := ["_law_pen_here", "_law_many", "_law_letters", "_law_base", "_law_at", "_law_begin", "_law_short", "_law_by", "_law_found", "_law_some", "_law_k", "_law_tail"]) (sc := defScope sNames) (by decide +kernel)) (fun _ _ _ _ _ => (pg_name (i := 10) scNames.nd rfl (Or.inl rfl))) (fun _ _ _ _ _ => pts_nil) (fun _ _ _ _ _ => (pe_df D_pick hr (by rfl) pass0 (pa_cons (pv 0) (pa_cons (pv 2) pa_nil)))))))
    (pss_cons (ps_asg (pe_tup (pa_cons (pe_df D_draw hr (by rfl) pass0 (pa_cons (pv 0) (pa_cons (pe_callB call_lenS (by rfl) M.len PySem.boot_len (pa_cons (pv 3) pa_nil)) pa_nil))) (pa_cons (pe_df D_draw hr (by rfl) pass0 (pa_cons (pv 0) (pa_cons pe_int pa_nil))) (pa_cons (pe_df D_draw hr (by rfl) pass0 (pa_cons (pv 0) (pa_cons pe_int pa_nil))) pa_nil)))) (k_pg_tup (K := K) rfl rfl (pgs_cons (pg_name (i := 4) scNames.nd rfl (Or.inl rfl)) (pgs_cons (pg_name (i := 5) scNames.nd rfl (Or.inr rfl)) (pgs_cons (pg_name (i := 6) scNames.nd rfl (Or.inl rfl)) pgs_nil)))))
    (pss_cons (ps_par (i := 7) (j := 8) (by rfl) scNames.nd rfl rfl (by decide) rfl rfl (pa_cons (pe_df D_pick hr (by rfl) pass0 (pa_cons (pv 0) (pa_cons (pe_lst (pa_cons pe_int (pa_cons pe_int (pa_cons pe_int (pa_cons pe_int (pa_cons pe_int (pa_cons pe_int (pa_cons pe_int (pa_cons pe_int (pa_cons pe_int (pa_cons pe_int (pa_cons pe_int (pa_cons pe_int pa_nil))))))))))))) pa_nil))) (pa_cons (pe_lst pa_nil) pa_nil)) (by rfl))
    (pss_cons (ps_if (pt_cmpR op_eq (pv 7) pe_int (nomark _))
    (pss_cons (ps_set (i := 9) scNames.nd rfl (Or.inr rfl) pe_str)
    (pss_one (ps_ret (pe_lc (own := [("_law_k", 10)]) rfl scNames.nd (pi_range1 (by rfl) M.range (pa_cons (pv 1) pa_nil)) (blkOk_by (N := ["_law_pen_here", "_law_many", "_law_letters", "_law_base", "_law_at", "_law_begin", "_law_short", "_law_by", "_law_found", "_law_some", "_law_k", "_law_tail"]) (sc := defScope sNames) (by decide +kernel)) (fun _ _ _ _ _ => (pg_name (i := 10) scNames.nd rfl (Or.inl rfl))) (fun _ _ _ _ _ => pts_nil) (fun _ _ _ _ _ => (pe_ix (k_ix_list (K := K) rfl) (pe_splitK (pv 9) pe_str) (pe_op op_mod (pe_op op_add (pv 5) (pe_op op_mul pe_int (pv 10))) pe_int) (fun _ _ => rfl)))))))
    pss_nil)
    (pss_cons (ps_for PassesOwn.never rfl (pi_range1 (by rfl) M.range (pa_cons (pv 1) pa_nil)) (pg_name (i := 10) scNames.nd rfl (Or.inl rfl))
    (pss_cons (ps_set (i := 11) scNames.nd rfl (Or.inl rfl) (pe_slice sl_str (pe_slice sl_str (pv 3) (po_some (pe_op op_add (pv 4) pe_int)) po_none) po_none (po_some (pe_ix (k_ix_list (K := K) rfl) (pe_lst (pa_cons pe_int (pa_cons (pe_op op_mod (pv 10) pe_int) pa_nil))) (pv 6) (fun _ _ => rfl)))))
    (pss_one (ps_expr (k_bm (K := K) rfl PySem.F.plainAttrs_list PySem.F.slot_list_append PySem.F.type_list_append mt_append (pv 8) (pa_cons (pe_op op_addS (pe_op op_addS (pe_slice sl_str (pv 3) po_none (po_some (pv 4))) (pe_ix ix_str (pv 2) (pe_op op_mod (pe_op op_add (pv 5) (pe_op op_mul (pv 7) (pv 10))) pe_int) (fun _ _ => rfl))) (pv 11)) pa_nil))))))
    (pss_one (ps_ret (pv 8)))))))))), ?_⟩
    walk_at "go0"
    refine use_draw (m := 8) g0 hp (by omega) rfl (by omega) (by omega) (fun d0 H1 hd0 s1 hp1 => ?_)
    walk_at "go"
    refine lcR1 (M := M1 p) (n := 1 + d0) (by omega) (by omega) s1.gh (fun i acc G' H' => G = G' ∧ ∃ zs : List Nat, acc = zs.map (fun c => V.str ⟨#[c]⟩) ∧ zs.length = i ∧ (∀ c ∈ zs, 97 ≤ c ∧ c ≤ 122) ∧ Pen K G' p (n + 1 + i) H')
      (fun L hL => ⟨rfl, [], rfl, rfl, (fun _ h => by cases h), hp1.upd (hp1.new hL)⟩) (fun L i acc G' H' Em Sk hi hL hL' gL hacc st pv hEm _ => ?_) (fun L acc G' H' hL hacc st hL' gL pv => ?_)
    · obtain ⟨rfl, zs, rfl, hz, hzc, hpz⟩ := pv
      walk_at "go"
      refine ⟨rfl, ?_⟩
      walk_at "go"
      refine use_pick (items := letters.cps.toList.map fun c => V.str ⟨#[c]⟩) st.gh hpz (by omega) (.inr (.inr ⟨letters, rfl, by decide +kernel, rfl⟩)) (by decide +kernel) (by decide +kernel) (fun d x H2 hx s2 hp2 => ?_)
      obtain ⟨c, hc, rfl⟩ := map_get hx
      have hL2 : H2 L = some (.lst (zs.map fun c => V.str ⟨#[c]⟩)) := s2.up _ _ (hpz.ne hL') hL'
      refine hEm _ G H2 (st.trans s2) hL2 gL ⟨rfl, zs ++ [c], by rw [List.map_append]; rfl, by rw [List.length_append, hz]; rfl, fun e he => ?_, ?_⟩
      · rcases List.mem_append.mp he with he | he
        · exact hzc e he
        · rw [List.mem_singleton.mp he]
          exact letters_ok c (List.mem_of_getElem? hc)
      · exact (hp2.upd (hp2.ne hL2)).mono (by omega)
    · obtain ⟨rfl, zs, rfl, hz, hzc, hpz⟩ := pv
      walk_at "go"
      have hzl : zs.length = 1 + d0 := hz
      refine c_join (ys := zs.map fun c => (⟨#[c]⟩ : Str)) (lof (by rw [List.map_map]; exact hL')) ?_ ?_
      · have e1 : ((zs.map fun c => (⟨#[c]⟩ : Str)).map (·.length)).sum = zs.length := by
          rw [List.map_map, show ((fun z : Str => z.length) ∘ fun c => (⟨#[c]⟩ : Str)) = fun _ => 1 from rfl, List.map_const', List.sum_replicate_nat, Nat.mul_one]
        rw [e1, show Str.length "" = 0 by decide +kernel]
        omega
      rw [show (Str.ofString "") = (⟨#[]⟩ : Str) by decide +kernel, join_signs]
      have hBl : Str.length ⟨zs.toArray⟩ = 1 + d0 := by show zs.toArray.size = 1 + d0; rw [List.size_toArray]; omega
      have hB : Str.length ⟨zs.toArray⟩ ≤ sizeLine := by rw [hBl]; exact Nat.le_trans (show 1 + d0 ≤ 100 by omega) (by decide)
      generalize hBe : (⟨zs.toArray⟩ : Str) = B at hBl hB ⊢
      walk_at "go"
      refine use_draw (m := 1 + d0) st.gh hpz (by omega) (by rw [hBl]) (by omega) (by omega) (fun d1 H2 hd1 s2 hp2 => ?_)
      walk_at "go"
      refine use_draw (m := 26) s2.gh hp2 (by omega) rfl (by omega) (by omega) (fun d2 H3 hd2 s3 hp3 => ?_)
      walk_at "go"
      refine use_draw (m := 2) s3.gh hp3 (by omega) rfl (by omega) (by omega) (fun d3 H4 hd3 s4 hp4 => ?_)
      walk_at "go"
      refine ⟨by show 3 ≤ sizeLine; decide, fun t nt => ?_⟩
      have s5 : Stp (M1 p) G H4 G (upd H4 t (.tup [.int d1, .int d2, .int d3])) := Stp.newM s4.gh nt
      have ht : (upd H4 t (.tup [.int d1, .int d2, .int d3])) t = some (.tup [.int d1, .int d2, .int d3]) := upd_same
      have hp5 := hp4.upd (x := .tup [.int d1, .int d2, .int d3]) (hp4.new nt)
      generalize upd H4 t (.tup [.int d1, .int d2, .int d3]) = H5 at s5 ht hp5 ⊢
      refine r_gtup (tof ht) rfl ?_
      walk_at "go"
      refine ⟨by show 12 ≤ sizeLine; decide, fun l nl => ?_⟩
      have s6 : Stp (M1 p) G H5 (upd G l (.lst (bysL.map V.int))) (upd H5 l (.lst (bysL.map V.int))) := Stp.new s5.gh nl
      have hp6 : Pen K (upd G l (.lst (bysL.map V.int))) p (n + 1 + (1 + d0) + 1 + 1 + 1) (upd H5 l (.lst (bysL.map V.int))) := hp5.stp (Stp.new (M := M0) s5.gh nl) (fun z => z)
      have hl6 : SqL K (upd G l (.lst (bysL.map V.int))) l (bysL.map V.int) := lof upd_same
      show tNil _ (upd H5 l (.lst (bysL.map V.int))) _
      generalize upd H5 l (.lst (bysL.map V.int)) = H6 at s6 hp6 ⊢
      generalize upd G l (.lst (bysL.map V.int)) = G6 at s6 hp6 hl6 ⊢
      walk_at "go"
      refine use_pick (items := bysL.map V.int) s6.gh hp6 (by omega) (.inl ⟨l, rfl, hl6⟩) (by decide) (by decide) (fun d4 x H7 hx s7 hp7 => ?_)
      obtain ⟨dby, hby, rfl⟩ := map_get hx
      have hby2 := bys_ok _ (List.mem_of_getElem? hby)
      walk_at "go"
      refine ⟨Nat.zero_le _, fun o no => ?_⟩
      have sA : Stp (M1 p) G H G6 H7 := (((((s1.trans st).trans s2).trans s3).trans s4).trans s5).trans (s6.trans s7)
      clear s1 hp1 s2 hp2 s3 hp3 s4 hp4 s5 hp5 s6 hp6 ht nt hx hl6 st hpz
      have sB : Stp (M1 p) G6 H7 G6 (upd H7 o (.lst (([] : List Str).map V.str))) := Stp.newM s7.gh no
      have ho : (upd H7 o (.lst (([] : List Str).map V.str))) o = some (.lst (([] : List Str).map V.str)) := upd_same
      have hpB := hp7.upd (x := .lst (([] : List Str).map V.str)) (hp7.new no)
      have gO : G6 o = none := none_of s7.gh no
      have hO : H o = none := sA.free no
      show tNil _ (upd H7 o (.lst (([] : List Str).map V.str))) _
      generalize upd H7 o (.lst (([] : List Str).map V.str)) = H8 at sB ho hpB ⊢
      walk_at "go"
      refine ifD (fun c => ?_) (fun c => ?_)
      · walk_at "go"
        refine lcR1 (M := M1 p) (n := m) (by omega) (by omega) sB.gh (fun i acc G' H' => G6 = G' ∧ ∃ ws : List Str, acc = ws.map V.str ∧ ws.length = i ∧ (∀ z ∈ ws, NmOk z) ∧ (∀ j z, ws[j]? = some z → some z = fW d2 j) ∧ Pen K G' p (n + 20) H')
          (fun L hL => ⟨rfl, [], rfl, rfl, (fun _ h => by cases h), (fun j z h => by simp at h), (hpB.upd (hpB.new hL)).mono (by omega)⟩) (fun L i acc G' H' Em Sk hi hL hL' gL hacc st pv hEm _ => ?_) (fun L acc G' H' hL hacc st hL' gL pv => ?_)
        · obtain ⟨e, ws, rfl, hw, hwn, hwf, hpz⟩ := pv
          subst e
          walk_at "go"
          refine ⟨rfl, ?_⟩
          walk_at "go"
          refine c_split (by decide +kernel) (by decide +kernel) (fun t nt => ?_)
          rw [show (Str.ofString "room door folk rope post at acts go tie cut free a ab abc b ba ro roo rooms c ca cab z") = wordsT from rfl, words_eq]
          have sC : Stp (M1 p) G6 H8 G6 (upd H' t (.lst (wordsL.map V.str))) := st.trans (Stp.newM st.gh nt)
          have ht : (upd H' t (.lst (wordsL.map V.str))) t = some (.lst (wordsL.map V.str)) := upd_same
          have hLt : (upd H' t (.lst (wordsL.map V.str))) L = some (.lst (ws.map V.str)) := by rw [upd_ne (ne_of_none hL' nt)]; exact hL'
          have hpt := hpz.upd (x := .lst (wordsL.map V.str)) (hpz.new nt)
          generalize upd H' t (.lst (wordsL.map V.str)) = H9 at sC ht hLt hpt ⊢
          walk_at "go"
          obtain ⟨d, ed, hd⟩ := mod_nat (i := (d2 : Int) + 5 * (i : Int)) (m := 23) (by omega)
          have hd' : d < wordsL.length := hd
          refine r_ixL' (lof ht) ed (v := .str wordsL[d]) (by rw [List.getElem?_map, List.getElem?_eq_getElem hd']; rfl) ?_
          refine hEm _ G6 H9 sC hLt gL ⟨rfl, ws ++ [wordsL[d]], by rw [List.map_append]; rfl, by rw [List.length_append, hw]; rfl, fun e he => ?_, fun j z hz => ?_, hpt.upd (hpt.ne hLt)⟩
          · rcases List.mem_append.mp he with he | he
            · exact hwn e he
            · rw [List.mem_singleton.mp he]
              exact words_ok _ (List.getElem_mem hd')
          · by_cases cj : j < ws.length
            · rw [List.getElem?_append_left cj] at hz
              exact hwf j z hz
            · have ej : j = i := by
                rcases Nat.lt_or_ge j (ws.length + 1) with x | x
                · omega
                · rw [List.getElem?_eq_none (by rw [List.length_append]; exact x)] at hz; cases hz
              subst ej
              rw [List.getElem?_append_right (by omega), show j - ws.length = 0 by omega] at hz
              rw [← hz]
              unfold fW
              rw [show (((d2 : Nat) : Int) + 5 * ((j : Nat) : Int)) % 23 = (d : Int) from ed, Int.toNat_natCast, List.getElem?_eq_getElem hd']
              rfl
        · obtain ⟨e, ws, rfl, hw, hwn, hwf, hpz⟩ := pv
          subst e
          have hL0 : H L = none := sA.free (sB.free hL)
          exact q L ws (upd G6 L _) H' (((sA.trans sB).trans st).freeze hL' hL0 gL) (hpz.know (same_new gL) (by rw [upd_ne (hpz.ne hL').symm]; exact hpz.1)) (lof upd_same) hw hwn (nodup_by (fW d2) some hwf (fun j k h1 h2 => fW_inj d2 j k h1 (by omega))) (fW_str hwf)
      · walk_at "go"
        refine loopR1 (n := m) rfl (by omega) (fun i σ H' => ∃ y10 y11, ∃ ws : List Str, σ = [some (.ref p), some (.int (m : Int)), some (.str letters), some (.str B), some (.int (d1 : Int)), some (.int (d2 : Int)), some (.int (d3 : Int)), some (.int dby), some (.ref o), none, y10, y11] ∧
          Stp (M1 p) G H G6 H' ∧ H' o = some (.lst (ws.map V.str)) ∧ ws.length = i ∧ (∀ z ∈ ws, NmOk z) ∧ (∀ j z, ws[j]? = some z → z.cps.toList[d1]? = fL d2 dby j) ∧ Pen K G6 p (n + 20) H') ⟨none, none, [], rfl, sA.trans sB, ho, rfl, (fun _ h => by cases h), (fun j z h => by simp at h), hpB.mono (by omega)⟩ (fun i σ H' hi pv => ?_) (fun σ H' pv => ?_)
        · obtain ⟨y10, y11, ws, rfl, st, ho', hw, hwn, hwf, hpz⟩ := pv
          walk_at "go"
          refine r_slS hB ?_
          walk_at "go"
          refine ⟨by show 2 ≤ sizeLine; decide, fun t nt => ?_⟩
          have sC : Stp (M1 p) G H G6 (upd H' t (.lst [.int 8, .int ((i : Int) % 3)])) := st.trans (Stp.newM st.gh nt)
          have ht : (upd H' t (.lst [.int 8, .int ((i : Int) % 3)])) t = some (.lst [.int 8, .int ((i : Int) % 3)]) := upd_same
          have hot : (upd H' t (.lst [.int 8, .int ((i : Int) % 3)])) o = some (.lst (ws.map V.str)) := by rw [upd_ne (ne_of_none ho' nt)]; exact ho'
          have hpt := hpz.upd (x := .lst [.int 8, .int ((i : Int) % 3)]) (hpz.new nt)
          generalize upd H' t (.lst [.int 8, .int ((i : Int) % 3)]) = H9 at sC ht hot hpt ⊢
          walk_at "go"
          obtain ⟨v, hv⟩ : ∃ v : Nat, ([.int 8, .int ((i : Int) % 3)] : List V)[d3]? = some (.int (v : Int)) := by
            have h : d3 = 0 ∨ d3 = 1 := by omega
            rcases h with rfl | rfl
            · exact ⟨8, rfl⟩
            · exact ⟨i % 3, rfl⟩
          refine r_ixL' (lof ht) rfl hv ?_
          walk_at "go"
          have hT : (cutS B (some ((d1 : Int) + 1)) none).length = (1 + d0) - (d1 + 1) := by rw [show ((d1 : Int) + 1) = ((d1 + 1 : Nat) : Int) by omega, cutS_from, hBl]
          refine r_slS (Nat.le_trans (cutS_le _ _ _) hB) ?_
          walk_at "go"
          have hT2 : (cutS (cutS B (some ((d1 : Int) + 1)) none) none (some (v : Int))).length ≤ (1 + d0) - (d1 + 1) := by rw [← hT]; exact cutS_le _ _ _
          have hT3 : ∀ c ∈ (cutS (cutS B (some ((d1 : Int) + 1)) none) none (some (v : Int))).cps.toList, c ∈ B.cps.toList := fun c h => cutS_mem (cutS_mem h)
          generalize cutS (cutS B (some ((d1 : Int) + 1)) none) none (some (v : Int)) = T at hT2 hT3 ⊢
          refine r_slS hB ?_
          walk_at "go"
          have hF : (cutS B none (some (d1 : Int))).length = d1 := by rw [cutS_to, hBl]; omega
          have hF3 : ∀ c ∈ (cutS B none (some (d1 : Int))).cps.toList, c ∈ B.cps.toList := fun c h => cutS_mem h
          generalize cutS B none (some (d1 : Int)) = F0 at hF hF3 ⊢
          obtain ⟨d, ed, hd⟩ := mod_nat (i := (d2 : Int) + dby * (i : Int)) (m := 26) (by omega)
          have hd' : d < letters.cps.toList.length := by rw [letters_len]; exact hd
          refine r_ixS' (by decide +kernel) ed (List.getElem?_eq_getElem hd') ?_
          have hcc := letters_ok _ (List.getElem_mem hd')
          have hfl : fL d2 dby i = some letters.cps.toList[d] := by
            unfold fL
            rw [show (((d2 : Nat) : Int) + dby * ((i : Nat) : Int)) % 26 = (d : Int) from ed, Int.toNat_natCast, List.getElem?_eq_getElem hd']
          generalize letters.cps.toList[d] = cc at hcc hfl ⊢
          refine c_addS (by rw [hF]; show d1 + 1 ≤ sizeLine; exact Nat.le_trans (show d1 + 1 ≤ 100 by omega) (by decide)) ?_
          walk_at "go"
          have hFC : (F0 ++ (⟨#[cc]⟩ : Str)).length = d1 + 1 := by
            show (F0.cps ++ #[cc]).size = d1 + 1
            rw [Array.size_append]
            show F0.length + 1 = d1 + 1
            rw [hF]
          refine c_addS (by rw [hFC]; exact Nat.le_trans (show d1 + 1 + T.length ≤ 100 by omega) (by decide)) ?_
          walk_at "go"
          have hzc' : ∀ c ∈ B.cps.toList, 97 ≤ c ∧ c ≤ 122 := fun c hc => hzc c (by rw [← hBe] at hc; exact hc)
          have hN : NmOk (F0 ++ (⟨#[cc]⟩ : Str) ++ T) := nm_cat (b := B) (by omega) hzc' hF3 (fun c h => by rw [List.mem_singleton.mp h]; exact hcc) hT3 rfl (by omega)
          refine c_append hot (small5 (by rw [List.length_map, hw]; omega)) ?_
          refine ⟨_, _, ws ++ [F0 ++ (⟨#[cc]⟩ : Str) ++ T], rfl, sC.inner (M' := M1 o) (Stp.mut sC.gh hot gO rfl) (fun a e => .inr (by rw [e]; exact hO)), ?_, by rw [List.length_append, hw]; rfl, fun e he => ?_, fun j z hz => ?_, hpt.upd (hpt.ne hot)⟩
          · rw [upd_same, List.map_append]
            rfl
          · rcases List.mem_append.mp he with he | he
            · exact hwn e he
            · rw [List.mem_singleton.mp he]
              exact hN
          · by_cases cj : j < ws.length
            · rw [List.getElem?_append_left cj] at hz
              exact hwf j z hz
            · have ej : j = i := by
                rcases Nat.lt_or_ge j (ws.length + 1) with x | x
                · omega
                · rw [List.getElem?_eq_none (by rw [List.length_append]; exact x)] at hz; cases hz
              subst ej
              rw [List.getElem?_append_right (by omega), show j - ws.length = 0 by omega] at hz
              rw [← Option.some.inj hz, hfl, app_list, app_list, List.append_assoc, List.getElem?_append_right (by show F0.cps.toList.length ≤ d1; rw [Array.length_toList]; exact Nat.le_of_eq hF), show d1 - F0.cps.toList.length = 0 by rw [Array.length_toList]; have : F0.cps.size = d1 := hF; omega]
              rfl
        · obtain ⟨y10, y11, ws, rfl, st, ho', hw, hwn, hwf, hpz⟩ := pv
          walk_at "go"
          have gO : G6 o = none := gO
          have hndL : ws.Nodup := nodup_by (fL d2 dby) (fun z => z.cps.toList[d1]?) hwf (fun j k h1 h2 => fL_inj d2 dby (List.mem_of_getElem? hby) j k h1 (by omega))
          exact q o ws (upd G6 o _) H' (st.freeze ho' hO gO) (hpz.know (same_new gO) (by rw [upd_ne (hpz.ne ho').symm]; exact hpz.1)) (lof upd_same) hw hwn hndL (fL_str (List.mem_of_getElem? hby) (by omega) hndL hwf)
end
abbrev sNear : Stmt := topS 27
theorem scNear : FnScope ["_law_yard_here", "_law_room", "_law_some", "_law_pair"] ["_law_yard_here", "_law_room"] (defScope sNear) := ⟨rfl, rfl, rfl, by decide +kernel, rfl, by decide +kernel, by decide +kernel⟩
section
variable {P : Program} {w : World} {K : PySem.W.Frag} {mg : Str → Option Value} {base : Heap}
def spNear (K : PySem.W.Frag) : Sp := fun vs H Q _ => ∃ (y : Addr) (x : Str) (rs : List Str) (ds : List Dr) (G : Hp), vs = [.ref y, .str x] ∧ Same G H ∧ Yard K G y rs ds ∧ ds.length < 64 ∧
  ∀ r (ys : List Str) G' H', Stp M0 G H G' H' → SqL K G' r (ys.map V.str) → ys.Perm (nb ds x) → sortedS ys = true → Q (.ref r) H'
abbrev DNear (P : Program) (w : World) (K : PySem.W.Frag) (mg : Str → Option Value) (base : Heap) : Prop := Df P w K mg base CX0 1 "_law_near" ["_law_yard_here", "_law_room"] (spNear K)
theorem use_near {G H : Hp} {y : Addr} {x : Str} {rs : List Str} {ds : List Dr} {Q : VK} {E : XK} (g0 : Same G H) (hy : Yard K G y rs ds) (hl : ds.length < 64)
    (q : ∀ r (ys : List Str) G' H', Stp M0 G H G' H' → SqL K G' r (ys.map V.str) → ys.Perm (nb ds x) → sortedS ys = true → Q (.ref r) H') : spNear K [.ref y, .str x] H Q E := ⟨y, x, rs, ds, G, rfl, g0, hy, hl, q⟩
theorem mem_pair {x : Str} {d : Dr} : decide (x ∈ [d.1, d.2]) = hasD x d := by
  unfold hasD
  by_cases h1 : d.1 = x
  · simp [h1]
  · by_cases h2 : d.2 = x
    · simp [h2]
    · simp [h1, h2, Ne.symm h1, Ne.symm h2]
theorem ok_Near {f : Addr} {fd : FuncData} (F : Fun K "_law_near" "_law_near" sNear f fd) (M : Mgs mg) : FnOk P w K mg base CX0 1 f fd ["_law_yard_here", "_law_room"] (spNear K) := by
  refine F.ok scNear (fun vs H Q E h => ?_) (fun cdv A outer s H vs Q E hr h => ?_)
  · obtain ⟨y, x, rs, ds, G, rfl, _⟩ := h
    rfl
  · obtain ⟨y, x, rs, ds, G, rfl, g0, ⟨d, xs, hy, hS, hD⟩, hl, q⟩ := h
    have hu := hu_of hr
    refine ⟨_, ((pss_cons (ps_setLc (i := 2) (own := [("_law_pair", 3)]) rfl scNear.nd rfl rfl (sw_true rfl rfl rfl (by decide +kernel)) (k_pi_list (K := K) rfl (pe_dget hu (pv 0) pe_str (fun _ _ => rfl))) (blkOk_by (N := ["_law_yard_here", "_law_room", "_law_some", "_law_pair"]) (sc := defScope sNear) (by decide +kernel)) (fun _ _ _ _ _ => (pg_name (i := 3) scNear.nd rfl (Or.inl rfl))) (fun _ _ _ _ _ => (pts_one (pt_cmpR (k_op_in (K := K) rfl) (pv 1) (pv 3) (by rfl)))) (fun _ _ _ _ _ => (pv 3)))
    (pss_one (ps_ret (pe_callB (k_sortedS (K := K) rfl) (by rfl) M.sorted (by decide +kernel) (pa_cons (pe_lc (own := [("_law_pair", 3)]) rfl scNear.nd (k_pi_list (K := K) rfl (pv 2)) (blkOk_by (N := ["_law_yard_here", "_law_room", "_law_some", "_law_pair"]) (sc := defScope sNear) (by decide +kernel)) (fun _ _ _ _ _ => (pg_name (i := 3) scNear.nd rfl (Or.inl rfl))) (fun _ _ _ _ _ => pts_nil) (fun _ _ _ _ _ => (pe_ix (k_ix_tup (K := K) rfl) (pv 3) (pe_op op_sub pe_int (pe_bmF PySem.F.plainAttrs_tuple PySem.F.slot_tuple_index PySem.F.type_tuple_index (k_tupIndex (K := K) rfl) (pv 3) (pa_cons (pv 1) pa_nil))) (fun _ _ => rfl)))) pa_nil)))))), ?_⟩
    walk_at "go0"
    refine r_dget' (hy.same g0).doors ?_
    refine lcL (M := M0) hS (by rw [hD.1]; omega) g0 (fun i acc G' H' => G = G' ∧ DrAll G acc ((ds.take i).filter (hasD x))) (fun L hL => ⟨rfl, by simpa using DrAll.nil⟩)
      (fun L i v acc G' H' Em Sk hi hL hL' gL hacc st pv hv hEm hSk => ?_) (fun L acc G' H' hL hacc st hL' gL pv => ?_)
    · obtain ⟨e, hA⟩ := pv
      subst e
      have hi' : i < ds.length := by rw [← hD.1]; exact hi
      obtain ⟨t, o, ht, hg, ho⟩ := hD.2 i _ (List.getElem?_eq_getElem hi')
      cases ht.symm.trans hv
      have e1 := take_succ_get (List.getElem?_eq_getElem hi')
      walk_at "go"
      refine ⟨rfl, ?_⟩
      walk_at "go"
      refine r_inT (frz_t (st.gh _ _ hg)) ?_
      walk_at "go"
      refine ifD (fun c => ?_) (fun c => ?_)
      · walk_at "go"
        refine hEm _ G H' st hL' gL ⟨rfl, ?_⟩
        rw [e1, List.filter_append, List.filter_cons_of_pos (by rw [← mem_pair]; exact decide_eq_true c)]
        exact hA.snoc hg ho
      · refine hSk G H' st hL' gL ⟨rfl, ?_⟩
        rw [e1, List.filter_append, List.filter_cons_of_neg (by rw [← mem_pair]; exact fun z => c (of_decide_eq_true z)), List.filter_nil, List.append_nil]
        exact hA
    · obtain ⟨e, hA⟩ := pv
      subst e
      rw [List.take_of_length_le (by rw [hD.1]; exact Nat.le_refl _)] at hA
      have sF : Stp M0 G H (upd G L (.lst acc)) H' := st.freeze hL' hL gL
      have hGL : (upd G L (.lst acc)) L = some (.lst acc) := upd_same
      have hA1 : DrAll (upd G L (.lst acc)) acc (ds.filter (hasD x)) := hA.same (same_new gL)
      generalize upd G L (.lst acc) = G1 at sF hGL hA1
      walk_at "go"
      generalize hfs : ds.filter (hasD x) = fs at hA1
      refine lcL (M := M0) (G := G1) (lof hGL) (Nat.lt_of_le_of_lt hacc (by rw [hD.1]; omega)) sF.gh (fun i acc' G' H2 => G1 = G' ∧ acc' = ((fs.take i).map (oth x)).map V.str) (fun L hL => ⟨rfl, rfl⟩)
        (fun LL i v acc' G' H2 Em Sk hi hl2 hl2' gl2 hacc' st2 pv hv hEm hSk => ?_) (fun LL acc' G' H2 hl2 hacc' st2 hl2' gl2 pv => ?_)
      · obtain ⟨e, rfl⟩ := pv
        subst e
        have hi' : i < fs.length := by rw [← hA1.1]; exact hi
        obtain ⟨t, o, ht, hg, ho⟩ := hA1.2 i _ (List.getElem?_eq_getElem hi')
        cases ht.symm.trans hv
        have hx : hasD x fs[i] = true := by
          have hm : fs[i] ∈ ds.filter (hasD x) := by rw [hfs]; exact List.getElem_mem hi'
          exact (List.mem_filter.mp hm).2
        have e1 := take_succ_get (List.getElem?_eq_getElem hi')
        have hg2 : H2 t = some (.frz o (.tup ([fs[i].1, fs[i].2].map V.str))) := st2.gh _ _ hg
        have fin : ∀ z, z = oth x fs[i] → Em (.str z) H2 := fun z ez => by
          refine hEm _ G1 H2 st2 hl2' gl2 ⟨rfl, ?_⟩
          rw [e1, List.map_append, List.map_append, ez]
          rfl
        generalize fs[i] = d at hx hg2 fin
        walk_at "go"
        refine ⟨rfl, ?_⟩
        walk_at "go"
        refine c_methF hg2 ho ?_
        walk_at "go"
        by_cases h1 : d.1 = x
        · refine c_tupIndex (j := 0) hg2 (by rw [← h1]; rfl) (fun m hm => absurd hm (Nat.not_lt_zero m)) ?_
          walk_at "go"
          refine r_ixT' (n := 1) (frz_t hg2) (by omega) rfl ?_
          exact fin _ (by unfold oth; rw [if_pos h1])
        · have h2 : d.2 = x := by
            unfold hasD at hx
            rw [decide_eq_false h1, Bool.false_or] at hx
            exact of_decide_eq_true hx
          refine c_tupIndex (j := 1) hg2 (by rw [← h2]; rfl) (fun m hm => ?_) ?_
          · have : m = 0 := by omega
            subst this
            intro e
            exact h1 (Option.some.inj e)
          walk_at "go"
          refine r_ixT' (n := 0) (frz_t hg2) (by omega) rfl ?_
          exact fin _ (by unfold oth; rw [if_neg h1])
      · obtain ⟨e, rfl⟩ := pv
        subst e
        rw [List.take_of_length_le (by rw [hA1.1]; exact Nat.le_refl _)] at hl2'
        walk_at "go"
        refine c_sorted (lof hl2') (by rw [List.length_map, ← hfs]; exact Nat.lt_of_le_of_lt (List.length_filter_le _ _) hl) (fun ys r hperm hsort nr => ?_)
        exact q r ys (upd G1 r _) _ ((sF.trans st2).trans (Stp.new st2.gh nr)) (lof upd_same) (by rw [← hfs] at hperm; exact hperm) hsort
end
abbrev sMayDoor : Stmt := topS 28
theorem scMayDoor : FnScope ["_law_yard_here", "_law_one", "_law_other", "_law_some", "_law_room"] ["_law_yard_here", "_law_one", "_law_other"] (defScope sMayDoor) := ⟨rfl, rfl, rfl, by decide +kernel, rfl, by decide +kernel, by decide +kernel⟩
abbrev sDrawnPairs : Stmt := topS 30
theorem scDrawnPairs : FnScope ["_law_pen_here", "_law_many", "_law_count", "_law_k"] ["_law_pen_here", "_law_many", "_law_count"] (defScope sDrawnPairs) := ⟨rfl, rfl, rfl, by decide +kernel, rfl, by decide +kernel, by decide +kernel⟩
section
variable {P : Program} {w : World} {K : PySem.W.Frag} {mg : Str → Option Value} {base : Heap}
def mayD (ds : List Dr) (a b : Str) : Bool := decide (a ≠ b) && decide (b ∉ nb ds a) && decide (∀ r ∈ nb ds a, r ∉ nb ds b)
def DsOk (ds : List Dr) : Prop := ∀ d ∈ ds, SOk d.1 ∧ SOk d.2
theorem nb_ok {ds : List Dr} {x z : Str} (h : DsOk ds) (hz : z ∈ nb ds x) : SOk z := by
  obtain ⟨d, hd, rfl⟩ := List.mem_map.mp hz
  have h1 := h d (List.mem_filter.mp hd).1
  unfold oth
  split
  · exact h1.2
  · exact h1.1
def spMayDoor (K : PySem.W.Frag) : Sp := fun vs H Q _ => ∃ (y : Addr) (a b : Str) (rs : List Str) (ds : List Dr) (G : Hp), vs = [.ref y, .str a, .str b] ∧ Same G H ∧ Yard K G y rs ds ∧ ds.length < 64 ∧ DsOk ds ∧
  ∀ G' H', Stp M0 G H G' H' → Q (.bl (mayD ds a b)) H'
abbrev DMayDoor (P : Program) (w : World) (K : PySem.W.Frag) (mg : Str → Option Value) (base : Heap) : Prop := Df P w K mg base CX0 2 "_law_may_door" ["_law_yard_here", "_law_one", "_law_other"] (spMayDoor K)
theorem ok_MayDoor {f : Addr} {fd : FuncData} (F : Fun K "_law_may_door" "_law_may_door" sMayDoor f fd) (M : Mgs mg) (D_near : DNear P w K mg base) : FnOk P w K mg base CX0 2 f fd ["_law_yard_here", "_law_one", "_law_other"] (spMayDoor K) := by
  refine F.ok scMayDoor (fun vs H Q E h => ?_) (fun cdv A outer s H vs Q E hr h => ?_)
  · obtain ⟨y, a, b, rs, ds, G, rfl, _⟩ := h
    rfl
  · obtain ⟨y, a, b, rs, ds, G, rfl, g0, hy, hl, hds, q⟩ := h
    have hu := hu_of hr
    have hu64 := hu64_of hr
    refine ⟨_, ((pss_cons (ps_if (PW.pt (pw_or (pt_cmpR op_eq (pv 1) (pv 2) (nomark _)) (pw_or1 (pt_cmpR (k_op_in (K := K) rfl) (pv 2) (pe_df D_near hr (by rfl) pass0 (pa_cons (pv 0) (pa_cons (pv 1) pa_nil))) (by rfl)))))
    (pss_one (ps_ret pe_bl))
    pss_nil)
    (pss_cons (ps_set (i := 3) scMayDoor.nd rfl (Or.inr rfl) (pe_df D_near hr (by rfl) pass0 (pa_cons (pv 0) (pa_cons (pv 2) pa_nil))))
    (pss_one (ps_ret (pe_cmpR (k_op_eqD (K := K) rfl hu64) (pe_lc (own := [("_law_room", 4)]) rfl scMayDoor.nd (k_pi_list (K := K) rfl (pe_df D_near hr (by rfl) pass0 (pa_cons (pv 0) (pa_cons (pv 1) pa_nil)))) (blkOk_by (N := ["_law_yard_here", "_law_one", "_law_other", "_law_some", "_law_room"]) (sc := defScope sMayDoor) (by decide +kernel)) (fun _ _ _ _ _ => (pg_name (i := 4) scMayDoor.nd rfl (Or.inl rfl))) (fun _ _ _ _ _ => (pts_one (pt_cmpR (k_op_in (K := K) rfl) (pv 4) (pv 3) (by rfl)))) (fun _ _ _ _ _ => (pv 4))) (pe_lst pa_nil) (nomark _))))))), ?_⟩
    walk_at "go0"
    refine ifD (fun c => ?_) (fun c => ?_)
    · have c' : a = b := V.str.inj c
      subst c'
      walk_at "go"
      have e : mayD ds a a = false := by unfold mayD; simp
      rw [← e]
      exact q G H (Stp.refl g0)
    · have c' : a ≠ b := fun e => c (by rw [e])
      walk_at "go"
      refine use_near g0 hy hl (fun r ys G1 H1 s1 h1 p1 _ => ?_)
      walk_at "go"
      refine r_inL (s1.gh.seq h1) ?_
      walk_at "go"
      refine ifD (fun c2 => ?_) (fun c2 => ?_)
      · walk_at "go"
        have e : mayD ds a b = false := by
          unfold mayD
          rw [decide_eq_false (p := b ∉ nb ds a) (fun z => z (p1.mem_iff.mp c2)), Bool.and_false, Bool.false_and]
        rw [← e]
        exact q G1 H1 s1
      · have c2' : b ∉ nb ds a := fun z => c2 (p1.mem_iff.mpr z)
        walk_at "go"
        refine use_near s1.gh (hy.same s1.gg) hl (fun r2 ys2 G2 H2 s2 h2 p2 _ => ?_)
        walk_at "go"
        refine use_near s2.gh (hy.same (s1.gg.trans s2.gg)) hl (fun r3 ys3 G3 H3 s3 h3 p3 _ => ?_)
        walk_at "go"
        have hn3 : ys3.length < 64 := by
          rw [p3.length_eq]
          unfold nb
          rw [List.length_map]
          exact Nat.lt_of_le_of_lt (List.length_filter_le _ _) hl
        have h23 : SqL K G3 r2 (ys2.map V.str) := s3.gg.seq h2
        refine lcL (M := M0) h3 (by rw [List.length_map]; omega) s3.gh (fun i acc G' H' => G3 = G' ∧ acc = ((ys3.take i).filter fun z => decide (z ∈ ys2)).map V.str) (fun L hL => ⟨rfl, rfl⟩)
          (fun L i v acc G' H' Em Sk hi hL hL' gL hacc st pv hv hEm hSk => ?_) (fun L acc G' H' hL hacc st hL' gL pv => ?_)
        · obtain ⟨e, rfl⟩ := pv
          subst e
          obtain ⟨z, hz, rfl⟩ := map_get hv
          have e1 := take_succ_get hz
          walk_at "go"
          refine ⟨rfl, ?_⟩
          walk_at "go"
          refine r_inL (st.gh.seq h23) ?_
          walk_at "go"
          refine ifD (fun c3 => ?_) (fun c3 => ?_)
          · walk_at "go"
            refine hEm _ G3 H' st hL' gL ⟨rfl, ?_⟩
            rw [e1, filt_yes (p := fun z => decide (z ∈ ys2)) (decide_eq_true c3), List.map_append]
            rfl
          · refine hSk G3 H' st hL' gL ⟨rfl, ?_⟩
            rw [e1, filt_no (p := fun z => decide (z ∈ ys2)) (decide_eq_false c3)]
        · obtain ⟨e, rfl⟩ := pv
          subst e
          rw [List.take_of_length_le (by rw [List.length_map]; exact Nat.le_refl _)] at hL'
          walk_at "go"
          refine ⟨Nat.zero_le _, fun o no => ?_⟩
          have s5 : Stp M0 G H G3 (upd H' o (.lst [])) := (((s1.trans s2).trans s3).trans st).trans (Stp.newM st.gh no)
          have ho : (upd H' o (.lst [])) o = some (.lst (([] : List Str).map V.str)) := upd_same
          have hLo : (upd H' o (.lst [])) L = some (.lst ((ys3.filter fun z => decide (z ∈ ys2)).map V.str)) := by rw [upd_ne (ne_of_none hL' no)]; exact hL'
          generalize upd H' o (.lst []) = H6 at s5 ho hLo ⊢
          have hokz : ∀ z ∈ ys3.filter fun z => decide (z ∈ ys2), SOk z := fun z hz => nb_ok hds (p3.mem_iff.mp (List.mem_filter.mp hz).1)
          refine r_eqLL (lof hLo) (lof ho) hokz (fun _ h => by cases h) ?_
          have e : decide ((ys3.filter fun z => decide (z ∈ ys2)) = []) = mayD ds a b := by
            unfold mayD
            rw [decide_eq_true c', decide_eq_true c2', Bool.true_and, Bool.true_and]
            refine decide_eq_decide.mpr ?_
            rw [List.filter_eq_nil_iff]
            exact ⟨fun h r hr hr2 => h r (p3.mem_iff.mpr hr) (decide_eq_true (p2.mem_iff.mpr hr2)), fun h r hr hr2 => h r (p3.mem_iff.mp hr) (p2.mem_iff.mp (of_decide_eq_true hr2))⟩
          rw [e]
          exact q G3 H6 s5
end
abbrev sWithDoors : Stmt := topS 29
theorem scWithDoors : FnScope ["_law_rooms", "_law_pairs", "_law_yard_here", "_law_k", "_law_j"] ["_law_rooms", "_law_pairs"] (defScope sWithDoors) := ⟨rfl, rfl, rfl, by decide +kernel, rfl, by decide +kernel, by decide +kernel⟩
section
variable {P : Program} {w : World} {K : PySem.W.Frag} {mg : Str → Option Value} {base : Heap}
def spDrawnPairs (K : PySem.W.Frag) : Sp := fun vs H Q _ => ∃ (p : Addr) (i j : Int) (m c n : Nat) (G : Hp), vs = [.ref p, .int i, .int j] ∧ Same G H ∧ Pen K G p n H ∧ n + 2 * c < 2 ^ 40 ∧ i = (m : Int) ∧ 1 ≤ m ∧ m < 2 ^ 30 ∧ j = (c : Int) ∧ c < 1000 ∧
  ∀ r xs ps G' H', Stp (M1 p) G H G' H' → Pen K G' p (n + 2 * c) H' → G' r = some (.lst xs) → PrAll K G' xs ps → ps.length = c → PrIn m ps → Q (.ref r) H'
abbrev DDrawnPairs (P : Program) (w : World) (K : PySem.W.Frag) (mg : Str → Option Value) (base : Heap) : Prop := Df P w K mg base CX0 2 "_law_drawn_pairs" ["_law_pen_here", "_law_many", "_law_count"] (spDrawnPairs K)
theorem ok_DrawnPairs {f : Addr} {fd : FuncData} (F : Fun K "_law_drawn_pairs" "_law_drawn_pairs" sDrawnPairs f fd) (M : Mgs mg) (D_draw : DDraw P w K mg base) : FnOk P w K mg base CX0 2 f fd ["_law_pen_here", "_law_many", "_law_count"] (spDrawnPairs K) := by
  refine F.ok scDrawnPairs (fun vs H Q E h => ?_) (fun cdv A outer s H vs Q E hr h => ?_)
  · obtain ⟨p, i, j, m, c, n, G, rfl, _⟩ := h
    rfl
  · obtain ⟨p, i, j, m, c, n, G, rfl, g0, hp, hn, rfl, hm, hm2, rfl, hc, q⟩ := h
    refine ⟨_, ((pss_one (ps_ret (pe_lc (own := [("_law_k", 3)]) rfl scDrawnPairs.nd (pi_range1 (by rfl) M.range (pa_cons (pv 2) pa_nil)) (blkOk_by (N := ["_law_pen_here", "_law_many", "_law_count", "_law_k"]) (sc := defScope sDrawnPairs) (by decide +kernel)) (fun _ _ _ _ _ => (pg_name (i := 3) scDrawnPairs.nd rfl (Or.inl rfl))) (fun _ _ _ _ _ => pts_nil) (fun _ _ _ _ _ => (pe_tup (pa_cons (pe_df D_draw hr (by rfl) pass0 (pa_cons (pv 0) (pa_cons (pv 1) pa_nil))) (pa_cons (pe_df D_draw hr (by rfl) pass0 (pa_cons (pv 0) (pa_cons (pv 1) pa_nil))) pa_nil)))))))), ?_⟩
    walk_at "go0"
    refine lcR1 (M := M1 p) (n := c) rfl (by omega) g0 (fun i acc G' H' => ∃ ps, PrAll K G' acc ps ∧ ps.length = i ∧ PrIn m ps ∧ Pen K G' p (n + 2 * i) H') (fun L hL => ⟨[], .nil, rfl, (fun _ h => by cases h), hp.upd (hp.new hL)⟩)
      (fun L i acc G' H' Em Sk hi hL hL' gL hacc st pv hEm hSk => ?_) (fun L acc G' H' hL hacc st hL' gL pv => ?_)
    · obtain ⟨ps, hps, hpl, hpi, hpz⟩ := pv
      walk_at "go"
      refine ⟨rfl, ?_⟩
      walk_at "go"
      refine use_draw (m := m) st.gh hpz (by omega) rfl hm hm2 (fun d1 H1 hd1 s1 hp1 => ?_)
      walk_at "go"
      refine use_draw (m := m) s1.gh hp1 (by omega) rfl hm hm2 (fun d2 H2 hd2 s2 hp2 => ?_)
      walk_at "go"
      refine ⟨by show 2 ≤ sizeLine; decide, fun t nt => ?_⟩
      have s3 := (st.trans s1).trans s2
      have hL2 : H2 L = some (.lst acc) := s2.up _ _ (hp1.ne (s1.up _ _ (hpz.ne hL') hL')) (s1.up _ _ (hpz.ne hL') hL')
      have sN : Stp (M1 p) G' H2 (upd G' t (.tup [.int (d1 : Int), .int (d2 : Int)])) (upd H2 t (.tup [.int (d1 : Int), .int (d2 : Int)])) := Stp.new s2.gh nt
      have nLt : L ≠ t := ne_of_none hL2 nt
      refine hEm _ _ _ (s3.trans sN) (by rw [upd_ne nLt]; exact hL2) (by rw [upd_ne nLt]; exact gL) ⟨ps ++ [(d1, d2)], (hps.same sN.gg).snoc (tof upd_same), by rw [List.length_append, hpl]; rfl, fun e he => ?_, ?_⟩
      · rcases List.mem_append.mp he with he | he
        · exact hpi e he
        · rw [List.mem_singleton.mp he]
          exact ⟨hd1, hd2⟩
      · exact ((hp2.stp (Stp.new (M := M0) s2.gh nt) (fun z => z)).upd (hp2.ne hL2)).mono (by omega)
    · obtain ⟨ps, hps, hpl, hpi, hpz⟩ := pv
      exact q L acc ps (upd G' L _) H' (st.freeze hL' hL gL) (hpz.know (same_new gL) (by rw [upd_ne (hpz.ne hL').symm]; exact hpz.1)) upd_same (hps.same (same_new gL)) hpl hpi
def gR (rs : List Str) (i : Nat) : Str := rs.getD i ⟨#[]⟩
def stepD (rs : List Str) (ds : List Dr) (q : Nat × Nat) : List Dr := if mayD ds (gR rs q.1) (gR rs q.2) = true then ds ++ [(gR rs q.1, gR rs q.2)] else ds
def withD (rs : List Str) (ps : List (Nat × Nat)) : List Dr := ps.foldl (stepD rs) []
theorem withD_snoc (rs : List Str) (ps : List (Nat × Nat)) (q : Nat × Nat) : withD rs (ps ++ [q]) = stepD rs (withD rs ps) q := by unfold withD; rw [List.foldl_append]; rfl
theorem stepD_len (rs : List Str) (ds : List Dr) (q : Nat × Nat) : (stepD rs ds q).length ≤ ds.length + 1 := by
  unfold stepD
  split
  · rw [List.length_append]; exact Nat.le_refl _
  · omega
theorem foldD_len (rs : List Str) (ps : List (Nat × Nat)) : ∀ ds, (ps.foldl (stepD rs) ds).length ≤ ds.length + ps.length := by
  induction ps with
  | nil => intro ds; simp
  | cons q ps ih => intro ds; have h := ih (stepD rs ds q); have h2 := stepD_len rs ds q; rw [List.foldl_cons, List.length_cons]; omega
theorem withD_len (rs : List Str) (ps : List (Nat × Nat)) : (withD rs ps).length ≤ ps.length := by have h := foldD_len rs ps []; simp only [List.length_nil, Nat.zero_add] at h; exact h
theorem withD_ok {rs : List Str} (h : ∀ z ∈ rs, NmOk z) : ∀ (ps : List (Nat × Nat)) , PrIn rs.length ps → ∀ ds, (∀ d ∈ ds, d.1 ∈ rs ∧ d.2 ∈ rs) → ∀ d ∈ ps.foldl (stepD rs) ds, d.1 ∈ rs ∧ d.2 ∈ rs
  | [], _, ds, hd => hd
  | q :: ps, hp, ds, hd => by
    rw [List.foldl_cons]
    refine withD_ok h ps (fun e he => hp e (List.mem_cons_of_mem _ he)) _ ?_
    unfold stepD
    have hq := hp q List.mem_cons_self
    split
    · intro d hd'
      rcases List.mem_append.mp hd' with h1 | h1
      · exact hd d h1
      · rw [List.mem_singleton.mp h1]
        unfold gR
        rw [List.getD_eq_getElem?_getD, List.getD_eq_getElem?_getD, List.getElem?_eq_getElem hq.1, List.getElem?_eq_getElem hq.2]
        exact ⟨List.getElem_mem hq.1, List.getElem_mem hq.2⟩
    · exact hd
theorem withD_in {rs : List Str} (h : ∀ z ∈ rs, NmOk z) {ps : List (Nat × Nat)} (hp : PrIn rs.length ps) : ∀ d ∈ withD rs ps, d.1 ∈ rs ∧ d.2 ∈ rs := withD_ok h ps hp [] (fun _ h => by cases h)
theorem gR_get {rs : List Str} {i : Nat} (h : i < rs.length) : (rs.map V.str)[i]? = some (.str (gR rs i)) := by
  unfold gR
  rw [List.getElem?_map, List.getD_eq_getElem?_getD, List.getElem?_eq_getElem h]
  rfl
def spWithDoors (K : PySem.W.Frag) : Sp := fun vs H Q _ => ∃ (r l : Addr) (rs : List Str) (xs : List V) (ps : List (Nat × Nat)) (G : Hp), vs = [.ref r, .ref l] ∧ Same G H ∧ SqL K G r (rs.map V.str) ∧ (∀ z ∈ rs, NmOk z) ∧ SqL K G l xs ∧ PrAll K G xs ps ∧ PrIn rs.length ps ∧ ps.length < 64 ∧ 
  ∀ y G' H', Stp M0 G H G' H' → Yard K G' y rs (withD rs ps) → Q (.ref y) H'
abbrev DWithDoors (P : Program) (w : World) (K : PySem.W.Frag) (mg : Str → Option Value) (base : Heap) : Prop := Df P w K mg base CX0 3 "_law_with_doors" ["_law_rooms", "_law_pairs"] (spWithDoors K)
theorem ok_WithDoors {f : Addr} {fd : FuncData} (F : Fun K "_law_with_doors" "_law_with_doors" sWithDoors f fd) (M : Mgs mg) (D_may_door : DMayDoor P w K mg base) : FnOk P w K mg base CX0 3 f fd ["_law_rooms", "_law_pairs"] (spWithDoors K) := by
  refine F.ok scWithDoors (fun vs H Q E h => ?_) (fun cdv A outer s H vs Q E hr h => ?_)
  · obtain ⟨r, l, rs, xs, ps, G, rfl, _⟩ := h
    rfl
  · obtain ⟨r, l, rs, xs, ps, G, rfl, g0, hR, hRn, hX, hP, hPi, hPl, q⟩ := h
    have hu := hu_of hr
    refine ⟨_, ((pss_cons (ps_set (i := 2) scWithDoors.nd rfl (Or.inl rfl) (pe_disp (pps_cons pe_str (pe_callTy (k_list (K := K) rfl) (by rfl) M.list_ (by decide +kernel) (pa_cons (pv 0) pa_nil)) (pps_cons pe_str (pe_lst pa_nil) pps_nil)) (by rfl) (by rfl) (fun z => by cases z) (by decide)))
    (pss_cons (ps_for PassesOwn.never rfl (k_pi_list (K := K) rfl (pv 1)) (k_pg_tup (K := K) rfl rfl (pgs_cons (pg_name (i := 3) scWithDoors.nd rfl (Or.inl rfl)) (pgs_cons (pg_name (i := 4) scWithDoors.nd rfl (Or.inl rfl)) pgs_nil)))
    (pss_one (ps_if (pt_val (pe_df D_may_door hr (by rfl) pass0 (pa_cons (pv 2) (pa_cons (pe_ix (k_ix_list (K := K) rfl) (pv 0) (pv 3) (fun _ _ => rfl)) (pa_cons (pe_ix (k_ix_list (K := K) rfl) (pv 0) (pv 4) (fun _ _ => rfl)) pa_nil)))))
    (pss_one (ps_expr (k_bm (K := K) rfl PySem.F.plainAttrs_list PySem.F.slot_list_append PySem.F.type_list_append mt_append (pe_dget hu (pv 2) pe_str (fun _ _ => rfl)) (pa_cons (pe_tupF (pa_cons (pe_ix (k_ix_list (K := K) rfl) (pv 0) (pv 3) (fun _ _ => rfl)) (pa_cons (pe_ix (k_ix_list (K := K) rfl) (pv 0) (pv 4) (fun _ _ => rfl)) pa_nil))) pa_nil))))
    pss_nil)))
    (pss_one (ps_ret (pv 2)))))), ?_⟩
    walk_at "go0"
    intro y ny
    walk_at "go"
    have s1 : Stp M0 G H G (upd H y (.dK [])) := Stp.newM g0 ny
    have hy1 : (upd H y (.dK [])) y = some (.dK []) := upd_same
    generalize upd H y (.dK []) = H1 at s1 hy1 ⊢
    refine c_list (.inl (s1.gh.seq hR)) (fun a na => ?_)
    have s2 : Stp M0 G H (upd G a (.lst (rs.map V.str))) (upd H1 a (.lst (rs.map V.str))) := s1.trans (Stp.new s1.gh na)
    have ha2 : SqL K (upd G a (.lst (rs.map V.str))) a (rs.map V.str) := lof upd_same
    have hy2 : (upd H1 a (.lst (rs.map V.str))) y = some (.dK []) := by rw [upd_ne (ne_of_none hy1 na)]; exact hy1
    have gy2 : (upd G a (.lst (rs.map V.str))) y = none := by rw [upd_ne (ne_of_none hy1 na)]; exact none_of g0 ny
    generalize upd H1 a (.lst (rs.map V.str)) = H2 at s2 hy2 ⊢
    generalize upd G a (.lst (rs.map V.str)) = G2 at s2 ha2 gy2 ⊢
    walk_at "go"
    refine ⟨Nat.zero_le _, fun d nd => ?_⟩
    have s3 : Stp M0 G H G2 (upd H2 d (.lst [])) := s2.trans (Stp.newM s2.gh nd)
    have hd3 : (upd H2 d (.lst [])) d = some (.lst []) := upd_same
    have hy3 : (upd H2 d (.lst [])) y = some (.dK []) := by rw [upd_ne (ne_of_none hy2 nd)]; exact hy2
    have gd3 : G2 d = none := none_of s2.gh nd
    have nyd : y ≠ d := ne_of_none hy2 nd
    have hH : H d = none := s2.free nd
    generalize upd H2 d (.lst []) = H3 at s3 hd3 hy3 ⊢
    walk_at "go"
    refine ⟨hy3, [(.inr "rooms", .ref a), (.inr "doors", .ref d)], rfl, (by show 2 ≤ 15; decide), ?_⟩
    rw [merge2 (by decide +kernel)]
    have s4 : Stp M0 G H G2 (upd H3 y (.dK [(.inr "rooms", .ref a), (.inr "doors", .ref d)])) := s3.inner (M' := M1 y) (Stp.mut s3.gh hy3 gy2 rfl) (fun b e => .inr (by rw [e]; exact ny))
    have hy4 : (upd H3 y (.dK [(.inr "rooms", .ref a), (.inr "doors", .ref d)])) y = some (.dK [(.inr "rooms", .ref a), (.inr "doors", .ref d)]) := upd_same
    have hd4 : (upd H3 y (.dK [(.inr "rooms", .ref a), (.inr "doors", .ref d)])) d = some (.lst []) := by rw [upd_ne nyd.symm]; exact hd3
    generalize upd H3 y (.dK [(.inr "rooms", .ref a), (.inr "doors", .ref d)]) = H4 at s4 hy4 hd4 ⊢
    have s5 : Stp M0 G H (upd G2 y (.dK [(.inr "rooms", .ref a), (.inr "doors", .ref d)])) H4 := s4.freeze hy4 ny gy2
    have hY : Yd K (upd G2 y (.dK [(.inr "rooms", .ref a), (.inr "doors", .ref d)])) y rs d := ⟨a, upd_same, (same_new gy2).seq ha2⟩
    have gd5 : (upd G2 y (.dK [(.inr "rooms", .ref a), (.inr "doors", .ref d)])) d = none := by rw [upd_ne nyd.symm]; exact gd3
    generalize upd G2 y (.dK [(.inr "rooms", .ref a), (.inr "doors", .ref d)]) = G5 at s5 hY gd5
    walk_at "go"
    refine loopL (xs := xs) ((s5.gg.trans s5.gh).seq hX) (fun i σ H' => ∃ y3 y4, ∃ (G' : Hp) (zs : List V), σ = [some (.ref r), some (.ref l), some (.ref y), y3, y4] ∧ Stp M0 G H G' H' ∧ Same G5 G' ∧ H' d = some (.lst zs) ∧ G' d = none ∧ DrAll G' zs (withD rs (ps.take i)))
      ⟨none, none, G5, [], rfl, s5, Same.refl _, hd4, gd5, .nil⟩ (fun i σ H' _ pv => ?_) (fun i v σ H' hi hv pv => ?_) (fun σ H' pv => ?_)
    · obtain ⟨_, _, G', _, _, st, _⟩ := pv
      exact (st.gg.trans st.gh).seq hX
    · obtain ⟨y3, y4, G', zs, rfl, st, sg, hdz, gdz, hz⟩ := pv
      have hi' : i < ps.length := by rw [← hP.1]; exact hi
      obtain ⟨t, ht, hst⟩ := hP.2 i _ (List.getElem?_eq_getElem hi')
      cases ht.symm.trans hv
      have e1 := take_succ_get (List.getElem?_eq_getElem hi')
      have hin := hPi _ (List.getElem_mem hi')
      have hpin : PrIn rs.length (ps.take i) := fun e he => hPi e (List.mem_of_mem_take he)
      generalize ps[i] = pr at hst e1 hin
      refine r_gtup (Same.sqt (st.gg.trans st.gh) hst) rfl ?_
      walk_at "go"
      have hRs : SqL K H' r (rs.map V.str) := (st.gg.trans st.gh).seq hR
      refine r_ixL' hRs rfl (gR_get hin.1) ?_
      walk_at "go"
      refine r_ixL' hRs rfl (gR_get hin.2) ?_
      walk_at "go"
      have hwl : (withD rs (ps.take i)).length < 64 := Nat.lt_of_le_of_lt (withD_len _ _) (by rw [List.length_take]; omega)
      have hds : DsOk (withD rs (ps.take i)) := fun e he => by
        have h := withD_in hRn hpin e he
        exact ⟨(hRn _ h.1).sok, (hRn _ h.2).sok⟩
      have hG1 : Same (upd G' d (.lst zs)) H' := fun b o e => by
        by_cases h : b = d
        · subst h; rw [upd_same] at e; rw [hdz]; exact e
        · rw [upd_ne h] at e; exact st.gh b o e
      refine ⟨y, _, _, rs, withD rs (ps.take i), upd G' d (.lst zs), rfl, hG1, ⟨d, zs, (hY.same sg).same (same_new gdz), lof upd_same, hz.same (same_new gdz)⟩, hwl, hds, fun G6 H6 s6 => ?_⟩
      have s7 : Stp M0 G' H' G' H6 := s6.forget st.gh (fun _ z => z.elim)
      have hd6 : H6 d = some (.lst zs) := s6.up _ _ (fun z => z) hdz
      clear s6 hG1
      walk_at "go"
      have est : withD rs (ps.take (i + 1)) = stepD rs (withD rs (ps.take i)) pr := by rw [e1, withD_snoc]
      by_cases c : mayD (withD rs (ps.take i)) (gR rs pr.1) (gR rs pr.2) = true
      · rw [c]
        walk_at "go"
        refine r_dget' (((hY.same sg).same s7.gh).doors) ?_
        walk_at "go"
        refine r_ixL' ((s7.gg.trans s7.gh).seq (st.gg.seq hR)) rfl (gR_get hin.1) ?_
        walk_at "go"
        refine r_ixL' ((s7.gg.trans s7.gh).seq (st.gg.seq hR)) rfl (gR_get hin.2) ?_
        walk_at "go"
        refine ⟨by show 2 ≤ sizeLine; decide, fun t2 o2 nt2 ho2 => ?_⟩
        have s8 : Stp M0 G' H6 (upd G' t2 (.frz o2 (.tup [.str (gR rs pr.1), .str (gR rs pr.2)]))) (upd H6 t2 (.frz o2 (.tup [.str (gR rs pr.1), .str (gR rs pr.2)]))) := Stp.new s7.gh nt2
        have hf : (upd G' t2 (.frz o2 (.tup [.str (gR rs pr.1), .str (gR rs pr.2)]))) t2 = some (.frz o2 (.tup [.str (gR rs pr.1), .str (gR rs pr.2)])) := upd_same
        have ndt : d ≠ t2 := ne_of_none hd6 nt2
        have hd8 : (upd H6 t2 (.frz o2 (.tup [.str (gR rs pr.1), .str (gR rs pr.2)]))) d = some (.lst zs) := by rw [upd_ne ndt]; exact hd6
        have gd8 : (upd G' t2 (.frz o2 (.tup [.str (gR rs pr.1), .str (gR rs pr.2)]))) d = none := by rw [upd_ne ndt]; exact gdz
        generalize upd H6 t2 (.frz o2 (.tup [.str (gR rs pr.1), .str (gR rs pr.2)])) = H8 at s8 hd8 ⊢
        generalize upd G' t2 (.frz o2 (.tup [.str (gR rs pr.1), .str (gR rs pr.2)])) = G8 at s8 hf gd8
        walk_at "go"
        have s9 : Stp M0 G H G8 H8 := (st.trans s7).trans s8
        refine c_append hd8 (small5 (by rw [hz.1]; omega)) ?_
        refine ⟨_, _, G8, zs ++ [.ref t2], rfl, s9.inner (M' := M1 d) (Stp.mut s9.gh hd8 gd8 rfl) (fun b e => .inr (by rw [e]; exact hH)), sg.trans (s7.gg.trans s8.gg), upd_same, gd8, ?_⟩
        rw [est, stepD, if_pos c]
        exact (hz.same (s7.gg.trans s8.gg)).snoc' hf ho2
      · have c' : mayD (withD rs (ps.take i)) (gR rs pr.1) (gR rs pr.2) = false := by
          cases h : mayD (withD rs (ps.take i)) (gR rs pr.1) (gR rs pr.2)
          · rfl
          · exact absurd h c
        rw [c']
        walk_at "go"
        refine ⟨_, _, G', zs, rfl, st.trans s7, sg, hd6, gdz, ?_⟩
        rw [est, stepD, if_neg c]
        exact hz
    · obtain ⟨y3, y4, G', zs, rfl, st, sg, hdz, gdz, hz⟩ := pv
      rw [List.take_of_length_le (by rw [hP.1]; exact Nat.le_refl _)] at hz
      walk_at "go"
      exact q y (upd G' d (.lst zs)) H' (st.freeze hdz hH gdz) ⟨d, zs, (hY.same sg).same (same_new gdz), lof upd_same, hz.same (same_new gdz)⟩
end
abbrev sYard : Stmt := topS 31
theorem scYard : FnScope ["_law_pen_here", "_law_most", "_law_way", "_law_many", "_law_rooms", "_law_round_pairs", "_law_half", "_law_some", "_law_bit", "_law_ones", "_law_k"] ["_law_pen_here", "_law_most"] (defScope sYard) := ⟨rfl, rfl, rfl, by decide +kernel, rfl, by decide +kernel, by decide +kernel⟩
section
variable {P : Program} {w : World} {K : PySem.W.Frag} {mg : Str → Option Value} {base : Heap}
def spYard (K : PySem.W.Frag) : Sp := fun vs H Q _ => ∃ (p : Addr) (i : Int) (m n : Nat) (G : Hp), vs = [.ref p, .int i] ∧ Same G H ∧ Pen K G p n H ∧ n + 300 < 2 ^ 40 ∧ i = (m : Int) ∧ 1 ≤ m ∧ m ≤ 16 ∧
  ∀ y (rs : List Str) (ps : List (Nat × Nat)) G' H', Stp (M1 p) G H G' H' → Pen K G' p (n + 200) H' → Yard K G' y rs (withD rs ps) → 1 ≤ rs.length → rs.length ≤ m → (∀ z ∈ rs, NmOk z) → PrIn rs.length ps → ps.length < 64 → rs.Nodup → HasStr rs → Q (.ref y) H'
abbrev DYard (P : Program) (w : World) (K : PySem.W.Frag) (mg : Str → Option Value) (base : Heap) : Prop := Df P w K mg base CX0 4 "_law_yard" ["_law_pen_here", "_law_most"] (spYard K)
theorem ok_Yard {f : Addr} {fd : FuncData} (F : Fun K "_law_yard" "_law_yard" sYard f fd) (M : Mgs mg) (D_draw : DDraw P w K mg base) (D_names : DNames P w K mg base) (D_drawn_pairs : DDrawnPairs P w K mg base) (D_with_doors : DWithDoors P w K mg base) : FnOk P w K mg base CX0 4 f fd ["_law_pen_here", "_law_most"] (spYard K) := by
  refine F.ok scYard (fun vs H Q E h => ?_) (fun cdv A outer s H vs Q E hr h => ?_)
  · obtain ⟨p, i, m, n, G, rfl, _⟩ := h
    rfl
  · obtain ⟨p, i, m, n, G, rfl, g0, hp, hn, rfl, hm, hm2, q⟩ := h
    refine ⟨_, ((pss_cons (ps_asg (pe_tup (pa_cons (pe_df D_draw hr (by rfl) pass0 (pa_cons (pv 0) (pa_cons pe_int pa_nil))) (pa_cons (pe_op op_add pe_int (pe_df D_draw hr (by rfl) pass0 (pa_cons (pv 0) (pa_cons (pv 1) pa_nil)))) pa_nil))) (k_pg_tup (K := K) rfl rfl (pgs_cons (pg_name (i := 2) scYard.nd rfl (Or.inl rfl)) (pgs_cons (pg_name (i := 3) scYard.nd rfl (Or.inr rfl)) pgs_nil))))
    (pss_cons (ps_set (i := 3) scYard.nd rfl (Or.inr rfl) (pe_ifExp (pt_cmpR op_gt (pe_df D_draw hr (by rfl) pass0 (pa_cons (pv 0) (pa_cons pe_int pa_nil))) pe_int (nomark _)) (pe_callB (call_maxK rfl) (by rfl) M.max (by decide +kernel) (pa_cons (pv 3) (pa_cons (pe_callB (call_minK rfl) (by rfl) M.min (by decide +kernel) (pa_cons pe_int (pa_cons (pv 1) pa_nil))) pa_nil))) (pv 3)))
    (pss_cons (ps_set (i := 4) scYard.nd rfl (Or.inl rfl) (pe_df D_names hr (by rfl) pass0 (pa_cons (pv 0) (pa_cons (pv 3) pa_nil))))
    (pss_cons (ps_setLc (i := 5) (own := [("_law_k", 10)]) rfl scYard.nd rfl rfl (sw_true rfl rfl rfl (by decide +kernel)) (pi_range1 (by rfl) M.range (pa_cons (pv 3) pa_nil)) (blkOk_by (N := ["_law_pen_here", "_law_most", "_law_way", "_law_many", "_law_rooms", "_law_round_pairs", "_law_half", "_law_some", "_law_bit", "_law_ones", "_law_k"]) (sc := defScope sYard) (by decide +kernel)) (fun _ _ _ _ _ => (pg_name (i := 10) scYard.nd rfl (Or.inl rfl))) (fun _ _ _ _ _ => pts_nil) (fun _ _ _ _ _ => (pe_tup (pa_cons (pv 10) (pa_cons (pe_op op_mod (pe_op op_add (pv 10) pe_int) (pv 3)) pa_nil)))))
    (pss_cons (ps_asg (pe_tup (pa_cons (pe_callB (call_maxK rfl) (by rfl) M.max (by decide +kernel) (pa_cons pe_int (pa_cons (pe_op op_fdiv (pv 3) pe_int) pa_nil))) (pa_cons (pe_lst pa_nil) pa_nil))) (k_pg_tup (K := K) rfl rfl (pgs_cons (pg_name (i := 6) scYard.nd rfl (Or.inr rfl)) (pgs_cons (pg_name (i := 7) scYard.nd rfl (Or.inl rfl)) pgs_nil))))
    (pss_cons (ps_if (pt_cmpR op_lt (pv 2) pe_int (nomark _))
    (pss_one (ps_set (i := 7) scYard.nd rfl (Or.inl rfl) (pe_op op_cat (pv 5) (pe_df D_drawn_pairs hr (by rfl) pass0 (pa_cons (pv 0) (pa_cons (pv 3) (pa_cons (pe_ix (k_ix_list (K := K) rfl) (pe_lst (pa_cons pe_int (pa_cons pe_int (pa_cons pe_int pa_nil)))) (pv 2) (fun _ _ => rfl)) pa_nil)))))))
    (pss_one (ps_if (pt_cmpR op_eq (pv 2) pe_int (nomark _))
    (pss_one (ps_setLc (i := 7) (own := [("_law_k", 10)]) rfl scYard.nd rfl rfl (sw_true rfl rfl rfl (by decide +kernel)) (pi_range2 (by rfl) M.range (pa_cons pe_int (pa_cons (pv 3) pa_nil))) (blkOk_by (N := ["_law_pen_here", "_law_most", "_law_way", "_law_many", "_law_rooms", "_law_round_pairs", "_law_half", "_law_some", "_law_bit", "_law_ones", "_law_k"]) (sc := defScope sYard) (by decide +kernel)) (fun _ _ _ _ _ => (pg_name (i := 10) scYard.nd rfl (Or.inl rfl))) (fun _ _ _ _ _ => pts_nil) (fun _ _ _ _ _ => (pe_tup (pa_cons (pv 10) (pa_cons (pe_df D_draw hr (by rfl) pass0 (pa_cons (pv 0) (pa_cons (pv 10) pa_nil))) pa_nil))))))
    (pss_one (ps_if (pt_cmpR op_eq (pv 2) pe_int (nomark _))
    (pss_cons (ps_setLc (i := 7) (own := [("_law_k", 10)]) rfl scYard.nd rfl rfl (sw_true rfl rfl rfl (by decide +kernel)) (pi_range1 (by rfl) M.range (pa_cons (pe_op op_sub (pv 3) (pv 6)) pa_nil)) (blkOk_by (N := ["_law_pen_here", "_law_most", "_law_way", "_law_many", "_law_rooms", "_law_round_pairs", "_law_half", "_law_some", "_law_bit", "_law_ones", "_law_k"]) (sc := defScope sYard) (by decide +kernel)) (fun _ _ _ _ _ => (pg_name (i := 10) scYard.nd rfl (Or.inl rfl))) (fun _ _ _ _ _ => pts_nil) (fun _ _ _ _ _ => (pe_tup (pa_cons (pv 10) (pa_cons (pe_op op_add (pv 6) (pv 10)) pa_nil)))))
    (pss_one (ps_set (i := 7) scYard.nd rfl (Or.inl rfl) (pe_op op_cat (pv 7) (pe_lc (own := [("_law_k", 10)]) rfl scYard.nd (pi_range1 (by rfl) M.range (pa_cons (pe_op op_sub (pv 3) pe_int) pa_nil)) (blkOk_by (N := ["_law_pen_here", "_law_most", "_law_way", "_law_many", "_law_rooms", "_law_round_pairs", "_law_half", "_law_some", "_law_bit", "_law_ones", "_law_k"]) (sc := defScope sYard) (by decide +kernel)) (fun _ _ _ _ _ => (pg_name (i := 10) scYard.nd rfl (Or.inl rfl))) (fun _ _ _ _ _ => (pts_one (pt_cmpR op_ne (pv 10) (pe_op op_sub (pv 6) pe_int) (nomark _)))) (fun _ _ _ _ _ => (pe_tup (pa_cons (pv 10) (pa_cons (pe_op op_add (pv 10) pe_int) pa_nil)))))))))
    (pss_one (ps_if (pt_cmpR op_eq (pv 2) pe_int (nomark _))
    (pss_one (ps_for PassesOwn.never rfl (k_pi_tup (K := K) rfl (pe_tup (pa_cons pe_int (pa_cons pe_int (pa_cons pe_int pa_nil))))) (pg_name (i := 8) scYard.nd rfl (Or.inr rfl))
    (pss_cons (ps_setLc (i := 9) (own := [("_law_k", 10)]) rfl scYard.nd rfl rfl (sw_true rfl rfl rfl (by decide +kernel)) (pi_range1 (by rfl) M.range (pa_cons (pe_op op_sub (pv 3) (pv 8)) pa_nil)) (blkOk_by (N := ["_law_pen_here", "_law_most", "_law_way", "_law_many", "_law_rooms", "_law_round_pairs", "_law_half", "_law_some", "_law_bit", "_law_ones", "_law_k"]) (sc := defScope sYard) (by decide +kernel)) (fun _ _ _ _ _ => (pg_name (i := 10) scYard.nd rfl (Or.inl rfl))) (fun _ _ _ _ _ => (pts_one (pt_cmpR op_eq (pe_op op_mod (pe_op op_fdiv (pv 10) (pv 8)) pe_int) pe_int (nomark _)))) (fun _ _ _ _ _ => (pv 10)))
    (pss_one (ps_expr (k_bm (K := K) rfl PySem.F.plainAttrs_list PySem.F.slot_list_extend PySem.F.type_list_extend mt_extend (pv 7) (pa_cons (pe_lc (own := [("_law_k", 10)]) rfl scYard.nd (k_pi_list (K := K) rfl (pv 9)) (blkOk_by (N := ["_law_pen_here", "_law_most", "_law_way", "_law_many", "_law_rooms", "_law_round_pairs", "_law_half", "_law_some", "_law_bit", "_law_ones", "_law_k"]) (sc := defScope sYard) (by decide +kernel)) (fun _ _ _ _ _ => (pg_name (i := 10) scYard.nd rfl (Or.inl rfl))) (fun _ _ _ _ _ => pts_nil) (fun _ _ _ _ _ => (pe_tup (pa_cons (pv 10) (pa_cons (pe_op op_add (pv 10) (pv 8)) pa_nil))))) pa_nil)))))))
    (pss_one (ps_if (pt_cmpR op_eq (pv 2) pe_int (nomark _))
    (pss_cons (ps_setLc (i := 7) (own := [("_law_k", 10)]) rfl scYard.nd rfl rfl (sw_true rfl rfl rfl (by decide +kernel)) (pi_range1 (by rfl) M.range (pa_cons (pv 6) pa_nil)) (blkOk_by (N := ["_law_pen_here", "_law_most", "_law_way", "_law_many", "_law_rooms", "_law_round_pairs", "_law_half", "_law_some", "_law_bit", "_law_ones", "_law_k"]) (sc := defScope sYard) (by decide +kernel)) (fun _ _ _ _ _ => (pg_name (i := 10) scYard.nd rfl (Or.inl rfl))) (fun _ _ _ _ _ => pts_nil) (fun _ _ _ _ _ => (pe_tup (pa_cons (pv 10) (pa_cons (pe_op op_mod (pe_op op_add (pv 10) pe_int) (pv 6)) pa_nil)))))
    (pss_one (ps_set (i := 7) scYard.nd rfl (Or.inl rfl) (pe_op op_cat (pv 7) (pe_lc (own := [("_law_k", 10)]) rfl scYard.nd (pi_range2 (by rfl) M.range (pa_cons (pv 6) (pa_cons (pe_op op_sub (pv 3) pe_int) pa_nil))) (blkOk_by (N := ["_law_pen_here", "_law_most", "_law_way", "_law_many", "_law_rooms", "_law_round_pairs", "_law_half", "_law_some", "_law_bit", "_law_ones", "_law_k"]) (sc := defScope sYard) (by decide +kernel)) (fun _ _ _ _ _ => (pg_name (i := 10) scYard.nd rfl (Or.inl rfl))) (fun _ _ _ _ _ => pts_nil) (fun _ _ _ _ _ => (pe_tup (pa_cons (pv 10) (pa_cons (pe_op op_add (pv 10) pe_int) pa_nil)))))))))
    (pss_one (ps_set (i := 7) scYard.nd rfl (Or.inl rfl) (pe_df D_drawn_pairs hr (by rfl) pass0 (pa_cons (pv 0) (pa_cons (pv 3) (pa_cons (pe_callB (call_minK rfl) (by rfl) M.min (by decide +kernel) (pa_cons pe_int (pa_cons (pe_op op_mul pe_int (pv 3)) pa_nil))) pa_nil)))))))))))))))
    (pss_one (ps_ret (pe_df D_with_doors hr (by rfl) pass0 (pa_cons (pv 4) (pa_cons (pv 7) pa_nil)))))))))))), ?_⟩
    walk_at "go0"
    refine use_draw (m := 9) g0 hp (by omega) rfl (by omega) (by omega) (fun way H1 hway s1 hp1 => ?_)
    walk_at "go"
    refine use_draw (m := m) s1.gh hp1 (by omega) rfl (by omega) (by omega) (fun d2 H2 hd2 s2 hp2 => ?_)
    walk_at "go"
    refine ⟨by show 2 ≤ sizeLine; decide, fun t nt => ?_⟩
    have s3 : Stp (M1 p) G H G (upd H2 t (.tup [.int (way : Int), .int (1 + (d2 : Int))])) := (s1.trans s2).trans (Stp.newM s2.gh nt)
    have ht : (upd H2 t (.tup [.int (way : Int), .int (1 + (d2 : Int))])) t = some (.tup [.int (way : Int), .int (1 + (d2 : Int))]) := upd_same
    have hp3 := hp2.upd (x := .tup [.int (way : Int), .int (1 + (d2 : Int))]) (hp2.new nt)
    generalize upd H2 t (.tup [.int (way : Int), .int (1 + (d2 : Int))]) = H3 at s3 ht hp3 ⊢
    refine r_gtup (tof ht) rfl ?_
    walk_at "go"
    refine use_draw (m := 4) s3.gh hp3 (by omega) rfl (by omega) (by omega) (fun d3 H4 hd3 s4 hp4 => ?_)
    walk_at "go"
    refine if_join (fun v => ∃ mm : Nat, v = .int (mm : Int) ∧ 1 ≤ mm ∧ mm ≤ m) (fun _ Q' hQ => ?_) (fun _ Q' hQ => ?_) (fun v hv => ?_)
    · walk_at "go"
      refine hQ _ ⟨Int.toNat _, congrArg V.int (Int.toNat_of_nonneg ?_).symm, ?_, ?_⟩ <;> (repeat' split) <;> omega
    · walk_at "go"
      exact hQ _ ⟨1 + d2, by congr 1, by omega, by omega⟩
    obtain ⟨mm, rfl, hmm, hmm2⟩ := hv
    walk_at "go"
    refine ⟨p, _, mm, _, G, rfl, s4.gh, hp4, by omega, rfl, by omega, fun r rs G5 H5 s5 hp5 hrs hrl hrn hnd hstr => ?_⟩
    walk_at "go"
    have s6 : Stp (M1 p) G H G5 H5 := (s3.trans s4).trans s5
    refine lcR1t (M := M0) (n := mm) (by omega) (by omega) (by omega) s5.gh (fun i acc G' _ => PrP K mm i acc G') (fun _ _ => .nil) (fun L i acc G' H' Em Sk hi hL hL' gL hacc st pv hEm hSk => ?_) (fun L acc G' H' hL hacc st hL' gL pv => ?_)
    · walk_at "go"
      refine ⟨rfl, ?_⟩
      walk_at "go"
      obtain ⟨dd, ed, hdd⟩ := mod_nat (i := (i : Int) + 1) hmm
      refine ⟨by show 2 ≤ sizeLine; decide, fun t nt => ?_⟩
      exact pair_em (a := i) (b := dd) (by omega) (by exact ed) st hL' gL pv nt hEm (by omega) (by omega)
    obtain ⟨ps1, hps1, hpl1, hpi1⟩ := pv
    have s7 : Stp (M1 p) G H (upd G' L (.lst acc)) H' := (s6.trans st.weak).freeze hL' (s6.free hL) gL
    have hp7 : Pen K (upd G' L (.lst acc)) p _ H' := (hp5.stp0 st).know (same_new gL) (by rw [upd_ne (hp5.new hL).symm]; exact (hp5.stp0 st).1)
    have gr : (upd G' L (.lst acc)) L = some (.lst acc) := upd_same
    have hrs7 : SqL K (upd G' L (.lst acc)) r (rs.map V.str) := (st.gg.trans (same_new gL)).seq hrs
    replace hps1 : PrAll K (upd G' L (.lst acc)) acc ps1 := hps1.same (same_new gL)
    generalize upd G' L (.lst acc) = G7 at s7 hp7 gr hrs7 hps1
    clear hL' gL st hp5 s5 s6 hrs
    walk_at "go"
    refine ⟨Nat.zero_le _, fun o no => ?_⟩
    have s8 : Stp (M1 p) G H G7 (upd H' o (.lst [])) := s7.trans (Stp.newM s7.gh no)
    have ho8 : (upd H' o (.lst [])) o = some (.lst []) := upd_same
    have hp8 := hp7.upd (x := .lst []) (hp7.new no)
    have go8 : G7 o = none := none_of s7.gh no
    have hoH : H o = none := s7.free no
    generalize upd H' o (.lst []) = H8 at s8 ho8 hp8 ⊢
    clear s7 hp7
    walk_at "go"
    refine ⟨by show 2 ≤ sizeLine; decide, fun t2 nt2 => ?_⟩
    obtain ⟨half, ehalf, hh1, hh2⟩ : ∃ half : Nat, (if (mm : Int) / 2 > 1 then (mm : Int) / 2 else 1) = (half : Int) ∧ 1 ≤ half ∧ half ≤ mm := ⟨Int.toNat _, (Int.toNat_of_nonneg (by split <;> omega)).symm, by split <;> omega, by split <;> omega⟩
    rw [ehalf]
    have s9 : Stp (M1 p) G H G7 (upd H8 t2 (.tup [.int (half : Int), .ref o])) := s8.trans (Stp.newM s8.gh nt2)
    have ht9 : (upd H8 t2 (.tup [.int (half : Int), .ref o])) t2 = some (.tup [.int (half : Int), .ref o]) := upd_same
    have ho9 : (upd H8 t2 (.tup [.int (half : Int), .ref o])) o = some (.lst []) := by rw [upd_ne (ne_of_none ho8 nt2)]; exact ho8
    have hp9 := hp8.upd (x := .tup [.int (half : Int), .ref o]) (hp8.new nt2)
    generalize upd H8 t2 (.tup [.int (half : Int), .ref o]) = H9 at s9 ht9 ho9 hp9 ⊢
    clear s8 hp8 ho8 ht
    refine r_gtup (tof ht9) rfl ?_
    walk_at "go"
    have fin : ∀ (l : Addr) xs ps G' H' (E' : XK), Stp (M1 p) G H G' H' → Same G7 G' → Pen K G' p (n + 200) H' → G' l = some (.lst xs) → PrAll K G' xs ps → PrIn mm ps → ps.length < 64 → spWithDoors K [.ref r, .ref l] H' Q E' := fun l xs ps G' H' E' st sg hpen hl hps hpi hpl =>
      ⟨r, l, rs, xs, ps, G', rfl, st.gh, sg.seq hrs7, hrn, lof hl, hps, (by rw [hrl]; exact hpi), hpl, fun y G2 H2 s2 hy => q y rs ps G2 H2 (st.trans s2.weak) (hpen.stp0 s2) hy (by omega) (by omega) hrn (by rw [hrl]; exact hpi) hpl hnd hstr⟩
    -- two lists behind one another
    have fin2 : ∀ (l1 l2 lc : Addr) xs1 xs2 ps1 ps2 G' H' (E' : XK), Stp (M1 p) G H G' H' → Same G7 G' → Pen K G' p (n + 200) H' → PrAll K G' xs1 ps1 → PrAll K G' xs2 ps2 → PrIn mm ps1 → PrIn mm ps2 → ps1.length + ps2.length < 64 → H' lc = none → spWithDoors K [.ref r, .ref lc] (upd H' lc (.lst (xs1 ++ xs2))) Q E' := fun l1 l2 lc xs1 xs2 ps1 ps2 G' H' E' st sg hpen hps hps' hpi hpi' hpl nlc =>
      fin lc (xs1 ++ xs2) (ps1 ++ ps2) (upd G' lc _) _ E' (st.trans (Stp.new st.gh nlc)) (sg.trans (same_new (none_of st.gh nlc))) (hpen.stp (Stp.new (M := M0) st.gh nlc) (fun z => z)) upd_same ((hps.app hps').same (same_new (none_of st.gh nlc))) (hpi.app hpi') (by rw [List.length_append]; exact hpl)
    refine ifD (fun c1 => ?_) (fun c1 => ?_)
    · walk_at "go"
      refine ⟨by show 3 ≤ sizeLine; decide, fun l nl => ?_⟩
      walk_at "go"
      obtain ⟨cc, hcc, hcc4⟩ : ∃ cc : Nat, ([.int 0, .int 1, .int 4] : List V)[way]? = some (.int (cc : Int)) ∧ cc ≤ 4 := by
        have h : way = 0 ∨ way = 1 ∨ way = 2 := by omega
        rcases h with rfl | rfl | rfl
        · exact ⟨0, rfl, by omega⟩
        · exact ⟨1, rfl, by omega⟩
        · exact ⟨4, rfl, by omega⟩
      refine r_ixL' (lof upd_same) rfl hcc ?_
      walk_at "go"
      have sA : Stp (M1 p) G H G7 (upd H9 l (.lst [.int 0, .int 1, .int 4])) := s9.trans (Stp.newM s9.gh nl)
      have hpA := hp9.upd (x := .lst [.int 0, .int 1, .int 4]) (hp9.new nl)
      generalize upd H9 l (.lst [.int 0, .int 1, .int 4]) = H10 at sA hpA ⊢
      refine ⟨p, _, _, mm, cc, _, G7, rfl, sA.gh, hpA, by omega, rfl, by omega, by omega, rfl, by omega, fun l2 xs2 ps2 G11 H11 sB hpB hl2 hps2 hpl2 hpi2 => ?_⟩
      walk_at "go"
      have gL11 : G11 L = some (.lst acc) := sB.gg _ _ gr
      refine r_cat (sB.gh _ _ gL11) (sB.gh _ _ hl2) (Nat.le_of_lt (small5 (by rw [hps1.1, hps2.1]; omega))) (fun lc nlc => ?_)
      walk_at "go"
      exact fin2 L l2 lc acc xs2 ps1 ps2 G11 H11 _ (sA.trans sB) sB.gg (hpB.mono (by omega)) (hps1.same sB.gg) hps2 hpi1 hpi2 (by omega) nlc
    · walk_at "go"
      refine ifD (fun c3 => ?_) (fun c3 => ?_)
      · walk_at "go"
        refine lcR2 (M := M1 p) (n := mm - 1) (by omega) (by omega) (by omega) s9.gh (fun i acc G' H' => PrP K mm i acc G' ∧ Pen K G' p (n + 1 + 1 + 1 + 20 + i) H') (fun L hL => ⟨.nil, (hp9.upd (hp9.new hL)).mono (by omega)⟩) (fun L i acc G' H' Em Sk hi hL hL' gL hacc st pv hEm hSk => ?_) (fun L acc G' H' hL hacc st hL' gL pv => ?_)
        · obtain ⟨pv, hpz⟩ := pv
          walk_at "go"
          refine ⟨rfl, ?_⟩
          walk_at "go"
          refine use_draw (m := 1 + i) st.gh hpz (by omega) (by omega) (by omega) (by omega) (fun dd H10 hdd s10 hp10 => ?_)
          walk_at "go"
          refine ⟨by show 2 ≤ sizeLine; decide, fun t nt => ?_⟩
          have hL10 : H10 L = some (.lst acc) := s10.up _ _ (hpz.ne hL') hL'
          have hne : t ≠ p := hp10.new nt
          exact pair_emP (a := 1 + i) (b := dd) (by omega) rfl (st.trans s10) hL10 gL pv nt hEm (by omega) (by omega) (hp10.mono (by omega)) 
        · obtain ⟨⟨ps, hps, hpl, hpi⟩, hpz⟩ := pv
          walk_at "go"
          have sB : Stp (M1 p) G H (upd G' L (.lst acc)) H' := (s9.trans st).freeze hL' (s9.free hL) gL
          exact fin L acc ps (upd G' L _) H' _ sB (st.gg.trans (same_new gL)) ((hpz.know (same_new gL) (by rw [upd_ne (hpz.ne hL').symm]; exact hpz.1)).mono (by omega)) upd_same (hps.same (same_new gL)) hpi (by omega)
      · walk_at "go"
        refine ifD (fun c4 => ?_) (fun c4 => ?_)
        · walk_at "go"
          refine lcR1t (M := M0) (n := mm - half) (by omega) (by omega) (by omega) s9.gh (fun i acc G' _ => PrP K mm i acc G') (fun _ _ => .nil) (fun L i acc G' H' Em Sk hi hL hL' gL hacc st pv hEm hSk => ?_) (fun L acc G' H' hL hacc st hL' gL pv => ?_)
          · walk_at "go"
            refine ⟨rfl, ?_⟩
            walk_at "go"
            refine ⟨by show 2 ≤ sizeLine; decide, fun t nt => ?_⟩
            exact pair_em (a := i) (b := half + i) (by rfl) (by omega) st hL' gL pv nt hEm (by omega) (by omega)
          obtain ⟨psA, hpsA, hplA, hpiA⟩ := pv
          have sA : Stp (M1 p) G H (upd G' L (.lst acc)) H' := (s9.trans st.weak).freeze hL' (s9.free hL) gL
          have sgA : Same G7 (upd G' L (.lst acc)) := st.gg.trans (same_new gL)
          have hpA : Pen K (upd G' L (.lst acc)) p _ H' := (hp9.stp0 st).know (same_new gL) (by rw [upd_ne (hp9.new hL).symm]; exact (hp9.stp0 st).1)
          have grA : (upd G' L (.lst acc)) L = some (.lst acc) := upd_same
          replace hpsA : PrAll K (upd G' L (.lst acc)) acc psA := hpsA.same (same_new gL)
          generalize upd G' L (.lst acc) = GA at sA sgA hpA grA hpsA
          walk_at "go"
          refine lcR1t (M := M0) (n := mm - 1) (by omega) (by omega) (by omega) sA.gh (fun i acc G' _ => PrP K mm i acc G') (fun _ _ => .nil) (fun L5 i acc5 G' H' Em Sk hi hL5 hL5' gL5 hacc5 st pv hEm hSk => ?_) (fun L5 acc5 G' H' hL5 hacc5 st hL5' gL5 pv => ?_)
          · walk_at "go"
            refine ⟨rfl, ?_⟩
            walk_at "go"
            refine ifND (fun c => ?_) (fun c => ?_)
            · walk_at "go"
              refine ⟨by show 2 ≤ sizeLine; decide, fun t nt => ?_⟩
              exact pair_em (a := i) (b := i + 1) (by rfl) (by omega) st hL5' gL5 pv nt hEm (by omega) (by omega)
            · exact hSk _ _ st hL5' gL5 (by obtain ⟨ps, h1, h2, h3⟩ := pv; exact ⟨ps, h1, Nat.le_succ_of_le h2, h3⟩)
          obtain ⟨psB, hpsB, hplB, hpiB⟩ := pv
          have sB : Stp (M1 p) G H (upd G' L5 (.lst acc5)) H' := (sA.trans st.weak).freeze hL5' (sA.free hL5) gL5
          have sgB : Same GA (upd G' L5 (.lst acc5)) := st.gg.trans (same_new gL5)
          have hpB : Pen K (upd G' L5 (.lst acc5)) p _ H' := (hpA.stp0 st).know (same_new gL5) (by rw [upd_ne (hpA.new hL5).symm]; exact (hpA.stp0 st).1)
          have grB : (upd G' L5 (.lst acc5)) L5 = some (.lst acc5) := upd_same
          replace hpsB : PrAll K (upd G' L5 (.lst acc5)) acc5 psB := hpsB.same (same_new gL5)
          generalize upd G' L5 (.lst acc5) = GB at sB sgB hpB grB hpsB
          walk_at "go"
          refine r_cat (sB.gh _ _ (sgB _ _ grA)) (sB.gh _ _ grB) (Nat.le_of_lt (small5 (by rw [hpsA.1, hpsB.1]; omega))) (fun lc nlc => ?_)
          walk_at "go"
          exact fin2 L L5 lc _ _ psA psB GB _ _ sB (sgA.trans sgB) (hpB.mono (by omega)) (hpsA.same sgB) hpsB hpiA hpiB (by omega) nlc
        · walk_at "go"
          refine ifD (fun c5 => ?_) (fun c5 => ?_)
          · walk_at "go"
            refine ⟨by show 3 ≤ sizeLine; decide, fun t nt => ?_⟩
            have sA : Stp (M1 p) G H (upd G7 t (.tup [.int 1, .int 2, .int 4])) (upd H9 t (.tup [.int 1, .int 2, .int 4])) := s9.trans (Stp.new s9.gh nt)
            have gt : SqT K (upd G7 t (.tup [.int 1, .int 2, .int 4])) t [.int 1, .int 2, .int 4] := tof upd_same
            have oA : (upd H9 t (.tup [.int 1, .int 2, .int 4])) o = some (.lst []) := by rw [upd_ne (ne_of_none ho9 nt)]; exact ho9
            have goA : (upd G7 t (.tup [.int 1, .int 2, .int 4])) o = none := by rw [upd_ne (ne_of_none ho9 nt)]; exact go8
            have hpA : Pen K (upd G7 t (.tup [.int 1, .int 2, .int 4])) p _ (upd H9 t (.tup [.int 1, .int 2, .int 4])) := hp9.stp (Stp.new (M := M0) s9.gh nt) (fun z => z)
            have sgA : Same G7 (upd G7 t (.tup [.int 1, .int 2, .int 4])) := same_new (none_of s9.gh nt)
            generalize upd H9 t (.tup [.int 1, .int 2, .int 4]) = HA at sA oA hpA ⊢
            generalize upd G7 t (.tup [.int 1, .int 2, .int 4]) = GA at sA gt goA hpA sgA ⊢
            clear s9 hp9 ho9 ht9
            walk_at "go"
            refine loopT (Same.sqt sA.gh gt) (fun i σ H' => ∃ y8 y9 y10, ∃ (G' : Hp) (zs : List V) (ps : List (Nat × Nat)), σ = [some (.ref p), some (.int (m : Int)), some (.int (way : Int)), some (.int (mm : Int)), some (.ref r), some (.ref L), some (.int (half : Int)), some (.ref o), y8, y9, y10] ∧
              Stp (M1 p) G H G' H' ∧ Same GA G' ∧ H' o = some (.lst zs) ∧ G' o = none ∧ PrAll K G' zs ps ∧ ps.length ≤ i * 16 ∧ PrIn mm ps ∧ Pen K G' p (n + 200) H')
              ⟨none, none, none, GA, [], [], rfl, sA, Same.refl _, oA, goA, .nil, Nat.zero_le _, (fun _ h => by cases h), hpA.mono (by omega)⟩ (fun i σ H' _ pv => ?_) (fun i v σ H' hi hv pv => ?_) (fun σ H' pv => ?_)
            · obtain ⟨_, _, _, G', _, _, _, st, sg, _⟩ := pv
              exact Same.sqt (sg.trans st.gh) gt
            · obtain ⟨y8, y9, y10, G', zs, ps, rfl, st, sg, hoz, goz, hz, hzl, hzi, hpz⟩ := pv
              obtain ⟨bit, rfl, hb1, hb2⟩ : ∃ bit : Nat, v = .int (bit : Int) ∧ 1 ≤ bit ∧ bit ≤ 4 := by
                have hi3 : i < 3 := hi
                have h : i = 0 ∨ i = 1 ∨ i = 2 := by omega
                rcases h with rfl | rfl | rfl
                · exact ⟨1, (Option.some.inj hv).symm, by omega, by omega⟩
                · exact ⟨2, (Option.some.inj hv).symm, by omega, by omega⟩
                · exact ⟨4, (Option.some.inj hv).symm, by omega, by omega⟩
              walk_at "go"
              refine lcR1t (M := M0) (n := mm - bit) (by omega) (by omega) (by omega) st.gh (fun i acc G' _ => ∃ ks : List Nat, acc = ks.map (fun k : Nat => V.int (k : Int)) ∧ ks.length ≤ i ∧ ∀ k ∈ ks, k + bit < mm) (fun _ _ => ⟨[], rfl, Nat.zero_le _, fun _ h => by cases h⟩) (fun L5 i5 acc5 G5 H5 Em Sk hi5 hL5 hL5' gL5 hacc5 st5 pv hEm hSk => ?_) (fun L5 acc5 G5 H5 hL5 hacc5 st5 hL5' gL5 pv => ?_)
              · obtain ⟨ks, rfl, hkl, hks⟩ := pv
                walk_at "go"
                refine ⟨rfl, ?_⟩
                walk_at "go"
                refine ifD (fun c => ?_) (fun c => ?_)
                · walk_at "go"
                  refine hEm _ _ _ st5 hL5' gL5 ⟨ks ++ [i5], by rw [List.map_append]; rfl, by rw [List.length_append]; exact Nat.succ_le_succ hkl, fun k hk => ?_⟩
                  rcases List.mem_append.mp hk with hk | hk
                  · exact hks k hk
                  · rw [List.mem_singleton.mp hk]
                    omega
                · exact hSk _ _ st5 hL5' gL5 ⟨ks, rfl, Nat.le_succ_of_le hkl, hks⟩
              · obtain ⟨ks, rfl, hkl, hks⟩ := pv
                have s5 : Stp (M1 p) G H (upd G5 L5 (.lst (ks.map fun k : Nat => V.int (k : Int)))) H5 := (st.trans st5.weak).freeze hL5' (st.free hL5) gL5
                have sg5 : Same G' (upd G5 L5 (.lst (ks.map fun k : Nat => V.int (k : Int)))) := st5.gg.trans (same_new gL5)
                have oz5 : H5 o = some (.lst zs) := st5.up _ _ (fun z => z) hoz
                have noL : o ≠ L5 := ne_of_none hoz hL5
                have goz5 : (upd G5 L5 (.lst (ks.map fun k : Nat => V.int (k : Int)))) o = none := by rw [upd_ne noL]; exact (st5.fr _ _ hoz).trans goz
                have hpz5 : Pen K (upd G5 L5 (.lst (ks.map fun k : Nat => V.int (k : Int)))) p (n + 200) H5 := (hpz.stp0 st5).know (same_new gL5) (by rw [upd_ne (hpz.new hL5).symm]; exact (hpz.stp0 st5).1)
                have gk5 : (upd G5 L5 (.lst (ks.map fun k : Nat => V.int (k : Int)))) L5 = some (.lst (ks.map fun k : Nat => V.int (k : Int))) := upd_same
                generalize upd G5 L5 (.lst (ks.map fun k : Nat => V.int (k : Int))) = G6 at s5 sg5 goz5 hpz5 gk5
                clear st st5 hL5 hL5' gL5 hoz goz hpz
                walk_at "go"
                have hkl' : (ks.map fun k : Nat => V.int (k : Int)).length ≤ 15 := by rw [List.length_map]; omega
                refine lcL (M := M0) (G := G6) (lof gk5) (Nat.lt_of_le_of_lt hkl' (by decide)) s5.gh (fun i acc G' _ => PrP K mm i acc G') (fun _ _ => .nil) (fun L6 i6 v6 acc6 G7' H7 Em Sk hi6 hL6 hL6' gL6 hacc6 st6 pv hv6 hEm hSk => ?_) (fun L6 acc6 G7' H7 hL6 hacc6 st6 hL6' gL6 pv => ?_)
                · obtain ⟨k, hk, rfl⟩ := map_get hv6
                  have hkm := hks k (List.mem_of_getElem? hk)
                  walk_at "go"
                  refine ⟨rfl, ?_⟩
                  walk_at "go"
                  refine ⟨by show 2 ≤ sizeLine; decide, fun t nt => ?_⟩
                  exact pair_em (a := k) (b := k + bit) rfl (by omega) st6 hL6' gL6 pv nt hEm (by omega) hkm
                · obtain ⟨ps6, hps6, hpl6, hpi6⟩ := pv
                  have hacc' : acc6.length ≤ 15 := Nat.le_trans hacc6 hkl'
                  have hp6l : ps6.length ≤ 15 := by rw [← hps6.1]; exact hacc'
                  have oz7 : H7 o = some (.lst zs) := st6.up _ _ (fun z => z) oz5
                  have goz7 : G7' o = none := (st6.fr _ _ oz5).trans goz5
                  have hz48 : ps.length ≤ 48 := Nat.le_trans hzl (by have hi3 : i < 3 := hi; omega)
                  walk_at "go"
                  refine r_extend oz7 hL6' (Nat.le_of_lt (small5 (by rw [hz.1]; omega))) ?_
                  refine ⟨_, _, _, G7', zs ++ acc6, ps ++ ps6, rfl, (s5.trans st6.weak).inner (M' := M1 o) (Stp.mut st6.gh oz7 goz7 rfl) (fun a e => .inr (by rw [e]; exact hoH)), sg.trans (sg5.trans st6.gg), upd_same, goz7, (hz.same (sg5.trans st6.gg)).app hps6, ?_, hzi.app hpi6, (hpz5.stp0 st6).upd ((hpz5.stp0 st6).ne oz7)⟩
                  rw [List.length_append]
                  omega
            · obtain ⟨y8, y9, y10, G', zs, ps, rfl, st, sg, hoz, goz, hz, hzl, hzi, hpz⟩ := pv
              walk_at "go"
              have hzl3 : ps.length ≤ 3 * 16 := hzl
              exact fin o zs ps (upd G' o _) H' _ (st.freeze hoz hoH goz) (sgA.trans (sg.trans (same_new goz))) (hpz.know (same_new goz) (by rw [upd_ne (hpz.ne hoz).symm]; exact hpz.1)) upd_same (hz.same (same_new goz)) hzi (by omega)
          · walk_at "go"
            refine ifD (fun c6 => ?_) (fun c6 => ?_)
            · walk_at "go"
              refine lcR1t (M := M0) (n := half) (by omega) (by omega) (by omega) s9.gh (fun i acc G' _ => PrP K mm i acc G') (fun _ _ => .nil) (fun L i acc G' H' Em Sk hi hL hL' gL hacc st pv hEm hSk => ?_) (fun L acc G' H' hL hacc st hL' gL pv => ?_)
              · walk_at "go"
                refine ⟨rfl, ?_⟩
                walk_at "go"
                obtain ⟨dd, ed, hdd⟩ := mod_nat (i := (i : Int) + 1) hh1
                refine ⟨by show 2 ≤ sizeLine; decide, fun t nt => ?_⟩
                exact pair_em (a := i) (b := dd) (by rfl) (by exact ed) st hL' gL pv nt hEm (by omega) (by omega)
              obtain ⟨psA, hpsA, hplA, hpiA⟩ := pv
              have sA : Stp (M1 p) G H (upd G' L (.lst acc)) H' := (s9.trans st.weak).freeze hL' (s9.free hL) gL
              have sgA : Same G7 (upd G' L (.lst acc)) := st.gg.trans (same_new gL)
              have hpA : Pen K (upd G' L (.lst acc)) p _ H' := (hp9.stp0 st).know (same_new gL) (by rw [upd_ne (hp9.new hL).symm]; exact (hp9.stp0 st).1)
              have grA : (upd G' L (.lst acc)) L = some (.lst acc) := upd_same
              replace hpsA : PrAll K (upd G' L (.lst acc)) acc psA := hpsA.same (same_new gL)
              generalize upd G' L (.lst acc) = GA at sA sgA hpA grA hpsA
              walk_at "go"
              refine lcR2 (M := M0) (n := mm - 1 - half) (by omega) (by omega) (by omega) sA.gh (fun i acc G' _ => PrP K mm i acc G') (fun _ _ => .nil) (fun L5 i acc5 G' H' Em Sk hi hL5 hL5' gL5 hacc5 st pv hEm hSk => ?_) (fun L5 acc5 G' H' hL5 hacc5 st hL5' gL5 pv => ?_)
              · walk_at "go"
                refine ⟨rfl, ?_⟩
                walk_at "go"
                refine ⟨by show 2 ≤ sizeLine; decide, fun t nt => ?_⟩
                exact pair_em (a := half + i) (b := half + i + 1) (by omega) (by omega) st hL5' gL5 pv nt hEm (by omega) (by omega)
              obtain ⟨psB, hpsB, hplB, hpiB⟩ := pv
              have sB : Stp (M1 p) G H (upd G' L5 (.lst acc5)) H' := (sA.trans st.weak).freeze hL5' (sA.free hL5) gL5
              have sgB : Same GA (upd G' L5 (.lst acc5)) := st.gg.trans (same_new gL5)
              have hpB : Pen K (upd G' L5 (.lst acc5)) p _ H' := (hpA.stp0 st).know (same_new gL5) (by rw [upd_ne (hpA.new hL5).symm]; exact (hpA.stp0 st).1)
              have grB : (upd G' L5 (.lst acc5)) L5 = some (.lst acc5) := upd_same
              replace hpsB : PrAll K (upd G' L5 (.lst acc5)) acc5 psB := hpsB.same (same_new gL5)
              generalize upd G' L5 (.lst acc5) = GB at sB sgB hpB grB hpsB
              walk_at "go"
              refine r_cat (sB.gh _ _ (sgB _ _ grA)) (sB.gh _ _ grB) (Nat.le_of_lt (small5 (by rw [hpsA.1, hpsB.1]; omega))) (fun lc nlc => ?_)
              walk_at "go"
              exact fin2 L L5 lc _ _ psA psB GB _ _ sB (sgA.trans sgB) (hpB.mono (by omega)) (hpsA.same sgB) hpsB hpiA hpiB (by omega) nlc
            · walk_at "go"
              obtain ⟨cc, ecc, hcc⟩ : ∃ cc : Nat, (if 2 * (mm : Int) < 28 then 2 * (mm : Int) else 28) = (cc : Int) ∧ cc ≤ 28 := ⟨Int.toNat _, (Int.toNat_of_nonneg (by split <;> omega)).symm, by split <;> omega⟩
              rw [ecc]
              refine ⟨p, _, _, mm, cc, _, G7, rfl, s9.gh, hp9, by omega, rfl, by omega, by omega, rfl, by omega, fun l2 xs2 ps2 G11 H11 sB hpB hl2 hps2 hpl2 hpi2 => ?_⟩
              walk_at "go"
              exact fin l2 xs2 ps2 G11 H11 _ (s9.trans sB) sB.gg (hpB.mono (by omega)) hl2 hps2 hpi2 (by omega)
end
abbrev sStrolled : Stmt := topS 34
theorem scStrolled : FnScope ["_law_pen_here", "_law_yard_here", "_law_begin", "_law_steps", "_law_found", "_law_k", "_law_some"] ["_law_pen_here", "_law_yard_here", "_law_begin", "_law_steps"] (defScope sStrolled) := ⟨rfl, rfl, rfl, by decide +kernel, rfl, by decide +kernel, by decide +kernel⟩
section
variable {P : Program} {w : World} {K : PySem.W.Frag} {mg : Str → Option Value} {base : Heap}
/-- each next one is beside the one ahead -/
def Road (ds : List Dr) (ws : List Str) : Prop := ∀ (i : Nat) (a b : Str), ws[i]? = some a → ws[i + 1]? = some b → b ∈ nb ds a
theorem road_snoc {ds : List Dr} {l : List Str} {a c : Str} (h : Road ds l) (hl : l[l.length - 1]? = some a) (hc : c ∈ nb ds a) : Road ds (l ++ [c]) := by
  intro i x y hx hy
  by_cases h1 : i + 1 < l.length
  · rw [List.getElem?_append_left (by omega)] at hx
    rw [List.getElem?_append_left h1] at hy
    exact h i x y hx hy
  · have h2 : i + 1 < (l ++ [c]).length := by
      rcases Nat.lt_or_ge (i + 1) (l ++ [c]).length with z | z
      · exact z
      · rw [List.getElem?_eq_none z] at hy; cases hy
    rw [List.length_append] at h2
    have h3 : i + 1 = l.length := by simp at h2; omega
    rw [List.getElem?_append_right (by omega), h3, Nat.sub_self] at hy
    rw [List.getElem?_append_left (by omega), show i = l.length - 1 by omega, hl] at hx
    rw [← Option.some.inj hx, ← Option.some.inj hy]
    exact hc
theorem at_end {l : List Str} {a : Str} (h : l[l.length - 1]? = some a) : atI (l.map V.str) (-1) = some (.str a) := by
  have hn : 0 < l.length := by
    cases l with
    | nil => simp at h
    | cons x r => simp
  unfold atI ixN
  rw [if_neg (by omega), if_pos (by rw [List.length_map]; omega)]
  show (l.map V.str)[(((l.map V.str).length : Int) + -1).toNat]? = _
  rw [List.length_map, show ((l.length : Int) + -1).toNat = l.length - 1 by omega, List.getElem?_map, h]
  rfl
def spStrolled (K : PySem.W.Frag) : Sp := fun vs H Q _ => ∃ (p y : Addr) (b : Str) (j : Int) (c n : Nat) (rs : List Str) (ds : List Dr) (G : Hp), vs = [.ref p, .ref y, .str b, .int j] ∧ Same G H ∧ Pen K G p n H ∧ n + c < 2 ^ 40 ∧ Yard K G y rs ds ∧ ds.length < 64 ∧ DsOk ds ∧ j = (c : Int) ∧ c < 1000 ∧
  ∀ r (ws : List Str) G' H', Stp (M1 p) G H G' H' → Pen K G' p (n + c) H' → SqT K G' r ((b :: ws).map V.str) → ws.length ≤ c → Road ds (b :: ws) → Q (.ref r) H'
abbrev DStrolled (P : Program) (w : World) (K : PySem.W.Frag) (mg : Str → Option Value) (base : Heap) : Prop := Df P w K mg base CX0 3 "_law_strolled" ["_law_pen_here", "_law_yard_here", "_law_begin", "_law_steps"] (spStrolled K)
theorem ok_Strolled {f : Addr} {fd : FuncData} (F : Fun K "_law_strolled" "_law_strolled" sStrolled f fd) (M : Mgs mg) (D_near : DNear P w K mg base) (D_pick : DPick P w K mg base) : FnOk P w K mg base CX0 3 f fd ["_law_pen_here", "_law_yard_here", "_law_begin", "_law_steps"] (spStrolled K) := by
  refine F.ok scStrolled (fun vs H Q E h => ?_) (fun cdv A outer s H vs Q E hr h => ?_)
  · obtain ⟨p, y, b, j, c, n, rs, ds, G, rfl, _⟩ := h
    rfl
  · obtain ⟨p, y, b, j, c, n, rs, ds, G, rfl, g0, hp, hn, hy, hl, hok, rfl, hc, q⟩ := h
    have hu64 := hu64_of hr
    refine ⟨_, ((pss_cons (ps_set (i := 4) scStrolled.nd rfl (Or.inl rfl) (pe_lst (pa_cons (pv 2) pa_nil)))
    (pss_cons (ps_for PassesOwn.never rfl (pi_range1 (by rfl) M.range (pa_cons (pv 3) pa_nil)) (pg_name (i := 5) scStrolled.nd rfl (Or.inl rfl))
    (pss_cons (ps_set (i := 6) scStrolled.nd rfl (Or.inl rfl) (pe_df D_near hr (by rfl) pass0 (pa_cons (pv 1) (pa_cons (pe_ix (k_ix_list (K := K) rfl) (pv 4) (pe_un un_neg pe_int) (fun _ _ => rfl)) pa_nil))))
    (pss_one (ps_if (pt_cmpR (k_op_neD (K := K) rfl hu64) (pv 6) (pe_lst pa_nil) (nomark _))
    (pss_one (ps_expr (k_bm (K := K) rfl PySem.F.plainAttrs_list PySem.F.slot_list_append PySem.F.type_list_append mt_append (pv 4) (pa_cons (pe_df D_pick hr (by rfl) pass0 (pa_cons (pv 0) (pa_cons (pv 6) pa_nil))) pa_nil))))
    pss_nil))))
    (pss_one (ps_ret (pe_callTy (k_tuple (K := K) rfl) (by rfl) M.tuple_ (by decide +kernel) (pa_cons (pv 4) pa_nil))))))), ?_⟩
    walk_at "go0"
    refine ⟨by show 1 ≤ sizeLine; decide, fun o no => ?_⟩
    have s1 : Stp (M1 p) G H G (upd H o (.lst [.str b])) := Stp.newM g0 no
    have ho1 : (upd H o (.lst [.str b])) o = some (.lst (([b] : List Str).map V.str)) := upd_same
    have hp1 := hp.upd (x := .lst [.str b]) (hp.new no)
    have go1 : G o = none := none_of g0 no
    generalize upd H o (.lst [.str b]) = H1 at s1 ho1 hp1 ⊢
    walk_at "go"
    refine loopR1 (n := c) rfl (by omega) (fun i σ H' => ∃ y5 y6, ∃ (G' : Hp) (ws : List Str), σ = [some (.ref p), some (.ref y), some (.str b), some (.int (c : Int)), some (.ref o), y5, y6] ∧
      Stp (M1 p) G H G' H' ∧ H' o = some (.lst ((b :: ws).map V.str)) ∧ G' o = none ∧ ws.length ≤ i ∧ Road ds (b :: ws) ∧ Pen K G' p (n + i) H')
      ⟨none, none, G, [], rfl, s1, ho1, go1, Nat.le_refl 0, (fun i a b h h2 => by simp at h2), hp1⟩ (fun i σ H' hi pv => ?_) (fun σ H' pv => ?_)
    · obtain ⟨y5, y6, G', ws, rfl, st, hoz, goz, hwl, hrd, hpz⟩ := pv
      walk_at "go"
      obtain ⟨la, hla⟩ : ∃ la, (b :: ws)[(b :: ws).length - 1]? = some la := ⟨_, List.getElem?_eq_getElem (by simp)⟩
      refine r_ixL (lof hoz) (at_end hla) ?_
      walk_at "go"
      refine use_near st.gh (hy.same st.gg) hl (fun r2 ys G2 H2 s2 h2 p2 _ => ?_)
      walk_at "go"
      refine ⟨Nat.zero_le _, fun z nz => ?_⟩
      have oz2 : H2 o = some (.lst ((b :: ws).map V.str)) := s2.up _ _ (fun z => z) hoz
      have goz2 : G2 o = none := (s2.fr _ _ hoz).trans goz
      have hpz2 := hpz.stp0 s2
      have s3 : Stp (M1 p) G H G2 (upd H2 z (.lst [])) := (st.trans s2.weak).trans (Stp.newM s2.gh nz)
      have hz3 : (upd H2 z (.lst [])) z = some (.lst (([] : List Str).map V.str)) := upd_same
      have oz3 : (upd H2 z (.lst [])) o = some (.lst ((b :: ws).map V.str)) := by rw [upd_ne (ne_of_none oz2 nz)]; exact oz2
      have hpz3 := hpz2.upd (x := .lst []) (hpz2.new nz)
      generalize upd H2 z (.lst []) = H3 at s3 hz3 oz3 hpz3 ⊢
      have hys : ∀ e ∈ ys, SOk e := fun e he => nb_ok hok (p2.mem_iff.mp he)
      refine r_neLL (s3.gh.seq h2) (lof hz3) hys (fun _ h => by cases h) ?_
      walk_at "go"
      refine ifND (fun c1 => ?_) (fun c1 => ?_)
      · have hpos : 1 ≤ (ys.map V.str).length := by
          cases ys with
          | nil => exact absurd rfl c1
          | cons x r => simp
        have hlt : (ys.map V.str).length < 2 ^ 30 := by
          rw [List.length_map, p2.length_eq]
          unfold nb
          rw [List.length_map]
          exact Nat.lt_of_le_of_lt (List.length_filter_le _ _) (by omega)
        walk_at "go"
        refine use_pick s3.gh hpz3 (by omega) (.inl ⟨r2, rfl, h2⟩) hpos hlt (fun d x H4 hx s4 hp4 => ?_)
        obtain ⟨e, he, rfl⟩ := map_get hx
        have oz4 : H4 o = some (.lst ((b :: ws).map V.str)) := s4.up _ _ (hpz3.ne oz3) oz3
        walk_at "go"
        refine c_append oz4 (small5 (by rw [List.length_map, List.length_cons]; omega)) ?_
        refine ⟨_, _, G2, ws ++ [e], rfl, (s3.trans s4).inner (M' := M1 o) (Stp.mut s4.gh oz4 goz2 rfl) (fun a e => .inr (by rw [e]; exact no)), ?_, goz2, by rw [List.length_append]; exact Nat.succ_le_succ hwl, ?_, (hp4.upd (hp4.ne oz4)).mono (by omega)⟩
        · rw [upd_same, ← List.cons_append, List.map_append]
          rfl
        · rw [← List.cons_append]
          exact road_snoc hrd hla (p2.mem_iff.mp (List.mem_of_getElem? he))
      · walk_at "go"
        exact ⟨_, _, G2, ws, rfl, s3, oz3, goz2, Nat.le_succ_of_le hwl, hrd, hpz3.mono (by omega)⟩
    · obtain ⟨y5, y6, G', ws, rfl, st, hoz, goz, hwl, hrd, hpz⟩ := pv
      walk_at "go"
      refine c_tupleL (lof hoz) (fun r nr => ?_)
      have hne := hpz.new nr
      exact q r ws (upd G' r _) _ (st.trans (Stp.new st.gh nr)) (hpz.stp (Stp.new (M := M0) st.gh nr) (fun z => z)) (tof upd_same) hwl hrd
end
abbrev sIsName : Stmt := topS 11
theorem scIsName : FnScope ["thing", "sign"] ["thing"] (defScope sIsName) := ⟨rfl, rfl, rfl, by decide +kernel, rfl, by decide +kernel, by decide +kernel⟩
abbrev sWrongNames : Stmt := topS 12
theorem scWrongNames : FnScope ["things", "ahead", "thing"] ["things"] (defScope sWrongNames) := ⟨rfl, rfl, rfl, by decide +kernel, rfl, by decide +kernel, by decide +kernel⟩
section
variable {P : Program} {w : World} {K : PySem.W.Frag} {mg : Str → Option Value} {base : Heap}
theorem in_letters {c : Nat} (h1 : 97 ≤ c) (h2 : c ≤ 122) : c ∈ letters.cps.toList := (by decide +kernel : ∀ c ∈ List.range' 97 26, c ∈ letters.cps.toList) c (List.mem_range'_1.mpr ⟨h1, by omega⟩)
def spIsName (K : PySem.W.Frag) : Sp := fun vs H Q _ => ∃ (z : Str) (G : Hp), vs = [.str z] ∧ Same G H ∧ NmOk z ∧ ∀ G' H', Stp M0 G H G' H' → Q (.bl true) H'
abbrev DIsName (P : Program) (w : World) (K : PySem.W.Frag) (mg : Str → Option Value) (base : Heap) : Prop := Df P w K mg base CX0 1 "is_name" ["thing"] (spIsName K)
theorem ok_IsName {f : Addr} {fd : FuncData} (F : Fun K "is_name" "is_name" sIsName f fd) (M : Mgs mg) {tkL : Tok} (c_LETTERS : mg "LETTERS" = some (.str "abcdefghijklmnopqrstuvwxyz" tkL)) {tkN : Tok} (c_LONGEST : mg "LONGEST" = some (.int 8 tkN)) : FnOk P w K mg base CX0 1 f fd ["thing"] (spIsName K) := by
  refine F.ok scIsName (fun vs H Q E h => ?_) (fun cdv A outer s H vs Q E hr h => ?_)
  · obtain ⟨z, G, rfl, _⟩ := h
    rfl
  · obtain ⟨z, G, rfl, g0, hz, q⟩ := h
    refine ⟨_, ((pss_cons (ps_if (PW.pt (pw_or (pt_not (pt_val (pe_callB (k_isi (K := K) rfl) (by rfl) M.isinstance (by decide +kernel) (pa_cons (pv 0) (pa_cons (pe_bltn (v := V.ty "str") (u := Value.type "str") (by rfl) M.str_ (by decide +kernel) rfl) pa_nil))))) (pw_or1 (pt_not (pt_chain op_le op_le pe_int (pe_callB call_lenS (by rfl) M.len PySem.boot_len (pa_cons (pv 0) pa_nil)) (pe_glob (v := V.int 8) (by rfl) c_LONGEST ⟨_, rfl⟩))))))
    (pss_one (ps_ret pe_bl))
    pss_nil)
    (pss_one (ps_ret (pe_callB (k_all (K := K) rfl rfl) (by rfl) M.all (by decide +kernel) (pa_cons (pe_lc (own := [("sign", 1)]) rfl scIsName.nd (pi_str (pv 0)) (blkOk_by (N := ["thing", "sign"]) (sc := defScope sIsName) (by decide +kernel)) (fun _ _ _ _ _ => (pg_name (i := 1) scIsName.nd rfl (Or.inl rfl))) (fun _ _ _ _ _ => pts_nil) (fun _ _ _ _ _ => (pe_cmpR op_in_sign (pv 1) (pe_glob (v := V.str "abcdefghijklmnopqrstuvwxyz") (by rfl) c_LETTERS ⟨_, rfl⟩) (by rfl)))) pa_nil)))))), ?_⟩
    have hsz : z.length ≤ sizeLine := Nat.le_trans hz.2.1 (by decide)
    walk_at "go0"
    refine c_isiS ?_
    walk_at "go"
    refine r_chain ?_
    walk_at "go"
    rw [decide_eq_true (show (1 : Int) ≤ (z.length : Int) from by have := hz.1; omega)]
    walk_at "go"
    rw [decide_eq_true (show (z.length : Int) ≤ 8 from by have := hz.2.1; omega)]
    walk_at "go"
    refine r_lcS ?_
    walk_at "go"
    refine lcS (M := M0) (Nat.lt_of_le_of_lt hz.2.1 (by decide)) g0 (fun i acc G' H' => G = G' ∧ acc = (List.replicate i true).map V.bl) (fun L hL => ⟨rfl, rfl⟩)
      (fun L i c acc G' H' Em Sk hi hL hL' gL hacc st pv hc hEm hSk => ?_) (fun L acc G' H' hL hacc st hL' gL pv => ?_)
    · obtain ⟨e, rfl⟩ := pv
      subst e
      walk_at "go"
      refine ⟨rfl, ?_⟩
      walk_at "go"
      have hb := hz.2.2 c (by rw [Array.mem_toList_iff]; exact Array.mem_of_getElem? hc)
      refine ⟨c, letters, rfl, rfl, ?_⟩
      rw [decide_eq_true (in_letters hb.1 hb.2)]
      refine hEm _ G H' st hL' gL ⟨rfl, ?_⟩
      rw [List.replicate_succ', List.map_append]
      rfl
    · obtain ⟨e, rfl⟩ := pv
      subst e
      walk_at "go"
      refine c_allB (lof hL') ?_
      walk_at "go"
      rw [show (List.replicate z.cps.size true).all id = true from by simp]
      exact q G H' st
def spWrongNames (K : PySem.W.Frag) : Sp := fun vs H Q _ => ∃ (a : Addr) (rs : List Str) (G : Hp), vs = [.ref a] ∧ Same G H ∧ (SqL K G a (rs.map V.str) ∨ SqT K G a (rs.map V.str)) ∧ (∀ z ∈ rs, NmOk z) ∧ rs.Nodup ∧ 1 ≤ rs.length ∧ rs.length < 64 ∧
  ∀ r G' H', Stp M0 G H G' H' → SqL K G' r [] → Q (.ref r) H'
abbrev DWrongNames (P : Program) (w : World) (K : PySem.W.Frag) (mg : Str → Option Value) (base : Heap) : Prop := Df P w K mg base CX0 2 "wrong_names" ["things"] (spWrongNames K)
theorem nodup_take {α : Type} {l : List α} (h : l.Nodup) {i : Nat} {z : α} (e : l[i]? = some z) : z ∉ l.take i := by
  intro m
  obtain ⟨j, hj, ej⟩ := List.mem_iff_getElem.mp m
  rw [List.length_take] at hj
  rw [List.getElem_take] at ej
  have hi : i < l.length := (List.getElem?_eq_some_iff.mp e).1
  have ei := (List.getElem?_eq_some_iff.mp e).2
  have := (List.getElem_inj (h₀ := by omega) (h₁ := hi) h).mp (ej.trans ei.symm)
  omega
theorem walk_q {G H : Hp} {a : Addr} {xs : List V} (g : Same G H) (h : SqL K G a xs ∨ SqT K G a xs) : SqL K H a xs ∨ SqT K H a xs := h.elim (fun h => .inl (g.seq h)) (fun h => .inr (Same.sqt g h))
theorem ok_WrongNames {f : Addr} {fd : FuncData} (F : Fun K "wrong_names" "wrong_names" sWrongNames f fd) (M : Mgs mg) (D_is_name : DIsName P w K mg base) : FnOk P w K mg base CX0 2 f fd ["things"] (spWrongNames K) := by
  refine F.ok scWrongNames (fun vs H Q E h => ?_) (fun cdv A outer s H vs Q E hr h => ?_)
  · obtain ⟨a, rs, G, rfl, _⟩ := h
    rfl
  · obtain ⟨a, rs, G, rfl, g0, hs, hn, hd, h1, h64, q⟩ := h
    refine ⟨_, ((pss_cons (ps_if (pt_not (pt_val (pe_callB (k_isiT (K := K) rfl) (by rfl) M.isinstance (by decide +kernel) (pa_cons (pv 0) (pa_cons (pe_tup (pa_cons (pe_bltn (v := V.ty "list") (u := Value.type "list") (by rfl) M.list_ (by decide +kernel) rfl) (pa_cons (pe_bltn (v := V.ty "tuple") (u := Value.type "tuple") (by rfl) M.tuple_ (by decide +kernel) rfl) pa_nil))) pa_nil)))))
    (pss_one (ps_ret (pe_lst (pa_cons (pv 0) pa_nil))))
    pss_nil)
    (pss_cons (ps_if (pt_cmpR op_eq (pe_callB (k_len (K := K) rfl) (by rfl) M.len PySem.boot_len (pa_cons (pv 0) pa_nil)) pe_int (nomark _))
    (pss_one (ps_ret (pe_lst (pa_cons (pe_tup pa_nil) pa_nil))))
    pss_nil)
    (pss_cons (ps_set (i := 1) scWrongNames.nd rfl (Or.inl rfl) (pe_callTy0 (k_set0K (P := P) (w := w) rfl rfl) (by rfl) M.set_ (by decide +kernel)))
    (pss_cons (ps_for PassesOwn.never rfl (pi_eith (k_pi_list (K := K) rfl (pv 0)) (k_pi_tup (K := K) rfl (pv 0))) (pg_name (i := 2) scWrongNames.nd rfl (Or.inl rfl))
    (pss_cons (ps_if (PW.pt (pw_or (pt_not (pt_val (pe_df D_is_name hr (by rfl) pass0 (pa_cons (pv 2) pa_nil)))) (pw_or1 (pt_cmpR (k_sinK (P := P) (w := w) rfl rfl) (pv 2) (pv 1) (by rfl)))))
    (pss_one (ps_ret (pe_lst (pa_cons (pv 2) pa_nil))))
    pss_nil)
    (pss_one (ps_expr (k_saddK (P := P) (w := w) rfl rfl (pv 1) (pa_cons (pv 2) pa_nil))))))
    (pss_one (ps_ret (pe_lst pa_nil)))))))), ?_⟩
    walk_at "go0"
    refine ⟨by show 2 ≤ sizeLine; decide, fun t nt => ?_⟩
    have s1 : Stp M0 G H G (upd H t (.tup [.ty "list", .ty "tuple"])) := Stp.newM g0 nt
    have ht : (upd H t (.tup [.ty "list", .ty "tuple"])) t = some (.tup [.ty "list", .ty "tuple"]) := upd_same
    generalize upd H t (.tup [.ty "list", .ty "tuple"]) = H1 at s1 ht ⊢
    walk_at "go"
    refine c_isiLT (walk_q s1.gh hs) ht ?_
    walk_at "go"
    refine c_len (walk_q s1.gh hs) ?_
    walk_at "go"
    refine ifD (fun c => ?_) (fun _ => ?_)
    · exfalso
      have c' := V.int.inj c
      rw [List.length_map] at c'
      omega
    walk_at "go"
    refine ⟨rfl, fun s ns => ?_⟩
    have s2 : Stp M0 G H G (upd H1 s (SetK P w s (fun _ => false) 0)) := s1.trans (Stp.newM s1.gh ns)
    have hs2 : (upd H1 s (SetK P w s (fun _ => false) 0)) s = some (SetK P w s (fun _ => false) 0) := upd_same
    have gs : G s = none := none_of s1.gh ns
    have hsH : H s = none := s1.free ns
    generalize upd H1 s (SetK P w s (fun _ => false) 0) = H2 at s2 hs2 ⊢
    walk_at "go"
    refine forQ' (G := G) (xs := rs.map V.str) (p := a) (fun R h => by walk_at "go"; exact h) s2.gh hs (fun i σ H' => ∃ y2 n, ∃ S : Key → Bool, σ = [some (.ref a), some (.ref s), y2] ∧ Stp M0 G H G H' ∧ H' s = some (SetK P w s S n) ∧ n ≤ i ∧ ∀ z : Str, S (.inr z) = decide (z ∈ rs.take i))
      ⟨none, 0, _, rfl, s2, hs2, Nat.le_refl 0, fun z => by simp⟩ (fun i σ H' _ pv => ?_) (fun i v σ H' hi hv pv => ?_) (fun σ H' pv => ?_)
    · obtain ⟨_, _, _, _, st, _⟩ := pv
      exact st.gh
    · obtain ⟨y2, n, S, rfl, st, hS, hni, hSe⟩ := pv
      obtain ⟨z, hz, rfl⟩ := map_get hv
      rw [List.length_map] at hi
      have hzm := List.mem_of_getElem? hz
      walk_at "go"
      refine ⟨z, G, rfl, st.gh, hn z hzm, fun G3 H3 s3 => ?_⟩
      have hS3 : H3 s = some (SetK P w s S n) := s3.up _ _ (fun z => z) hS
      have st3 : Stp M0 G H G H3 := st.trans (s3.forget st.gh (fun _ z => z.elim))
      walk_at "go"
      have hSz : S (.inr z) = false := by
        rw [hSe]
        exact decide_eq_false (nodup_take hd hz)
      refine ⟨.inr z, s, S, n, rfl, rfl, hS3, ?_⟩
      rw [show (if (false : Bool) = true then !S (.inr z) else S (.inr z)) = false from hSz]
      walk_at "go"
      refine ⟨⟨s, S, n, rfl, hS3⟩, ?_⟩
      walk_at "go"
      refine ⟨s, .inr z, S, n, rfl, rfl, hS3, by show n + 1 < scanBound; exact Nat.lt_of_lt_of_le (show n + 1 < 66 by omega) (by decide), ?_⟩
      walk_at "go"
      refine ⟨_, _, _, rfl, st3.inner (M' := M1 s) (Stp.mut st3.gh hS3 gs rfl) (fun b e => .inr (by rw [e]; exact hsH)), upd_same, ?_, fun y => ?_⟩
      · rw [if_neg (by rw [hSz]; exact Bool.false_ne_true)]; omega
      · rw [hSe, take_succ_get hz]
        have e : decide ((Sum.inr y : Key) = Sum.inr z) = decide (y = z) := decide_eq_decide.mpr ⟨fun e => Sum.inr.inj e, fun e => by rw [e]⟩
        rw [e, ← Bool.decide_or]
        exact decide_eq_decide.mpr (by rw [List.mem_append, List.mem_singleton])
    · obtain ⟨y2, n, S, rfl, st, hS, hni, hSe⟩ := pv
      walk_at "go"
      refine ⟨Nat.zero_le _, fun o no => ?_⟩
      exact q o (upd G o (.lst [])) (upd H' o (.lst [])) (st.trans (Stp.new st.gh no)) (lof upd_same)
end
abbrev sRisingPair : Stmt := topS 15
theorem scRisingPair : FnScope ["pair"] ["pair"] (defScope sRisingPair) := ⟨rfl, rfl, rfl, by decide +kernel, rfl, by decide +kernel, by decide +kernel⟩
abbrev sIsPair : Stmt := topS 14
theorem scIsPair : FnScope ["thing", "names", "one", "other"] ["thing", "names"] (defScope sIsPair) := ⟨rfl, rfl, rfl, by decide +kernel, rfl, by decide +kernel, by decide +kernel⟩
abbrev sWrongPairs : Stmt := topS 13
theorem scWrongPairs : FnScope ["things", "names", "ahead", "thing", "pair"] ["things", "names"] (defScope sWrongPairs) := ⟨rfl, rfl, rfl, by decide +kernel, rfl, by decide +kernel, by decide +kernel⟩
section
variable {P : Program} {w : World} {K : PySem.W.Frag} {mg : Str → Option Value} {base : Heap}
theorem q_ix {K : PySem.W.Frag} {H : Hp} {Q : VK} {p : Addr} {xs : List V} {v : V} {i : Int} {n : Nat} (h : SqQ K H p xs) (e : i = (n : Int)) (c : xs[n]? = some v) (q : Q v H) : rIx K (.ref p) (.int i) H Q :=
  h.elim (fun h => .inl (r_ixL' h e c q)) (fun h => .inr (.inl (r_ixT' h e c q)))
def spRisingPair (K : PySem.W.Frag) : Sp := fun vs H Q _ => ∃ (t : Addr) (d : Dr) (G : Hp), vs = [.ref t] ∧ Same G H ∧ SqQ K G t [.str d.1, .str d.2] ∧
  ∀ r G' H', Stp M0 G H G' H' → SqT K G' r [.str (ris d).1, .str (ris d).2] → Q (.ref r) H'
abbrev DRisingPair (P : Program) (w : World) (K : PySem.W.Frag) (mg : Str → Option Value) (base : Heap) : Prop := Df P w K mg base CX0 1 "rising_pair" ["pair"] (spRisingPair K)
theorem ok_RisingPair {f : Addr} {fd : FuncData} (F : Fun K "rising_pair" "rising_pair" sRisingPair f fd) (M : Mgs mg) : FnOk P w K mg base CX0 1 f fd ["pair"] (spRisingPair K) := by
  refine F.ok scRisingPair (fun vs H Q E h => ?_) (fun cdv A outer s H vs Q E hr h => ?_)
  · obtain ⟨t, d, G, rfl, _⟩ := h
    rfl
  · obtain ⟨t, d, G, rfl, g0, ht, q⟩ := h
    refine ⟨_, ((pss_one (ps_ret (pe_tup (pa_cons (pe_callB (call_minS rfl) (by rfl) M.min (by decide +kernel) (pa_cons (pe_ix (k_ix_seq (K := K) rfl) (pv 0) pe_int (fun _ _ => rfl)) (pa_cons (pe_ix (k_ix_seq (K := K) rfl) (pv 0) pe_int (fun _ _ => rfl)) pa_nil))) (pa_cons (pe_callB (call_maxS rfl) (by rfl) M.max (by decide +kernel) (pa_cons (pe_ix (k_ix_seq (K := K) rfl) (pv 0) pe_int (fun _ _ => rfl)) (pa_cons (pe_ix (k_ix_seq (K := K) rfl) (pv 0) pe_int (fun _ _ => rfl)) pa_nil))) pa_nil)))))), ?_⟩
    walk_at "go0"
    refine q_ix (ht.same g0) rfl rfl ?_
    walk_at "go"
    refine q_ix (ht.same g0) rfl rfl ?_
    walk_at "go"
    refine c_minS ?_
    walk_at "go"
    refine q_ix (ht.same g0) rfl rfl ?_
    walk_at "go"
    refine q_ix (ht.same g0) rfl rfl ?_
    walk_at "go"
    refine c_maxS ?_
    walk_at "go"
    refine ⟨by show 2 ≤ sizeLine; decide, fun r nr => ?_⟩
    exact q r (upd G r (.tup [.str (ris d).1, .str (ris d).2])) (upd H r (.tup [.str (ris d).1, .str (ris d).2])) (Stp.new g0 nr) (tof upd_same)
def spIsPair (K : PySem.W.Frag) : Sp := fun vs H Q _ => ∃ (t r : Addr) (d : Dr) (rs : List Str) (G : Hp), vs = [.ref t, .ref r] ∧ Same G H ∧ SqQ K G t [.str d.1, .str d.2] ∧ SqQ K G r (rs.map V.str) ∧ d.1 ∈ rs ∧ d.2 ∈ rs ∧ d.1 ≠ d.2 ∧
  ∀ G' H', Stp M0 G H G' H' → Q (.bl true) H'
abbrev DIsPair (P : Program) (w : World) (K : PySem.W.Frag) (mg : Str → Option Value) (base : Heap) : Prop := Df P w K mg base CX0 1 "_is_pair" ["thing", "names"] (spIsPair K)
theorem ok_IsPair {f : Addr} {fd : FuncData} (F : Fun K "_is_pair" "_is_pair" sIsPair f fd) (M : Mgs mg) : FnOk P w K mg base CX0 1 f fd ["thing", "names"] (spIsPair K) := by
  refine F.ok scIsPair (fun vs H Q E h => ?_) (fun cdv A outer s H vs Q E hr h => ?_)
  · obtain ⟨t, r, d, rs, G, rfl, _⟩ := h
    rfl
  · obtain ⟨t, r, d, rs, G, rfl, g0, ht, hr2, m1, m2, hne, q⟩ := h
    refine ⟨_, ((pss_cons (ps_if (PW.pt (pw_or (pt_not (pt_val (pe_callB (k_isiT (K := K) rfl) (by rfl) M.isinstance (by decide +kernel) (pa_cons (pv 0) (pa_cons (pe_tup (pa_cons (pe_bltn (v := V.ty "list") (u := Value.type "list") (by rfl) M.list_ (by decide +kernel) rfl) (pa_cons (pe_bltn (v := V.ty "tuple") (u := Value.type "tuple") (by rfl) M.tuple_ (by decide +kernel) rfl) pa_nil))) pa_nil))))) (pw_or1 (pt_cmpR op_ne (pe_callB (k_len (K := K) rfl) (by rfl) M.len PySem.boot_len (pa_cons (pv 0) pa_nil)) pe_int (nomark _)))))
    (pss_one (ps_ret pe_bl))
    pss_nil)
    (pss_cons (ps_asg (pv 0) (pg_eith (k_pg_tup (K := K) rfl rfl (pgs_cons (pg_name (i := 2) scIsPair.nd rfl (Or.inl rfl)) (pgs_cons (pg_name (i := 3) scIsPair.nd rfl (Or.inl rfl)) pgs_nil))) (k_pg_unl (K := K) rfl rfl (pgs_cons (pg_name (i := 2) scIsPair.nd rfl (Or.inl rfl)) (pgs_cons (pg_name (i := 3) scIsPair.nd rfl (Or.inl rfl)) pgs_nil)))))
    (pss_one (ps_ret (pe_and (pe_cmpR (k_op_in (K := K) rfl) (pv 2) (pv 1) (by rfl)) (pe_and (pe_cmpR (k_op_in (K := K) rfl) (pv 3) (pv 1) (by rfl)) (pe_one (pe_cmpR op_ne (pv 2) (pv 3) (nomark _)))))))))), ?_⟩
    walk_at "go0"
    refine ⟨by show 2 ≤ sizeLine; decide, fun tt nt => ?_⟩
    have s1 : Stp M0 G H G (upd H tt (.tup [.ty "list", .ty "tuple"])) := Stp.newM g0 nt
    have htt : (upd H tt (.tup [.ty "list", .ty "tuple"])) tt = some (.tup [.ty "list", .ty "tuple"]) := upd_same
    generalize upd H tt (.tup [.ty "list", .ty "tuple"]) = H1 at s1 htt ⊢
    walk_at "go"
    refine c_isiLT (ht.same s1.gh) htt ?_
    walk_at "go"
    refine c_len (ht.same s1.gh) ?_
    walk_at "go"
    refine ifND (fun c => absurd rfl c) (fun _ => ?_)
    walk_at "go"
    rcases ht.same s1.gh with h | h
    · refine .inr ⟨t, _, rfl, h, rfl, ?_⟩
      walk_at "go"
      refine r_inQ (hr2.same s1.gh) ?_
      walk_at "go"
      rw [decide_eq_true m1]
      walk_at "go"
      refine r_inQ (hr2.same s1.gh) ?_
      walk_at "go"
      rw [decide_eq_true m2]
      walk_at "go"
      rw [decide_eq_false (show ¬ V.str d.1 = V.str d.2 from fun e => hne (V.str.inj e))]
      exact q G H1 s1
    · refine .inl (r_gtup h rfl ?_)
      walk_at "go"
      refine r_inQ (hr2.same s1.gh) ?_
      walk_at "go"
      rw [decide_eq_true m1]
      walk_at "go"
      refine r_inQ (hr2.same s1.gh) ?_
      walk_at "go"
      rw [decide_eq_true m2]
      walk_at "go"
      rw [decide_eq_false (show ¬ V.str d.1 = V.str d.2 from fun e => hne (V.str.inj e))]
      exact q G H1 s1
def spWrongPairs (K : PySem.W.Frag) : Sp := fun vs H Q _ => ∃ (a r : Addr) (xs : List V) (ds : List Dr) (rs : List Str) (G : Hp), vs = [.ref a, .ref r] ∧ Same G H ∧ SqL K G a xs ∧ PrsQ K G xs ds ∧ SqQ K G r (rs.map V.str) ∧
  (∀ d ∈ ds, d.1 ∈ rs ∧ d.2 ∈ rs ∧ d.1 ≠ d.2) ∧ (ds.map ris).Nodup ∧ ds.length < 64 ∧ ∀ e G' H', Stp M0 G H G' H' → SqL K G' e [] → Q (.ref e) H'
abbrev DWrongPairs (P : Program) (w : World) (K : PySem.W.Frag) (mg : Str → Option Value) (base : Heap) : Prop := Df P w K mg base CX0 2 "wrong_pairs" ["things", "names"] (spWrongPairs K)
theorem ok_WrongPairs {f : Addr} {fd : FuncData} (F : Fun K "wrong_pairs" "wrong_pairs" sWrongPairs f fd) (M : Mgs mg) (D_is_pair : DIsPair P w K mg base) (D_rising_pair : DRisingPair P w K mg base) : FnOk P w K mg base CX0 2 f fd ["things", "names"] (spWrongPairs K) := by
  refine F.ok scWrongPairs (fun vs H Q E h => ?_) (fun cdv A outer s H vs Q E hr h => ?_)
  · obtain ⟨a, r, xs, ds, rs, G, rfl, _⟩ := h
    rfl
  · obtain ⟨a, r, xs, ds, rs, G, rfl, g0, hs, hP, hrs, hin, hnd, hl, q⟩ := h
    have hu64 := hu64_of hr
    refine ⟨_, ((pss_cons (ps_if (pt_not (pt_val (pe_callB (k_isiT (K := K) rfl) (by rfl) M.isinstance (by decide +kernel) (pa_cons (pv 0) (pa_cons (pe_tup (pa_cons (pe_bltn (v := V.ty "list") (u := Value.type "list") (by rfl) M.list_ (by decide +kernel) rfl) (pa_cons (pe_bltn (v := V.ty "tuple") (u := Value.type "tuple") (by rfl) M.tuple_ (by decide +kernel) rfl) pa_nil))) pa_nil)))))
    (pss_one (ps_ret (pe_lst (pa_cons (pv 0) pa_nil))))
    pss_nil)
    (pss_cons (ps_set (i := 2) scWrongPairs.nd rfl (Or.inl rfl) (pe_callTy0 (k_set0T (P := P) (w := w) rfl rfl) (by rfl) M.set_ (by decide +kernel)))
    (pss_cons (ps_for PassesOwn.never rfl (k_pi_list (K := K) rfl (pv 0)) (pg_name (i := 3) scWrongPairs.nd rfl (Or.inl rfl))
    (pss_cons (ps_if (pt_not (pt_val (pe_df D_is_pair hr (by rfl) pass0 (pa_cons (pv 3) (pa_cons (pv 1) pa_nil)))))
    (pss_one (ps_ret (pe_lst (pa_cons (pv 3) pa_nil))))
    pss_nil)
    (pss_cons (ps_set (i := 4) scWrongPairs.nd rfl (Or.inl rfl) (pe_df D_rising_pair hr (by rfl) pass0 (pa_cons (pv 3) pa_nil)))
    (pss_cons (ps_if (pt_cmpR (k_sinT (K := K) (P := P) (w := w) rfl rfl rfl (lt_u4 hu64)) (pv 4) (pv 2) (by rfl))
    (pss_one (ps_ret (pe_lst (pa_cons (pv 3) pa_nil))))
    pss_nil)
    (pss_one (ps_expr (k_saddT (K := K) (P := P) (w := w) rfl rfl rfl (lt_u2 hu64) (pv 2) (pa_cons (pv 4) pa_nil))))))))
    (pss_one (ps_ret (pe_lst pa_nil))))))), ?_⟩
    walk_at "go0"
    refine ⟨by show 2 ≤ sizeLine; decide, fun t nt => ?_⟩
    have s1 : Stp M0 G H G (upd H t (.tup [.ty "list", .ty "tuple"])) := Stp.newM g0 nt
    have ht : (upd H t (.tup [.ty "list", .ty "tuple"])) t = some (.tup [.ty "list", .ty "tuple"]) := upd_same
    generalize upd H t (.tup [.ty "list", .ty "tuple"]) = H1 at s1 ht ⊢
    walk_at "go"
    refine c_isiLT (.inl (s1.gh.seq hs)) ht ?_
    walk_at "go"
    refine ⟨rfl, fun s ns => ?_⟩
    have s2 : Stp M0 G H G (upd H1 s (SetTT P w s [])) := s1.trans (Stp.newM s1.gh ns)
    have hs2 : (upd H1 s (SetTT P w s [])) s = some (SetTT P w s []) := upd_same
    have gs : G s = none := none_of s1.gh ns
    have hsH : H s = none := s1.free ns
    generalize upd H1 s (SetTT P w s []) = H2 at s2 hs2 ⊢
    walk_at "go"
    refine loopL (xs := xs) (s2.gh.seq hs) (fun i σ H' => ∃ y3 y4, ∃ (L : List (Addr × List Key)) (G' : Hp), σ = [some (.ref a), some (.ref r), some (.ref s), y3, y4] ∧ Stp M0 G H G' H' ∧ H' s = some (SetTT P w s L) ∧ G' s = none ∧ TupsIn K G' L ∧ (L.map (·.2)).Perm (((ds.take i).map ris).map kD))
      ⟨none, none, [], G, rfl, s2, hs2, gs, (fun _ h => by cases h), List.Perm.nil⟩ (fun i σ H' _ pv => ?_) (fun i v σ H' hi hv pv => ?_) (fun σ H' pv => ?_)
    · obtain ⟨_, _, _, G', _, st, _⟩ := pv
      exact (st.gg.trans st.gh).seq hs
    · obtain ⟨y3, y4, L, G', rfl, st, hS, gS, hT, hp⟩ := pv
      have hi' : i < ds.length := by rw [← hP.1]; exact hi
      obtain ⟨t', et, hq⟩ := hP.2 i _ (List.getElem?_eq_getElem hi')
      cases et.symm.trans hv
      have hz := List.getElem?_eq_getElem hi'
      have hm := hin _ (List.getElem_mem hi')
      generalize ds[i] = d at hq hz hm
      walk_at "go"
      refine ⟨t', r, d, rs, G', rfl, st.gh, hq.same st.gg, hrs.same st.gg, hm.1, hm.2.1, hm.2.2, fun G3 H3 s3 => ?_⟩
      have gS3 : G3 s = none := (s3.fr _ _ hS).trans gS
      have hS3 : H3 s = some (SetTT P w s L) := s3.up _ _ (fun z => z) hS
      walk_at "go"
      refine ⟨t', d, G3, rfl, s3.gh, (hq.same st.gg).same s3.gg, fun b G4 H4 s4 hb => ?_⟩
      have gS4 : G4 s = none := (s4.fr _ _ hS3).trans gS3
      have hS4 : H4 s = some (SetTT P w s L) := s4.up _ _ (fun z => z) hS3
      have st4 : Stp M0 G H G4 H4 := (st.trans s3).trans s4
      have hT4 : TupsIn K G4 L := fun p hp => Same.sqt (s3.gg.trans s4.gg) (hT p hp)
      have hT4' : TupsIn K H4 L := fun p hp => Same.sqt s4.gh (hT4 p hp)
      have hkb : SqT K H4 b ((kD (ris d)).map kV) := Same.sqt s4.gh hb
      have hno : kD (ris d) ∉ L.map (·.2) := by
        intro hmm
        obtain ⟨e, he, e2⟩ := List.mem_map.mp (hp.mem_iff.mp hmm)
        have e3 := kD_inj e2
        subst e3
        have hzr : (ds.map ris)[i]? = some (ris d) := by rw [List.getElem?_map, hz]; rfl
        exact nodup_take hnd hzr (by rw [← List.map_take]; exact he)
      walk_at "go"
      refine ⟨b, s, kD (ris d), L, rfl, rfl, hkb, hS4, hT4', fun c hc => ?_⟩
      have ec : c = false := by
        cases c with
        | false => rfl
        | true => exact absurd (hc.mp rfl) hno
      subst ec
      walk_at "go"
      refine ⟨⟨s, L, rfl, hS4⟩, ?_⟩
      walk_at "go"
      have hLl : L.length = i := by
        have e := hp.length_eq
        rw [List.length_map, List.length_map, List.length_map, List.length_take] at e
        omega
      refine ⟨s, b, kD (ris d), L, rfl, rfl, hkb, hS4, hT4', by omega, fun L' _ hL' => ?_⟩
      have hLp := hL' hno
      walk_at "go"
      refine ⟨_, _, L', G4, rfl, st4.inner (M' := M1 s) (Stp.mut st4.gh hS4 gS4 rfl) (fun b e => .inr (by rw [e]; exact hsH)), upd_same, gS4, fun p hp2 => ?_, ?_⟩
      · rcases List.mem_cons.mp (hLp.mem_iff.mp hp2) with rfl | h
        · exact hb
        · exact hT4 p h
      · refine (hLp.map (·.2)).trans ?_
        rw [take_succ_get hz, List.map_append, List.map_append]
        exact ((hp.cons (kD (ris d)))).trans (List.perm_append_singleton _ _).symm
    · obtain ⟨y3, y4, L, G', rfl, st, hS, gS, hT, hp⟩ := pv
      walk_at "go"
      refine ⟨Nat.zero_le _, fun o no => ?_⟩
      exact q o (upd G' o (.lst [])) (upd H' o (.lst [])) (st.trans (Stp.new st.gh no)) (lof upd_same)
end
abbrev sRisingPairs : Stmt := topS 16
theorem scRisingPairs : FnScope ["pairs", "pair"] ["pairs"] (defScope sRisingPairs) := ⟨rfl, rfl, rfl, by decide +kernel, rfl, by decide +kernel, by decide +kernel⟩
abbrev sNeighbours : Stmt := topS 17
theorem scNeighbours : FnScope ["names", "pairs", "near", "one", "other", "name"] ["names", "pairs"] (defScope sNeighbours) := ⟨rfl, rfl, rfl, by decide +kernel, rfl, by decide +kernel, by decide +kernel⟩
section
variable {P : Program} {w : World} {K : PySem.W.Frag} {mg : Str → Option Value} {base : Heap}
def spRisingPairs (K : PySem.W.Frag) : Sp := fun vs H Q _ => ∃ (a : Addr) (xs : List V) (ds : List Dr) (G : Hp), vs = [.ref a] ∧ Same G H ∧ SqL K G a xs ∧ PrsQ K G xs ds ∧ ds.length < 64 ∧
  ∀ r ys es G' H', Stp M0 G H G' H' → SqT K G' r ys → PrsT K G' ys es → es.Perm (ds.map ris) → es.Pairwise leD → Q (.ref r) H'
abbrev DRisingPairs (P : Program) (w : World) (K : PySem.W.Frag) (mg : Str → Option Value) (base : Heap) : Prop := Df P w K mg base CX0 2 "rising_pairs" ["pairs"] (spRisingPairs K)
theorem ok_RisingPairs {f : Addr} {fd : FuncData} (F : Fun K "rising_pairs" "rising_pairs" sRisingPairs f fd) (M : Mgs mg) (D_rising_pair : DRisingPair P w K mg base) : FnOk P w K mg base CX0 2 f fd ["pairs"] (spRisingPairs K) := by
  refine F.ok scRisingPairs (fun vs H Q E h => ?_) (fun cdv A outer s H vs Q E hr h => ?_)
  · obtain ⟨a, xs, ds, G, rfl, _⟩ := h
    rfl
  · obtain ⟨a, xs, ds, G, rfl, g0, hs, hP, hl, q⟩ := h
    refine ⟨_, ((pss_one (ps_ret (pe_callTy (k_tuple (K := K) rfl) (by rfl) M.tuple_ (by decide +kernel) (pa_cons (pe_callB (k_sortPr (K := K) rfl) (by rfl) M.sorted (by decide +kernel) (pa_cons (pe_lc (own := [("pair", 1)]) rfl scRisingPairs.nd (k_pi_list (K := K) rfl (pv 0)) (blkOk_by (N := ["pairs", "pair"]) (sc := defScope sRisingPairs) (by decide +kernel)) (fun _ _ _ _ _ => (pg_name (i := 1) scRisingPairs.nd rfl (Or.inl rfl))) (fun _ _ _ _ _ => pts_nil) (fun _ _ _ _ _ => (pe_df D_rising_pair hr (by rfl) pass0 (pa_cons (pv 1) pa_nil)))) pa_nil)) pa_nil))))), ?_⟩
    walk_at "go0"
    refine lcL (M := M0) hs (by rw [hP.1]; omega) g0 (fun i acc G' H' => PrsT K G' acc ((ds.take i).map ris)) (fun L hL => .nil)
      (fun L i v acc G' H' Em Sk hi hL hL' gL hacc st pv hv hEm hSk => ?_) (fun L acc G' H' hL hacc st hL' gL pv => ?_)
    · have hi' : i < ds.length := by rw [← hP.1]; exact hi
      obtain ⟨t', et, hq⟩ := hP.2 i _ (List.getElem?_eq_getElem hi')
      cases et.symm.trans hv
      have hz := List.getElem?_eq_getElem hi'
      generalize ds[i] = d at hq hz
      walk_at "go"
      refine ⟨rfl, ?_⟩
      walk_at "go"
      refine ⟨t', d, G', rfl, st.gh, hq.same st.gg, fun r G3 H3 s3 hb => ?_⟩
      refine hEm _ G3 H3 (st.trans s3) (s3.up _ _ (fun z => z) hL') ((s3.fr _ _ hL').trans gL) ?_
      rw [take_succ_get hz, List.map_append]
      exact (pv.same s3.gg).snoc (d := ris d) hb
    · have e : (ds.take xs.length).map ris = ds.map ris := by rw [hP.1, List.take_length]
      rw [e] at pv
      walk_at "go"
      refine ⟨L, acc, ds.map ris, G', rfl, st.gh, lof hL', pv, by rw [List.length_map]; omega, fun ys es p hys hpm hpw np => ?_⟩
      have s2 : Stp M0 G H G' (upd H' p (.lst ys)) := st.trans (Stp.newM st.gh np)
      have hp2 : (upd H' p (.lst ys)) p = some (.lst ys) := upd_same
      generalize upd H' p (.lst ys) = H2 at s2 hp2 ⊢
      walk_at "go"
      refine c_tupleL (lof hp2) (fun l nl => ?_)
      walk_at "go"
      exact q l ys es (upd G' l (.tup ys)) (upd H2 l (.tup ys)) (s2.trans (Stp.new s2.gh nl)) (tof upd_same) (hys.same (same_new (none_of s2.gh nl))) hpm hpw
theorem nb_snoc (ds : List Dr) (d : Dr) (z : Str) : nb (ds ++ [d]) z = nb ds z ++ (if hasD z d = true then [oth z d] else []) := by
  unfold nb
  rw [List.filter_append, List.map_append]
  congr 1
  by_cases c : hasD z d = true
  · rw [if_pos c, List.filter_cons_of_pos c]; rfl
  · rw [if_neg c, List.filter_cons_of_neg c]; rfl
/-- the dict at N: by each room the rooms beside it, rising -/
def Near (K : PySem.W.Frag) (G : Hp) (N : Addr) (rs : List Str) (es : List Dr) : Prop := ∃ ms : List Addr, ms.length = rs.length ∧ G N = some (.dK (kvs rs (ms.map V.ref))) ∧
  ∀ (j : Nat) (z : Str) (m : Addr), rs[j]? = some z → ms[j]? = some m → ∃ ys : List Str, SqL K G m (ys.map V.str) ∧ ys.Perm (nb es z) ∧ sortedS ys = true
theorem Near.same {G H : Hp} {N : Addr} {rs : List Str} {es : List Dr} (h : Near K G N rs es) (g : Same G H) : Near K H N rs es := by
  obtain ⟨ms, h1, h2, h3⟩ := h
  exact ⟨ms, h1, g _ _ h2, fun j z m e1 e2 => by obtain ⟨ys, a, b⟩ := h3 j z m e1 e2; exact ⟨ys, g.seq a, b⟩⟩
theorem Near.get {G : Hp} {N : Addr} {rs : List Str} {es : List Dr} {z : Str} (h : Near K G N rs es) (hnd : rs.Nodup) (hz : z ∈ rs) : ∃ (m : Addr) (ys : List Str), DGet G N (.str z) (some (.ref m)) ∧ SqL K G m (ys.map V.str) ∧ ys.Perm (nb es z) ∧ sortedS ys = true := by
  obtain ⟨ms, h1, h2, h3⟩ := h
  obtain ⟨j, hj, e⟩ := List.getElem_of_mem hz
  have e1 : rs[j]? = some z := by rw [List.getElem?_eq_getElem hj, e]
  have e2 : ms[j]? = some ms[j] := List.getElem?_eq_getElem (by omega)
  obtain ⟨ys, a, b⟩ := h3 j z _ e1 e2
  exact ⟨ms[j], ys, dk h2 (kvs_get hnd e1 (by rw [List.getElem?_map, e2]; rfl)), a, b⟩
theorem nodup_ix {α : Type} {l : List α} (h : l.Nodup) {i j : Nat} {z : α} (e1 : l[i]? = some z) (e2 : l[j]? = some z) : i = j := by
  have h1 := (List.getElem?_eq_some_iff.mp e1)
  have h2 := (List.getElem?_eq_some_iff.mp e2)
  exact (List.getElem_inj (h₀ := h1.1) (h₁ := h2.1) h).mp (h1.2.trans h2.2.symm)
def spNeighbours (K : PySem.W.Frag) : Sp := fun vs H Q _ => ∃ (a b : Addr) (rs : List Str) (xs : List V) (es : List Dr) (G : Hp), vs = [.ref a, .ref b] ∧ Same G H ∧ SqT K G a (rs.map V.str) ∧ rs.Nodup ∧ rs.length < 64 ∧ (SqL K G b xs ∨ SqT K G b xs) ∧ PrsT K G xs es ∧
  (∀ d ∈ es, d.1 ∈ rs ∧ d.2 ∈ rs ∧ d.1 ≠ d.2) ∧ es.length < 64 ∧ ∀ N G' H', Stp M0 G H G' H' → Near K G' N rs es → Q (.ref N) H'
abbrev DNeighbours (P : Program) (w : World) (K : PySem.W.Frag) (mg : Str → Option Value) (base : Heap) : Prop := Df P w K mg base CX0 1 "neighbours" ["names", "pairs"] (spNeighbours K)
theorem ok_Neighbours {f : Addr} {fd : FuncData} (F : Fun K "neighbours" "neighbours" sNeighbours f fd) (M : Mgs mg) : FnOk P w K mg base CX0 1 f fd ["names", "pairs"] (spNeighbours K) := by
  refine F.ok scNeighbours (fun vs H Q E h => ?_) (fun cdv A outer s H vs Q E hr h => ?_)
  · obtain ⟨a, b, rs, xs, es, G, rfl, _⟩ := h
    rfl
  · obtain ⟨a, b, rs, xs, es, G, rfl, g0, ha, hnd, hrl, hb, hP, hin, hel, q⟩ := h
    have hu := hu_of hr
    refine ⟨_, ((pss_cons (ps_set (i := 2) scNeighbours.nd rfl (Or.inr rfl) (pe_dc (own := [("name", 5)]) rfl scNeighbours.nd (k_pi_tup (K := K) rfl (pv 0)) (blkOk_by (N := ["names", "pairs", "near", "one", "other", "name"]) (sc := defScope sNeighbours) (by decide +kernel)) (fun _ _ _ _ _ => (pg_name (i := 5) scNeighbours.nd rfl (Or.inl rfl))) (fun _ _ _ _ _ => pts_nil) (fun _ _ _ _ _ => (pv 5)) (fun _ _ _ _ _ => (pe_lst pa_nil))))
    (pss_cons (ps_for PassesOwn.never rfl (pi_eith (k_pi_list (K := K) rfl (pv 1)) (k_pi_tup (K := K) rfl (pv 1))) (k_pg_tup (K := K) rfl rfl (pgs_cons (pg_name (i := 3) scNeighbours.nd rfl (Or.inl rfl)) (pgs_cons (pg_name (i := 4) scNeighbours.nd rfl (Or.inl rfl)) pgs_nil)))
    (pss_cons (ps_expr (k_bm (K := K) rfl PySem.F.plainAttrs_list PySem.F.slot_list_append PySem.F.type_list_append mt_append (pe_dget hu (pv 2) (pv 3) (fun _ _ => rfl)) (pa_cons (pv 4) pa_nil)))
    (pss_one (ps_expr (k_bm (K := K) rfl PySem.F.plainAttrs_list PySem.F.slot_list_append PySem.F.type_list_append mt_append (pe_dget hu (pv 2) (pv 4) (fun _ _ => rfl)) (pa_cons (pv 3) pa_nil))))))
    (pss_one (ps_ret (pe_dc (own := [("name", 5)]) rfl scNeighbours.nd (k_pi_tup (K := K) rfl (pv 0)) (blkOk_by (N := ["names", "pairs", "near", "one", "other", "name"]) (sc := defScope sNeighbours) (by decide +kernel)) (fun _ _ _ _ _ => (pg_name (i := 5) scNeighbours.nd rfl (Or.inl rfl))) (fun _ _ _ _ _ => pts_nil) (fun _ _ _ _ _ => (pv 5)) (fun _ _ _ _ _ => (pe_callB (k_sortedS (K := K) rfl) (by rfl) M.sorted (by decide +kernel) (pa_cons (pe_dget hu (pv 2) (pv 5) (fun _ _ => rfl)) pa_nil))))))))), ?_⟩
    walk_at "go0"
    refine dcN (M := M0) (fun R h => by walk_at "go"; exact h) ha hnd hrl g0 (fun i vs G' H' => G = G' ∧ ∃ ls : List Addr, vs = ls.map V.ref ∧ ls.Nodup ∧ ∀ l ∈ ls, H' l = some (.lst []) ∧ H l = none) (fun D hD => ⟨rfl, [], rfl, List.nodup_nil, fun _ h => by cases h⟩)
      (fun D i z vs G' H' Em Sk hz hD hDk gD hv st pv hEm => ?_) (fun D vs G' H' hD hv st hDk gD pv => ?_)
    · obtain ⟨e, ls, rfl, hln, hl⟩ := pv
      subst e
      walk_at "go"
      refine ⟨rfl, ?_⟩
      walk_at "go"
      refine ⟨Nat.zero_le _, fun l nl => ?_⟩
      have nDl : D ≠ l := ne_of_none hDk nl
      refine hEm (.ref l) G _ (st.trans (Stp.newM st.gh nl)) (by rw [upd_ne nDl]; exact hDk) gD ⟨rfl, ls ++ [l], by rw [List.map_append]; rfl, ?_, fun y hy => ?_⟩
      · rw [List.nodup_append]
        exact ⟨hln, List.nodup_cons.mpr ⟨fun h => (by cases h), List.nodup_nil⟩, fun y hy y2 hy2 e => by
          rw [List.mem_singleton.mp hy2] at e
          rw [e] at hy
          rw [(hl l hy).1] at nl
          cases nl⟩
      · rcases List.mem_append.mp hy with hy | hy
        · have hy' := (hl y hy).1
          rw [upd_ne (ne_of hy' hDk (fun z => nomatch z)), upd_ne (ne_of_none hy' nl)]
          exact ⟨hy', (hl y hy).2⟩
        · rw [List.mem_singleton.mp hy, upd_ne nDl.symm, upd_same]
          exact ⟨rfl, st.free nl⟩
    · obtain ⟨e, ls, rfl, hln, hl⟩ := pv
      subst e
      rw [List.length_map] at hv
      have s1 : Stp M0 G H (upd G D (.dK (kvs rs (ls.map V.ref)))) H' := st.freeze hDk hD gD
      have hDk1 : (upd G D (.dK (kvs rs (ls.map V.ref)))) D = some (.dK (kvs rs (ls.map V.ref))) := upd_same
      have gl1 : ∀ l ∈ ls, (upd G D (.dK (kvs rs (ls.map V.ref)))) l = none := fun l hlm => by
        rw [upd_ne (ne_of (hl l hlm).1 hDk (fun z => nomatch z))]
        exact none_of g0 (hl l hlm).2
      generalize upd G D (.dK (kvs rs (ls.map V.ref))) = G1 at s1 hDk1 gl1
      walk_at "go"
      refine forQ' (G := G) (xs := xs) (p := b) (fun R h => by walk_at "go"; exact h) (s1.gg.trans s1.gh) hb (fun i σ H' => ∃ y3 y4, σ = [some (.ref a), some (.ref b), some (.ref D), y3, y4, none] ∧ Stp M0 G H G1 H' ∧ ∀ (j : Nat) (z : Str) (l : Addr), rs[j]? = some z → ls[j]? = some l → H' l = some (.lst ((nb (es.take i) z).map V.str)))
        ⟨none, none, rfl, s1, fun j z l _ e => (hl l (List.mem_of_getElem? e)).1⟩ (fun i σ H' _ pv => ?_) (fun i v σ H' hi hv2 pv => ?_) (fun σ H' pv => ?_)
      · obtain ⟨_, _, _, st, _⟩ := pv
        exact st.gg.trans st.gh
      · obtain ⟨y3, y4, rfl, st, hls⟩ := pv
        have hi' : i < es.length := by rw [← hP.1]; exact hi
        obtain ⟨t', et, hq⟩ := hP.2 i _ (List.getElem?_eq_getElem hi')
        cases et.symm.trans hv2
        have hz := List.getElem?_eq_getElem hi'
        have hm := hin _ (List.getElem_mem hi')
        generalize es[i] = d at hq hz hm
        obtain ⟨j1, hj1, e1⟩ := List.getElem_of_mem hm.1
        obtain ⟨j2, hj2, e2⟩ := List.getElem_of_mem hm.2.1
        have r1 : rs[j1]? = some d.1 := by rw [List.getElem?_eq_getElem hj1, e1]
        have r2 : rs[j2]? = some d.2 := by rw [List.getElem?_eq_getElem hj2, e2]
        have l1 : ls[j1]? = some ls[j1] := List.getElem?_eq_getElem (by omega)
        have l2 : ls[j2]? = some ls[j2] := List.getElem?_eq_getElem (by omega)
        have hne : j1 ≠ j2 := fun e => hm.2.2 (by rw [e, r2] at r1; exact (Option.some.inj r1).symm)
        have m1 := List.mem_of_getElem? l1
        have m2 := List.mem_of_getElem? l2
        generalize ls[j1] = p1 at l1 m1
        generalize ls[j2] = p2 at l2 m2
        have hp12 : p1 ≠ p2 := fun e => hne (nodup_ix hln l1 (by rw [e]; exact l2))
        have h1 := hls j1 d.1 p1 r1 l1
        have h2 := hls j2 d.2 p2 r2 l2
        have hnl : ∀ z, (nb (es.take i) z).length < 64 := fun z => by
          unfold nb
          rw [List.length_map]
          exact Nat.lt_of_le_of_lt (List.length_filter_le _ _) (by rw [List.length_take]; omega)
        refine r_gtup (Same.sqt (st.gg.trans st.gh) hq) rfl ?_
        walk_at "go"
        refine r_dget' (dk (st.gh _ _ hDk1) (kvs_get hnd r1 (by rw [List.getElem?_map, l1]; rfl))) ?_
        walk_at "go"
        refine c_append h1 (small5 (by rw [List.length_map]; have := hnl d.1; omega)) ?_
        have st1 : Stp M0 G H G1 (upd H' p1 (.lst ((nb (es.take i) d.1).map V.str ++ [.str d.2]))) := st.inner (M' := M1 p1) (Stp.mut st.gh h1 (gl1 p1 m1) rfl) (fun b e => .inr (by rw [e]; exact (hl p1 m1).2))
        have h2' : (upd H' p1 (.lst ((nb (es.take i) d.1).map V.str ++ [.str d.2]))) p2 = some (.lst ((nb (es.take i) d.2).map V.str)) := by rw [upd_ne hp12.symm]; exact h2
        have hH1 : ∀ l, l ≠ p1 → (upd H' p1 (.lst ((nb (es.take i) d.1).map V.str ++ [.str d.2]))) l = H' l := fun l e => upd_ne e
        have hH2 : (upd H' p1 (.lst ((nb (es.take i) d.1).map V.str ++ [.str d.2]))) p1 = some (.lst ((nb (es.take i) d.1).map V.str ++ [.str d.2])) := upd_same
        generalize upd H' p1 (.lst ((nb (es.take i) d.1).map V.str ++ [.str d.2])) = H1 at st1 h2' hH1 hH2 ⊢
        walk_at "go"
        refine r_dget' (dk (st1.gh _ _ hDk1) (kvs_get hnd r2 (by rw [List.getElem?_map, l2]; rfl))) ?_
        walk_at "go"
        refine c_append h2' (small5 (by rw [List.length_map]; have := hnl d.2; omega)) ?_
        walk_at "go"
        refine ⟨_, _, rfl, st1.inner (M' := M1 p2) (Stp.mut st1.gh h2' (gl1 p2 m2) rfl) (fun b e => .inr (by rw [e]; exact (hl p2 m2).2)), fun j z l ez el => ?_⟩
        rw [take_succ_get hz, nb_snoc, List.map_append]
        by_cases c2 : l = p2
        · subst c2
          have ej := nodup_ix hln el l2
          subst ej
          cases ez.symm.trans r2
          have hh : hasD d.2 d = true := by unfold hasD; simp
          rw [if_pos hh, upd_same]
          have ho : oth d.2 d = d.1 := by unfold oth; rw [if_neg hm.2.2]
          rw [ho]
          rfl
        · rw [upd_ne c2]
          by_cases c1 : l = p1
          · subst c1
            have ej := nodup_ix hln el l1
            subst ej
            cases ez.symm.trans r1
            have hh : hasD d.1 d = true := by unfold hasD; simp
            have ho : oth d.1 d = d.2 := by unfold oth; rw [if_pos rfl]
            rw [if_pos hh, hH2, ho]
            rfl
          · rw [hH1 l c1, hls j z l ez el]
            have n1 : d.1 ≠ z := fun e => c1 (by
              have ej := nodup_ix hnd (e ▸ r1) ez
              subst ej
              exact Option.some.inj (el.symm.trans l1))
            have n2 : d.2 ≠ z := fun e => c2 (by
              have ej := nodup_ix hnd (e ▸ r2) ez
              subst ej
              exact Option.some.inj (el.symm.trans l2))
            have hh : hasD z d = false := by unfold hasD; rw [decide_eq_false n1, decide_eq_false n2]; rfl
            rw [hh, if_neg Bool.false_ne_true, List.map_nil, List.append_nil]
      · obtain ⟨y3, y4, rfl, st2, hls⟩ := pv
        rw [List.take_of_length_le (by rw [hP.1]; exact Nat.le_refl _)] at hls
        walk_at "go"
        refine dcN (M := M0) (fun R h => by walk_at "go"; exact h) (Same.sqt st2.gg ha) hnd hrl st2.gh (fun i vs G' H' => ∃ ms : List Addr, vs = ms.map V.ref ∧ ∀ (j : Nat) (z : Str) (m : Addr), rs[j]? = some z → ms[j]? = some m → ∃ ys : List Str, SqL K G' m (ys.map V.str) ∧ ys.Perm (nb es z) ∧ sortedS ys = true) (fun D hD => ⟨[], rfl, fun j z m _ h => by simp at h⟩)
          (fun D2 i z vs G' H' Em Sk hz hD hDk gD hv st pv hEm => ?_) (fun D2 vs G' H' hD hv st hDk gD pv => ?_)
        · obtain ⟨ms, rfl, hms⟩ := pv
          rw [List.length_map] at hv
          have hi : i < rs.length := (List.getElem?_eq_some_iff.mp hz).1
          have l1 : ls[i]? = some ls[i] := List.getElem?_eq_getElem (by omega)
          generalize ls[i] = p1 at l1
          have h1 := st.up _ _ (fun z => z) (hls i z p1 hz l1)
          walk_at "go"
          refine ⟨rfl, ?_⟩
          walk_at "go"
          refine r_dget' (dk ((st.gg.trans st.gh) _ _ hDk1) (kvs_get hnd hz (by rw [List.getElem?_map, l1]; rfl))) ?_
          walk_at "go"
          refine c_sorted (lof h1) ?_ (fun ys m hp hsd nm => ?_)
          · unfold nb
            rw [List.length_map]
            exact Nat.lt_of_le_of_lt (List.length_filter_le _ _) (by omega)
          · have nDm : D2 ≠ m := ne_of_none hDk nm
            refine hEm (.ref m) (upd G' m (.lst (ys.map V.str))) _ (st.trans (Stp.new st.gh nm)) (by rw [upd_ne nDm]; exact hDk) (by rw [upd_ne nDm]; exact gD) ⟨ms ++ [m], by rw [List.map_append]; rfl, fun j z' m' ez em => ?_⟩
            rcases snoc_at em with ⟨em', hj⟩ | ⟨rfl, rfl⟩
            · obtain ⟨ys', a1, a2⟩ := hms j z' m' ez em'
              exact ⟨ys', (same_new (none_of st.gh nm)).seq a1, a2⟩
            · rw [hv] at ez
              cases ez.symm.trans hz
              exact ⟨ys, lof upd_same, hp, hsd⟩
        · obtain ⟨ms, rfl, hms⟩ := pv
          rw [List.length_map] at hv
          have s3 := st.freeze hDk hD gD
          exact q D2 _ H' (st2.trans s3) ⟨ms, hv, upd_same, fun j z m e1 e2 => by obtain ⟨ys, a1, a2⟩ := hms j z m e1 e2; exact ⟨ys, (same_new gD).seq a1, a2⟩⟩
end
abbrev sHouseRefuseThree : Stmt := inClass (topS 19) 2
theorem scHouseRefuseThree : FnScope ["self", "one", "other", "third"] ["self"] (defScope sHouseRefuseThree) := ⟨rfl, rfl, rfl, by decide +kernel, rfl, by decide +kernel, by decide +kernel⟩
abbrev sHouseInit : Stmt := inClass (topS 19) 0
theorem scHouseInit : FnScope ["self", "rooms", "doors", "wrong"] ["self", "rooms", "doors"] (defScope sHouseInit) := ⟨rfl, rfl, rfl, by decide +kernel, rfl, by decide +kernel, by decide +kernel⟩
section
variable {P : Program} {w : World} {K : PySem.W.Frag} {mg : Str → Option Value} {base : Heap}
def spHouseRefuseThree (K : PySem.W.Frag) (C : Addr) : Sp := fun vs H Q _ => ∃ (a dx r d N : Addr) (rs : List Str) (xs : List V) (es : List Dr) (G : Hp), vs = [.ref a] ∧ Same G H ∧ H a = some (.ins C dx (hfs r d N)) ∧ SqT K G d xs ∧ PrsT K G xs es ∧ Near K G N rs es ∧
  rs.Nodup ∧ (∀ d ∈ es, d.1 ∈ rs ∧ d.2 ∈ rs ∧ d.1 ≠ d.2) ∧ NoTri es ∧ ∀ G' H', Stp M0 G H G' H' → Q .non H'
abbrev DHouseRefuseThree (P : Program) (w : World) (K : PySem.W.Frag) (mg : Str → Option Value) (base : Heap) (c_House : Addr) : Prop := Dm P w K mg base CX0 2 c_House "_refuse_three" ["self"] (spHouseRefuseThree K c_House)
theorem ok_HouseRefuseThree {f : Addr} {fd : FuncData} (F : Fun K "_refuse_three" "House._refuse_three" sHouseRefuseThree f fd) (M : Mgs mg) {c_House : Addr} (Z_House : HouseC K mg c_House) : FnOk P w K mg base CX0 2 f fd ["self"] (spHouseRefuseThree K c_House) := by
  refine F.ok scHouseRefuseThree (fun vs H Q E h => ?_) (fun cdv A outer s H vs Q E hr h => ?_)
  · obtain ⟨a, dx, r, d, N, rs, xs, es, G, rfl, _⟩ := h
    rfl
  · obtain ⟨a, dx, r, d, N, rs, xs, es, G, rfl, g0, ha, hd, hP, hN, hnd, hin, htri, q⟩ := h
    have hu := hu_of hr
    have hll : Loopless es := fun d hd => (hin d hd).2.2
    refine ⟨_, ((pss_one (ps_for PassesOwn.never rfl (k_pi_tup (K := K) rfl (k_fld (K := K) rfl (pv 0))) (k_pg_tup (K := K) rfl rfl (pgs_cons (pg_name (i := 1) scHouseRefuseThree.nd rfl (Or.inl rfl)) (pgs_cons (pg_name (i := 2) scHouseRefuseThree.nd rfl (Or.inl rfl)) pgs_nil)))
    (pss_one (ps_for PassesOwn.never rfl (k_pi_list (K := K) rfl (pe_dget hu (k_fld (K := K) rfl (pv 0)) (pv 2) (fun _ _ => rfl))) (pg_name (i := 3) scHouseRefuseThree.nd rfl (Or.inl rfl))
    (pss_one (ps_if (PW.pt (pw_and (pt_cmpR op_gt_str (pv 3) (pv 2) (nomark _)) (pw_and1 (pt_cmpR (k_op_in (K := K) rfl) (pv 3) (pe_dget hu (k_fld (K := K) rfl (pv 0)) (pv 1) (fun _ _ => rfl)) (by rfl)))))
    (pss_one ps_never)
    pss_nil))))))), ?_⟩
    walk_at "go0"
    refine hf_d Z_House ha ?_
    refine loopT (xs := xs) (Same.sqt g0 hd) (fun i σ H' => ∃ y1 y2 y3, σ = [some (.ref a), y1, y2, y3] ∧ H' = H) ⟨none, none, none, rfl, rfl⟩ (fun i σ H' _ pv => ?_) (fun i v σ H' hi hv pv => ?_) (fun σ H' pv => ?_)
    · obtain ⟨_, _, _, _, e⟩ := pv
      rw [e]
      exact Same.sqt g0 hd
    · obtain ⟨y1, y2, y3, rfl, rfl⟩ := pv
      have hi' : i < es.length := by rw [← hP.1]; exact hi
      obtain ⟨t', et, hq⟩ := hP.2 i _ (List.getElem?_eq_getElem hi')
      cases et.symm.trans hv
      have hmem := List.getElem_mem hi'
      generalize es[i] = e at hq hmem
      have hm := hin _ hmem
      refine r_gtup (Same.sqt g0 hq) rfl ?_
      walk_at "go"
      refine hf_n Z_House ha ?_
      walk_at "go"
      obtain ⟨m2, ys2, hg2, hs2, hp2, _⟩ := (hN.same g0).get hnd hm.2.1
      obtain ⟨m1, ys1, hg1, hs1, hp1, _⟩ := (hN.same g0).get hnd hm.1
      refine r_dget' hg2 ?_
      walk_at "go"
      refine loopL (xs := ys2.map V.str) hs2 (fun i σ H'' => ∃ y3, σ = [some (.ref a), some (.str e.1), some (.str e.2), y3] ∧ H'' = H') ⟨_, rfl, rfl⟩ (fun i σ H'' _ pv => ?_) (fun j v σ H'' hj hv pv => ?_) (fun σ H'' pv => ?_)
      · obtain ⟨_, _, e⟩ := pv
        rw [e]
        exact hs2
      · obtain ⟨y3, rfl, rfl⟩ := pv
        obtain ⟨z, hz, rfl⟩ := map_get hv
        have hz2 : z ∈ nb es e.2 := hp2.mem_iff.mp (List.mem_of_getElem? hz)
        have hz1 : z ∉ ys1 := fun h => htri e.1 e.2 z ((mem_nb hll).mpr (.inl hmem)) hz2 (hp1.mem_iff.mp h)
        walk_at "go"
        refine ⟨z, e.2, rfl, rfl, ?_⟩
        walk_at "go"
        refine ifD (fun c => ?_) (fun c => ?_)
        · walk_at "go"
          refine hf_n Z_House ha ?_
          walk_at "go"
          refine r_dget' hg1 ?_
          walk_at "go"
          refine r_inL hs1 ?_
          walk_at "go"
          rw [decide_eq_false hz1]
          walk_at "go"
          exact ⟨_, rfl, rfl⟩
        · walk_at "go"
          exact ⟨_, rfl, rfl⟩
      · obtain ⟨y3, rfl, rfl⟩ := pv
        walk_at "go"
        exact ⟨_, _, _, rfl, rfl⟩
    · obtain ⟨y1, y2, y3, rfl, rfl⟩ := pv
      walk_at "go"
      exact q G H' (Stp.refl g0)
/-- the house at a: its fields lie in H, what they name in G -/
def HouseIn (K : PySem.W.Frag) (C : Addr) (G H : Hp) (a : Addr) (rs : List Str) (es : List Dr) : Prop := ∃ (dx r d N : Addr) (xs : List V), H a = some (.ins C dx (hfs r d N)) ∧ SqT K G r (rs.map V.str) ∧ SqT K G d xs ∧ PrsT K G xs es ∧ Near K G N rs es
theorem HouseIn.same {C : Addr} {G G' H H' : Hp} {a : Addr} {rs : List Str} {es : List Dr} (h : HouseIn K C G H a rs es) (g : Same G G') (e : ∀ o, H a = some o → H' a = some o) : HouseIn K C G' H' a rs es := by
  obtain ⟨dx, r, d, N, xs, h1, h2, h3, h4, h5⟩ := h
  exact ⟨dx, r, d, N, xs, e _ h1, Same.sqt g h2, Same.sqt g h3, h4.same g, h5.same g⟩
def spHouseInit (K : PySem.W.Frag) (C : Addr) : Sp := fun vs H Q _ => ∃ (x a d dx : Addr) (rs0 : List Str) (xs0 : List V) (ds0 : List Dr) (G : Hp), vs = [.ref x, .ref a, .ref d] ∧ Same G H ∧ H x = some (.ins C dx []) ∧ G x = none ∧ SqQ K G a (rs0.map V.str) ∧ (∀ z ∈ rs0, NmOk z) ∧ rs0.Nodup ∧ 1 ≤ rs0.length ∧ rs0.length < 64 ∧
  SqL K G d xs0 ∧ PrsQ K G xs0 ds0 ∧ (∀ e ∈ ds0, e.1 ∈ rs0 ∧ e.2 ∈ rs0 ∧ e.1 ≠ e.2) ∧ (ds0.map ris).Nodup ∧ NoTri ds0 ∧ ds0.length < 64 ∧
  ∀ rs es G' H', Stp (M1 x) G H G' H' → G' x = none → rs.Perm rs0 → sortedS rs = true → es.Perm (ds0.map ris) → es.Pairwise leD → HouseIn K C G' H' x rs es → Q .non H'
abbrev DHouseInit (P : Program) (w : World) (K : PySem.W.Frag) (mg : Str → Option Value) (base : Heap) (c_House : Addr) : Prop := Dk P w K mg base CX0 3 "House" c_House ["self", "rooms", "doors"] (spHouseInit K c_House)
theorem ok_HouseInit {f : Addr} {fd : FuncData} (F : Fun K "__init__" "House.__init__" sHouseInit f fd) (M : Mgs mg) {c_House : Addr} (Z_House : HouseC K mg c_House) (D_wrong_names : DWrongNames P w K mg base) (D_wrong_pairs : DWrongPairs P w K mg base) (D_rising_pairs : DRisingPairs P w K mg base) (D_neighbours : DNeighbours P w K mg base) (D_House_refuse_three : DHouseRefuseThree P w K mg base c_House) : FnOk P w K mg base CX0 3 f fd ["self", "rooms", "doors"] (spHouseInit K c_House) := by
  refine F.ok scHouseInit (fun vs H Q E h => ?_) (fun cdv A outer s H vs Q E hr h => ?_)
  · obtain ⟨x, a, d, dx, rs0, xs0, ds0, G, rfl, _⟩ := h
    rfl
  · obtain ⟨x, a, d, dx, rs0, xs0, ds0, G, rfl, g0, hx, gx, ha, hn, hnd, h1, h64, hd, hP, hin, hdn, htri, hdl, q⟩ := h
    have hll : Loopless ds0 := fun e he => (hin e he).2.2
    refine ⟨_, ((pss_cons (ps_set (i := 3) scHouseInit.nd rfl (Or.inl rfl) (pe_df D_wrong_names hr (by rfl) pass0 (pa_cons (pv 1) pa_nil)))
    (pss_cons (ps_if (k_truth (K := K) rfl (pv 3) (by intro _; rfl))
    (pss_one ps_never)
    pss_nil)
    (pss_cons (ps_set (i := 3) scHouseInit.nd rfl (Or.inl rfl) (pe_df D_wrong_pairs hr (by rfl) pass0 (pa_cons (pv 2) (pa_cons (pv 1) pa_nil))))
    (pss_cons (ps_if (k_truth (K := K) rfl (pv 3) (by intro _; rfl))
    (pss_one ps_never)
    pss_nil)
    (pss_cons (k_ps_fld (K := K) rfl (pv 0) (pe_callTy (k_tuple (K := K) rfl) (by rfl) M.tuple_ (by decide +kernel) (pa_cons (pe_callB (k_sortedQ (K := K) rfl) (by rfl) M.sorted (by decide +kernel) (pa_cons (pv 1) pa_nil)) pa_nil)))
    (pss_cons (k_ps_fld (K := K) rfl (pv 0) (pe_df D_rising_pairs hr (by rfl) pass0 (pa_cons (pv 2) pa_nil)))
    (pss_cons (k_ps_fld (K := K) rfl (pv 0) (pe_df D_neighbours hr (by rfl) pass0 (pa_cons (k_fld (K := K) rfl (pv 0)) (pa_cons (k_fld (K := K) rfl (pv 0)) pa_nil))))
    (pss_one (ps_expr (pe_dm0 D_House_refuse_three Z_House.cl hr pass0 (pv 0)))))))))))), ?_⟩
    walk_at "go0"
    refine ⟨a, rs0, G, rfl, g0, ha, hn, hnd, h1, h64, fun e1 G1 H1 s1 he1 => ?_⟩
    walk_at "go"
    refine ⟨false, .inl ⟨[], s1.gh.seq he1, rfl⟩, ?_⟩
    walk_at "go"
    refine ⟨d, a, xs0, ds0, rs0, G1, rfl, s1.gh, s1.gg.seq hd, hP.same s1.gg, ha.same s1.gg, hin, hdn, hdl, fun e2 G2 H2 s2 he2 => ?_⟩
    walk_at "go"
    refine ⟨false, .inl ⟨[], s2.gh.seq he2, rfl⟩, ?_⟩
    walk_at "go"
    have sA := s1.trans s2
    have hx2 := sA.up _ _ (fun z => z) hx
    have gx2 : G2 x = none := (sA.fr _ _ hx).trans gx
    refine ⟨a, rs0, rfl, (ha.same sA.gg).same sA.gh, h64, fun rs p hrp hrs np => ?_⟩
    have sB : Stp M0 G2 H2 G2 (upd H2 p (.lst (rs.map V.str))) := Stp.newM sA.gh np
    have hp3 : (upd H2 p (.lst (rs.map V.str))) p = some (.lst (rs.map V.str)) := upd_same
    generalize upd H2 p (.lst (rs.map V.str)) = H3 at sB hp3 ⊢
    walk_at "go"
    refine c_tupleL (lof hp3) (fun r nr => ?_)
    have sC : Stp M0 G2 H3 (upd G2 r (.tup (rs.map V.str))) (upd H3 r (.tup (rs.map V.str))) := Stp.new sB.gh nr
    have hr4 : SqT K (upd G2 r (.tup (rs.map V.str))) r (rs.map V.str) := tof upd_same
    generalize upd G2 r (.tup (rs.map V.str)) = G4 at sC hr4
    generalize upd H3 r (.tup (rs.map V.str)) = H4 at sC ⊢
    have sD := (sA.trans sB).trans sC
    have hx4 := sD.up _ _ (fun z => z) hx
    have gx4 : G4 x = none := (sD.fr _ _ hx).trans gx
    walk_at "go"
    refine ⟨x, c_House, dx, [], rfl, hx4, Z_House.cl, Z_House.n1, by decide, ?_⟩
    have sE : Stp (M1 x) G H G4 (upd H4 x (.ins c_House dx (putF "_rooms" (.ref r) []))) := sD.weak.trans (Stp.mut sD.gh hx4 gx4 rfl)
    have hx5 : (upd H4 x (.ins c_House dx (putF "_rooms" (.ref r) []))) x = some (.ins c_House dx [("_rooms", .ref r)]) := upd_same
    generalize upd H4 x (.ins c_House dx (putF "_rooms" (.ref r) [])) = H5 at sE hx5 ⊢
    clear sA sB sC sD s1 s2 hx2 gx2 hp3 np he1 he2
    walk_at "go"
    refine ⟨d, xs0, ds0, G4, rfl, sE.gh, sE.gg.seq hd, hP.same sE.gg, hdl, fun r2 ys es G6 H6 s6 hys hpr hep hepw => ?_⟩
    have hx6 := s6.up _ _ (fun z => z) hx5
    have gx6 : G6 x = none := (s6.fr _ _ hx5).trans gx4
    walk_at "go"
    refine ⟨x, c_House, dx, _, rfl, hx6, Z_House.cl, Z_House.n2, by show 1 < 1000; decide, ?_⟩
    have sF : Stp (M1 x) G H G6 (upd H6 x (.ins c_House dx (putF "_doors" (.ref r2) [("_rooms", .ref r)]))) := (sE.trans s6.weak).trans (Stp.mut s6.gh hx6 gx6 rfl)
    have hx7 : (upd H6 x (.ins c_House dx (putF "_doors" (.ref r2) [("_rooms", .ref r)]))) x = some (.ins c_House dx [("_rooms", .ref r), ("_doors", .ref r2)]) := upd_same
    generalize upd H6 x (.ins c_House dx (putF "_doors" (.ref r2) [("_rooms", .ref r)])) = H7 at sF hx7 ⊢
    have hr6 := Same.sqt s6.gg hr4
    walk_at "go"
    refine r_fld' hx7 Z_House.cl Z_House.n1 (by rfl) ?_
    walk_at "go"
    refine r_fld' hx7 Z_House.cl Z_House.n2 (by rfl) ?_
    walk_at "go"
    have hnd1 : rs.Nodup := hrp.nodup_iff.mpr hnd
    have hin1 : ∀ e ∈ es, e.1 ∈ rs ∧ e.2 ∈ rs ∧ e.1 ≠ e.2 := fun e he => by
      have he' := hep.mem_iff.mp he
      have h2 := loopless_ris hll e he'
      obtain ⟨e0, h0, rfl⟩ := List.mem_map.mp he'
      have h3 := hin e0 h0
      rcases ris_or h3.2.2 with c | c
      · rw [c]; exact ⟨hrp.mem_iff.mpr h3.1, hrp.mem_iff.mpr h3.2.1, h3.2.2⟩
      · rw [c]; exact ⟨hrp.mem_iff.mpr h3.2.1, hrp.mem_iff.mpr h3.1, h3.2.2.symm⟩
    have hel : es.length < 64 := by rw [hep.length_eq, List.length_map]; exact hdl
    refine ⟨r, r2, rs, ys, es, G6, rfl, sF.gh, hr6, hnd1, by rw [hrp.length_eq]; exact h64, .inr hys, hpr, hin1, hel, fun N G8 H8 s8 hN => ?_⟩
    have hx8 := s8.up _ _ (fun z => z) hx7
    have gx8 : G8 x = none := (s8.fr _ _ hx7).trans gx6
    walk_at "go"
    refine ⟨x, c_House, dx, _, rfl, hx8, Z_House.cl, Z_House.n3, by show 2 < 1000; decide, ?_⟩
    have sG : Stp (M1 x) G H G8 (upd H8 x (.ins c_House dx (putF "_near" (.ref N) [("_rooms", .ref r), ("_doors", .ref r2)]))) := (sF.trans s8.weak).trans (Stp.mut s8.gh hx8 gx8 rfl)
    have hx9 : (upd H8 x (.ins c_House dx (putF "_near" (.ref N) [("_rooms", .ref r), ("_doors", .ref r2)]))) x = some (.ins c_House dx (hfs r r2 N)) := upd_same
    generalize upd H8 x (.ins c_House dx (putF "_near" (.ref N) [("_rooms", .ref r), ("_doors", .ref r2)])) = H9 at sG hx9 ⊢
    walk_at "go"
    refine ⟨x, dx, _, rfl, hx9, by rfl, ?_⟩
    have htri1 : NoTri es := htri.of fun y z h => by
      have hl1 : Loopless es := fun e he => (hin1 e he).2.2
      refine (nb_ris hll).mp ?_
      exact (nb_perm hep y).mem_iff.mp h
    walk_at "go"
    refine ⟨x, dx, r, r2, N, rs, ys, es, G8, rfl, sG.gh, hx9, Same.sqt s8.gg hys, hpr.same s8.gg, hN, hnd1, hin1, htri1, fun GA HA sA => ?_⟩
    walk_at "go"
    exact q rs es GA HA (sG.trans sA.weak) ((sA.fr _ _ hx9).trans gx8) hrp hrs hep hepw ⟨dx, r, r2, N, ys, sA.up _ _ (fun z => z) hx9, Same.sqt (s8.gg.trans sA.gg) hr6, Same.sqt (s8.gg.trans sA.gg) hys, hpr.same (s8.gg.trans sA.gg), hN.same sA.gg⟩
end
abbrev sShuffled : Stmt := topS 24
theorem scShuffled : FnScope ["_law_pen_here", "_law_some", "_law_left", "_law_found"] ["_law_pen_here", "_law_some"] (defScope sShuffled) := ⟨rfl, rfl, rfl, by decide +kernel, rfl, by decide +kernel, by decide +kernel⟩
section
variable {P : Program} {w : World} {K : PySem.W.Frag} {mg : Str → Option Value} {base : Heap}
def spShuffled (K : PySem.W.Frag) : Sp := fun vs H Q _ => ∃ (p a : Addr) (xs : List V) (n : Nat) (G : Hp), vs = [.ref p, .ref a] ∧ Same G H ∧ Pen K G p n H ∧ n + 100 < 2 ^ 40 ∧ SqL K G a xs ∧ (∀ v ∈ xs, ItOk K G v) ∧ xs.length < 64 ∧
  ∀ r ys G' H', Stp (M1 p) G H G' H' → Pen K G' p (n + xs.length) H' → SqL K G' r ys → ys.Perm xs → Q (.ref r) H'
abbrev DShuffled (P : Program) (w : World) (K : PySem.W.Frag) (mg : Str → Option Value) (base : Heap) : Prop := Df P w K mg base CX0 2 "_law_shuffled" ["_law_pen_here", "_law_some"] (spShuffled K)
theorem ok_Shuffled {f : Addr} {fd : FuncData} (F : Fun K "_law_shuffled" "_law_shuffled" sShuffled f fd) (M : Mgs mg) (D_draw : DDraw P w K mg base) : FnOk P w K mg base CX0 2 f fd ["_law_pen_here", "_law_some"] (spShuffled K) := by
  refine F.ok scShuffled (fun vs H Q E h => ?_) (fun cdv A outer s H vs Q E hr h => ?_)
  · obtain ⟨p, a, xs, n, G, rfl, _⟩ := h
    rfl
  · obtain ⟨p, a, xs, n, G, rfl, g0, hp, hn, ha, hit, hl, q⟩ := h
    have hu64 := hu64_of hr
    refine ⟨_, ((pss_cons (ps_par (i := 2) (j := 3) (by rfl) scShuffled.nd rfl rfl (by decide) rfl rfl (pa_cons (pe_callTy (k_list (K := K) rfl) (by rfl) M.list_ (by decide +kernel) (pa_cons (pv 1) pa_nil)) (pa_cons (pe_lst pa_nil) pa_nil)) (by rfl))
    (pss_cons (ps_while PassesOwn.never (pt_cmpR (k_op_neD (K := K) rfl hu64) (pv 2) (pe_lst pa_nil) (nomark _))
    (pss_one (ps_expr (k_bm (K := K) rfl PySem.F.plainAttrs_list PySem.F.slot_list_append PySem.F.type_list_append mt_append (pv 3) (pa_cons (k_bm (K := K) rfl PySem.F.plainAttrs_list PySem.F.slot_list_pop PySem.F.type_list_pop mt_popAt (pv 2) (pa_cons (pe_df D_draw hr (by rfl) pass0 (pa_cons (pv 0) (pa_cons (pe_callB (k_len (K := K) rfl) (by rfl) M.len PySem.boot_len (pa_cons (pv 2) pa_nil)) pa_nil))) pa_nil)) pa_nil)))))
    (pss_one (ps_ret (pv 3)))))), ?_⟩
    walk_at "go0"
    refine c_list (.inl (g0.seq ha)) (fun L nL => ?_)
    have s1 : Stp (M1 p) G H G (upd H L (.lst xs)) := Stp.newM g0 nL
    have hL1 : (upd H L (.lst xs)) L = some (.lst xs) := upd_same
    have hp1 := hp.upd (x := .lst xs) (hp.new nL)
    have gL : G L = none := none_of g0 nL
    generalize upd H L (.lst xs) = H1 at s1 hL1 hp1 ⊢
    walk_at "go"
    refine ⟨Nat.zero_le _, fun F nF => ?_⟩
    have s2 : Stp (M1 p) G H G (upd H1 F (.lst [])) := s1.trans (Stp.newM s1.gh nF)
    have hF2 : (upd H1 F (.lst [])) F = some (.lst []) := upd_same
    have hL2 : (upd H1 F (.lst [])) L = some (.lst xs) := by rw [upd_ne (ne_of_none hL1 nF)]; exact hL1
    have hp2 := hp1.upd (x := .lst []) (hp1.new nF)
    have gF : G F = none := none_of s1.gh nF
    have hFH : H F = none := s1.free nF
    have nLF : L ≠ F := ne_of_none hL1 nF
    generalize upd H1 F (.lst []) = H2 at s2 hF2 hL2 hp2 ⊢
    walk_at "go"
    refine while_k (fun m σ H' => ∃ (ls fs : List V), σ = [some (.ref p), some (.ref a), some (.ref L), some (.ref F)] ∧ Stp (M1 p) G H G H' ∧ H' L = some (.lst ls) ∧ H' F = some (.lst fs) ∧ (fs ++ ls).Perm xs ∧ ls.length = m ∧ Pen K G p (n + fs.length) H')
      xs.length ⟨xs, [], rfl, s2, hL2, hF2, List.Perm.refl _, rfl, hp2⟩ (fun m σ H' pv Ct k1 k2 => ?_)
    obtain ⟨ls, fs, rfl, st, hLz, hFz, hpm, hm, hpz⟩ := pv
    walk_at "go"
    refine ⟨Nat.zero_le _, fun o no => ?_⟩
    have hLo : (upd H' o (.lst [])) L = some (.lst ls) := by rw [upd_ne (ne_of_none hLz no)]; exact hLz
    have hFo : (upd H' o (.lst [])) F = some (.lst fs) := by rw [upd_ne (ne_of_none hFz no)]; exact hFz
    have st3 : Stp (M1 p) G H G (upd H' o (.lst [])) := st.trans (Stp.newM st.gh no)
    have hpo := hpz.upd (x := .lst []) (hpz.new no)
    have hoo : (upd H' o (.lst [])) o = some (.lst []) := upd_same
    generalize upd H' o (.lst []) = H3 at st3 hLo hFo hpo hoo ⊢
    have hlen := hpm.length_eq
    rw [List.length_append] at hlen
    refine r_neNil (lof hLo) (fun v hv => (hit v (hpm.mem_iff.mp (List.mem_append_right _ hv))).same st3.gh) (lof hoo) ?_
    walk_at "go"
    cases ls with
    | nil =>
      refine k2 H3 ?_
      walk_at "go"
      rw [List.append_nil] at hpm
      rw [List.length_nil, Nat.add_zero] at hlen
      exact q F fs (upd G F (.lst fs)) H3 (st3.freeze hFo hFH gF) (by
        have e : n + xs.length = n + fs.length := by rw [← hlen]
        rw [e]
        exact hpo.know (same_new gF) (by rw [upd_ne (hpo.ne hFo).symm]; exact hpo.1)) (lof upd_same) hpm
    | cons l0 lr =>
      refine k1 H3 ?_
      walk_at "go"
      refine use_draw (m := (l0 :: lr).length) st3.gh hpo (by omega) rfl (by rw [List.length_cons]; omega) (by omega) (fun d H4 hd s4 hp4 => ?_)
      have st4 := st3.trans s4
      have hL4 := s4.up _ _ (hpo.ne hLo) hLo
      have hF4 := s4.up _ _ (hpo.ne hFo) hFo
      walk_at "go"
      have hy := List.getElem?_eq_getElem hd
      refine c_popAt hL4 rfl hy (by omega) ?_
      have st5 : Stp (M1 p) G H G (upd H4 L (.lst ((l0 :: lr).eraseIdx d))) := st4.inner (M' := M1 L) (Stp.mut st4.gh hL4 gL rfl) (fun b e => .inr (by rw [e]; exact nL))
      have hL5 : (upd H4 L (.lst ((l0 :: lr).eraseIdx d))) L = some (.lst ((l0 :: lr).eraseIdx d)) := upd_same
      have hF5 : (upd H4 L (.lst ((l0 :: lr).eraseIdx d))) F = some (.lst fs) := by rw [upd_ne nLF.symm]; exact hF4
      have hp5 := hp4.upd (x := .lst ((l0 :: lr).eraseIdx d)) (hp4.ne hL4)
      have hpe := erase_perm hy
      generalize (l0 :: lr)[d] = y at hpe ⊢
      generalize upd H4 L (.lst ((l0 :: lr).eraseIdx d)) = H5 at st5 hL5 hF5 hp5 ⊢
      walk_at "go"
      refine c_append hF5 (small5 (by omega)) ?_
      walk_at "go"
      have he := hpe.length_eq
      rw [List.length_cons] at he
      refine ⟨_, ?_, (l0 :: lr).eraseIdx d, fs ++ [y], rfl, st5.inner (M' := M1 F) (Stp.mut st5.gh hF5 gF rfl) (fun b e => .inr (by rw [e]; exact hFH)), by rw [upd_ne nLF]; exact hL5, upd_same, ?_, rfl, ?_⟩
      · omega
      · rw [List.append_assoc]
        exact ((List.Perm.append_left fs (show ([y] ++ (l0 :: lr).eraseIdx d).Perm (l0 :: lr) from hpe))).trans hpm
      · have e : n + fs.length + 1 = n + (fs ++ [y]).length := by rw [List.length_append]; rfl
        rw [← e]
        exact hp5.upd (hp5.ne hF5)
end
abbrev sHanded : Stmt := topS 32
theorem scHanded : FnScope ["_law_pen_here", "_law_some", "_law_found"] ["_law_pen_here", "_law_some"] (defScope sHanded) := ⟨rfl, rfl, rfl, by decide +kernel, rfl, by decide +kernel, by decide +kernel⟩
abbrev sEither : Stmt := topS 33
theorem scEither : FnScope ["_law_pen_here", "_law_pairs", "_law_found", "_law_pair", "_law_turned_pair"] ["_law_pen_here", "_law_pairs"] (defScope sEither) := ⟨rfl, rfl, rfl, by decide +kernel, rfl, by decide +kernel, by decide +kernel⟩
section
variable {P : Program} {w : World} {K : PySem.W.Frag} {mg : Str → Option Value} {base : Heap}
def spHanded (K : PySem.W.Frag) : Sp := fun vs H Q _ => ∃ (p a : Addr) (rs : List Str) (n : Nat) (G : Hp), vs = [.ref p, .ref a] ∧ Same G H ∧ Pen K G p n H ∧ n + 200 < 2 ^ 40 ∧ SqL K G a (rs.map V.str) ∧ (∀ z ∈ rs, NmOk z) ∧ rs.length < 64 ∧
  ∀ r (rs' : List Str) G' H', Stp (M1 p) G H G' H' → Pen K G' p (n + 100) H' → SqQ K G' r (rs'.map V.str) → rs'.Perm rs → Q (.ref r) H'
abbrev DHanded (P : Program) (w : World) (K : PySem.W.Frag) (mg : Str → Option Value) (base : Heap) : Prop := Df P w K mg base CX0 3 "_law_handed" ["_law_pen_here", "_law_some"] (spHanded K)
theorem ok_Handed {f : Addr} {fd : FuncData} (F : Fun K "_law_handed" "_law_handed" sHanded f fd) (M : Mgs mg) (D_shuffled : DShuffled P w K mg base) (D_draw : DDraw P w K mg base) : FnOk P w K mg base CX0 3 f fd ["_law_pen_here", "_law_some"] (spHanded K) := by
  refine F.ok scHanded (fun vs H Q E h => ?_) (fun cdv A outer s H vs Q E hr h => ?_)
  · obtain ⟨p, a, rs, n, G, rfl, _⟩ := h
    rfl
  · obtain ⟨p, a, rs, n, G, rfl, g0, hp, hn, ha, hz, hl, q⟩ := h
    refine ⟨_, ((pss_cons (ps_set (i := 2) scHanded.nd rfl (Or.inl rfl) (pe_df D_shuffled hr (by rfl) pass0 (pa_cons (pv 0) (pa_cons (pv 1) pa_nil))))
    (pss_one (ps_ret (pe_ix (k_ix_list (K := K) rfl) (pe_lst (pa_cons (pv 2) (pa_cons (pe_callTy (k_tuple (K := K) rfl) (by rfl) M.tuple_ (by decide +kernel) (pa_cons (pv 2) pa_nil)) pa_nil))) (pe_df D_draw hr (by rfl) pass0 (pa_cons (pv 0) (pa_cons pe_int pa_nil))) (fun _ _ => rfl)))))), ?_⟩
    walk_at "go0"
    refine ⟨p, a, rs.map V.str, n, G, rfl, g0, hp, by omega, ha, fun v hv => ?_, by rw [List.length_map]; exact hl, fun r ys G1 H1 s1 hp1 hr1 hpm => ?_⟩
    · obtain ⟨z, hzm, rfl⟩ := List.mem_map.mp hv
      exact .inl ⟨z, rfl, (hz z hzm).sok⟩
    rw [List.length_map] at hp1
    obtain ⟨rs', hpr, rfl⟩ := perm_map V.str hpm rs rfl
    walk_at "go"
    refine c_tupleL (s1.gh.seq hr1) (fun t nt => ?_)
    have s2 : Stp (M1 p) G H (upd G1 t (.tup (rs'.map V.str))) (upd H1 t (.tup (rs'.map V.str))) := s1.trans (Stp.new s1.gh nt)
    have ht2 : SqT K (upd G1 t (.tup (rs'.map V.str))) t (rs'.map V.str) := tof upd_same
    have hr2 : SqL K (upd G1 t (.tup (rs'.map V.str))) r (rs'.map V.str) := (same_new (none_of s1.gh nt)).seq hr1
    have hp2 : Pen K (upd G1 t (.tup (rs'.map V.str))) p (n + rs.length) (upd H1 t (.tup (rs'.map V.str))) := hp1.stp (Stp.new (M := M0) s1.gh nt) (fun z => z)
    generalize upd G1 t (.tup (rs'.map V.str)) = G2 at s2 ht2 hr2 hp2
    generalize upd H1 t (.tup (rs'.map V.str)) = H2 at s2 hp2 ⊢
    walk_at "go"
    refine ⟨by show 2 ≤ sizeLine; decide, fun l nl => ?_⟩
    have s3 : Stp (M1 p) G H G2 (upd H2 l (.lst [.ref r, .ref t])) := s2.trans (Stp.newM s2.gh nl)
    have hp3 := hp2.upd (x := .lst [.ref r, .ref t]) (hp2.new nl)
    have hl3 : (upd H2 l (.lst [.ref r, .ref t])) l = some (.lst [.ref r, .ref t]) := upd_same
    generalize upd H2 l (.lst [.ref r, .ref t]) = H3 at s3 hp3 hl3 ⊢
    walk_at "go"
    refine use_draw (m := 2) s3.gh hp3 (by omega) rfl (by omega) (by omega) (fun d H4 hd s4 hp4 => ?_)
    have hl4 := s4.up _ _ (hp3.ne hl3) hl3
    walk_at "go"
    have hd2 : d = 0 ∨ d = 1 := by omega
    rcases hd2 with rfl | rfl
    · refine r_ixL' (lof hl4) rfl rfl ?_
      exact q r rs' G2 H4 (s3.trans s4) (hp4.mono (by omega)) (.inl hr2) hpr
    · refine r_ixL' (lof hl4) rfl rfl ?_
      exact q t rs' G2 H4 (s3.trans s4) (hp4.mono (by omega)) (.inr ht2) hpr
def spEither (K : PySem.W.Frag) : Sp := fun vs H Q _ => ∃ (p a : Addr) (xs : List V) (ds : List Dr) (n : Nat) (G : Hp), vs = [.ref p, .ref a] ∧ Same G H ∧ Pen K G p n H ∧ n + 400 < 2 ^ 40 ∧ SqL K G a xs ∧ PrsT K G xs ds ∧ DsOk ds ∧ ds.length < 64 ∧
  ∀ r ys es G' H', Stp (M1 p) G H G' H' → Pen K G' p (n + 200) H' → SqL K G' r ys → PrsQ K G' ys es → (es.map ris).Perm (ds.map ris) → (∀ e ∈ es, e ∈ ds ∨ (e.2, e.1) ∈ ds) → Q (.ref r) H'
abbrev DEither (P : Program) (w : World) (K : PySem.W.Frag) (mg : Str → Option Value) (base : Heap) : Prop := Df P w K mg base CX0 3 "_law_either" ["_law_pen_here", "_law_pairs"] (spEither K)
theorem ok_Either {f : Addr} {fd : FuncData} (F : Fun K "_law_either" "_law_either" sEither f fd) (M : Mgs mg) (D_shuffled : DShuffled P w K mg base) (D_draw : DDraw P w K mg base) : FnOk P w K mg base CX0 3 f fd ["_law_pen_here", "_law_pairs"] (spEither K) := by
  refine F.ok scEither (fun vs H Q E h => ?_) (fun cdv A outer s H vs Q E hr h => ?_)
  · obtain ⟨p, a, xs, ds, n, G, rfl, _⟩ := h
    rfl
  · obtain ⟨p, a, xs, ds, n, G, rfl, g0, hp, hn, ha, hP, hok, hl, q⟩ := h
    refine ⟨_, ((pss_cons (ps_set (i := 2) scEither.nd rfl (Or.inl rfl) (pe_lst pa_nil))
    (pss_cons (ps_for PassesOwn.never rfl (k_pi_list (K := K) rfl (pe_df D_shuffled hr (by rfl) pass0 (pa_cons (pv 0) (pa_cons (pv 1) pa_nil)))) (pg_name (i := 3) scEither.nd rfl (Or.inl rfl))
    (pss_cons (ps_set (i := 4) scEither.nd rfl (Or.inl rfl) (pe_ix (k_ix_list (K := K) rfl) (pe_lst (pa_cons (pv 3) (pa_cons (k_revT (K := K) rfl (pv 3)) pa_nil))) (pe_df D_draw hr (by rfl) pass0 (pa_cons (pv 0) (pa_cons pe_int pa_nil))) (fun _ _ => rfl)))
    (pss_one (ps_expr (k_bm (K := K) rfl PySem.F.plainAttrs_list PySem.F.slot_list_append PySem.F.type_list_append mt_append (pv 2) (pa_cons (pe_ix (k_ix_list (K := K) rfl) (pe_lst (pa_cons (pv 4) (pa_cons (pe_callTy (k_list (K := K) rfl) (by rfl) M.list_ (by decide +kernel) (pa_cons (pv 4) pa_nil)) pa_nil))) (pe_df D_draw hr (by rfl) pass0 (pa_cons (pv 0) (pa_cons pe_int pa_nil))) (fun _ _ => rfl)) pa_nil))))))
    (pss_one (ps_ret (pv 2)))))), ?_⟩
    walk_at "go0"
    refine ⟨Nat.zero_le _, fun F nF => ?_⟩
    have s1 : Stp (M1 p) G H G (upd H F (.lst [])) := Stp.newM g0 nF
    have hF1 : (upd H F (.lst [])) F = some (.lst []) := upd_same
    have hp1 := hp.upd (x := .lst []) (hp.new nF)
    have gF : G F = none := none_of g0 nF
    generalize upd H F (.lst []) = H1 at s1 hF1 hp1 ⊢
    walk_at "go"
    refine ⟨p, a, xs, n, G, rfl, s1.gh, hp1, by omega, ha, fun v hv => ?_, by rw [hP.1]; omega, fun r ys G2 H2 s2 hp2 hr2 hpm => ?_⟩
    · obtain ⟨i, hi, e⟩ := List.getElem_of_mem hv
      have hi2 : i < ds.length := by rw [← hP.1]; exact hi
      obtain ⟨t, e1, e2⟩ := hP.2 i _ (List.getElem?_eq_getElem hi2)
      rw [List.getElem?_eq_getElem hi, e] at e1
      have hm := hok _ (List.getElem_mem hi2)
      exact .inr ⟨t, _, Option.some.inj e1, e2, hm.1, hm.2⟩
    obtain ⟨ds1, hP1, hpd⟩ := prs_perm hP hpm
    have hP2 : PrsT K G2 ys ds1 := hP1.same s2.gg
    have hF2 := s2.up _ _ (hp1.ne hF1) hF1
    have gF2 : G2 F = none := (s2.fr _ _ hF1 (by intro xs z; cases z) (hp1.ne hF1)).trans gF
    have hyl : ys.length = xs.length := hpm.length_eq
    have hdl : ds1.length = ds.length := hpd.length_eq
    have hxl : xs.length = ds.length := hP.1
    have s12 := s1.trans s2
    refine loopL (xs := ys) (s2.gh.seq hr2) (fun i σ H' => ∃ y3 y4, ∃ (G' : Hp) (zs : List V) (es : List Dr), σ = [some (.ref p), some (.ref a), some (.ref F), y3, y4] ∧ Stp (M1 p) G H G' H' ∧ Same G2 G' ∧ H' F = some (.lst zs) ∧ G' F = none ∧ PrsQ K G' zs es ∧
        es.map ris = (ds1.take i).map ris ∧ (∀ e ∈ es, e ∈ ds ∨ (e.2, e.1) ∈ ds) ∧ Pen K G' p (n + xs.length + 2 * i) H')
      ⟨none, none, G2, [], [], rfl, s12, Same.refl _, hF2, gF2, .nil, rfl, (fun _ h => by cases h), hp2⟩ (fun i σ H' _ pv => ?_) (fun i v σ H' hi hv pv => ?_) (fun σ H' pv => ?_)
    · obtain ⟨_, _, G', _, _, _, st, sg, _⟩ := pv
      exact (sg.trans st.gh).seq hr2
    · obtain ⟨y3, y4, G', zs, es, rfl, st, sg, hFz, gFz, hes, hris, hin, hpz⟩ := pv
      have hi' : i < ds1.length := by rw [← hP2.1]; exact hi
      obtain ⟨t, et, hq⟩ := hP2.2 i _ (List.getElem?_eq_getElem hi')
      cases et.symm.trans hv
      have hz := List.getElem?_eq_getElem hi'
      have hmd : ds1[i] ∈ ds := hpd.mem_iff.mp (List.getElem_mem hi')
      generalize ds1[i] = d at hq hz hmd
      have hzl : zs.length = i := by
        have e := congrArg List.length hris
        rw [List.length_map, List.length_map, List.length_take] at e
        rw [hes.1]
        omega
      walk_at "go"
      refine ⟨t, _, rfl, Same.sqt (sg.trans st.gh) hq, fun t2 nt2 => ?_⟩
      have s3 : Stp (M1 p) G H (upd G' t2 (.tup [.str d.2, .str d.1])) (upd H' t2 (.tup ([.str d.1, .str d.2] : List V).reverse)) := st.trans (Stp.new st.gh nt2)
      have hq3 : SqT K (upd G' t2 (.tup [.str d.2, .str d.1])) t [.str d.1, .str d.2] := Same.sqt (sg.trans (same_new (none_of st.gh nt2))) hq
      have hr3 : SqT K (upd G' t2 (.tup [.str d.2, .str d.1])) t2 [.str d.2, .str d.1] := tof upd_same
      have sg3 : Same G' (upd G' t2 (.tup [.str d.2, .str d.1])) := same_new (none_of st.gh nt2)
      have nFt : F ≠ t2 := ne_of_none hFz nt2
      have hF3 : (upd H' t2 (.tup ([.str d.1, .str d.2] : List V).reverse)) F = some (.lst zs) := by rw [upd_ne nFt]; exact hFz
      have gF3 : (upd G' t2 (.tup [.str d.2, .str d.1])) F = none := by rw [upd_ne nFt]; exact gFz
      have hp3 : Pen K (upd G' t2 (.tup [.str d.2, .str d.1])) p (n + xs.length + 2 * i) (upd H' t2 (.tup ([.str d.1, .str d.2] : List V).reverse)) := hpz.stp (Stp.new (M := M0) st.gh nt2) (fun z => z)
      generalize upd G' t2 (.tup [.str d.2, .str d.1]) = G3 at s3 hq3 hr3 sg3 gF3 hp3
      generalize upd H' t2 (.tup ([.str d.1, .str d.2] : List V).reverse) = H3 at s3 hF3 hp3 ⊢
      walk_at "go"
      refine ⟨by show 2 ≤ sizeLine; decide, fun l nl => ?_⟩
      have s4 : Stp (M1 p) G H G3 (upd H3 l (.lst [.ref t, .ref t2])) := s3.trans (Stp.newM s3.gh nl)
      have hp4 := hp3.upd (x := .lst [.ref t, .ref t2]) (hp3.new nl)
      have hl4 : (upd H3 l (.lst [.ref t, .ref t2])) l = some (.lst [.ref t, .ref t2]) := upd_same
      have hF4 : (upd H3 l (.lst [.ref t, .ref t2])) F = some (.lst zs) := by rw [upd_ne (ne_of_none hF3 nl)]; exact hF3
      generalize upd H3 l (.lst [.ref t, .ref t2]) = H4 at s4 hp4 hl4 hF4 ⊢
      walk_at "go"
      refine use_draw (m := 2) s4.gh hp4 (by omega) rfl (by omega) (by omega) (fun k H5 hk s5 hp5 => ?_)
      have hl5 := s5.up _ _ (hp4.ne hl4) hl4
      have hF5 := s5.up _ _ (hp4.ne hF4) hF4
      obtain ⟨u, e, hu, hqe, hre, hme⟩ : ∃ (u : Addr) (e : Dr), ([.ref t, .ref t2] : List V)[k]? = some (.ref u) ∧ SqT K G3 u [.str e.1, .str e.2] ∧ ris e = ris d ∧ (e ∈ ds ∨ (e.2, e.1) ∈ ds) := by
        have h : k = 0 ∨ k = 1 := by omega
        rcases h with rfl | rfl
        · exact ⟨t, d, rfl, hq3, rfl, .inl hmd⟩
        · exact ⟨t2, (d.2, d.1), rfl, hr3, ris_swap d, .inr hmd⟩
      walk_at "go"
      refine r_ixL' (lof hl5) rfl hu ?_
      have st5 := s4.trans s5
      clear s5 hl5 hl4 hp4 s4 hp3 s3 hq3 hr3 hu
      walk_at "go"
      refine c_list (.inr (Same.sqt st5.gh hqe)) (fun l2 nl2 => ?_)
      have nFl : F ≠ l2 := ne_of_none hF5 nl2
      have s6 : Stp (M1 p) G H (upd G3 l2 (.lst [.str e.1, .str e.2])) (upd H5 l2 (.lst [.str e.1, .str e.2])) := st5.trans (Stp.new st5.gh nl2)
      have hq6 : SqT K (upd G3 l2 (.lst [.str e.1, .str e.2])) u [.str e.1, .str e.2] := Same.sqt (same_new (none_of st5.gh nl2)) hqe
      have hr6 : SqL K (upd G3 l2 (.lst [.str e.1, .str e.2])) l2 [.str e.1, .str e.2] := lof upd_same
      have sg6 : Same G' (upd G3 l2 (.lst [.str e.1, .str e.2])) := sg3.trans (same_new (none_of st5.gh nl2))
      have hF6 : (upd H5 l2 (.lst [.str e.1, .str e.2])) F = some (.lst zs) := by rw [upd_ne nFl]; exact hF5
      have gF6 : (upd G3 l2 (.lst [.str e.1, .str e.2])) F = none := by rw [upd_ne nFl]; exact gF3
      have hp6 : Pen K (upd G3 l2 (.lst [.str e.1, .str e.2])) p (n + xs.length + 2 * i + 1) (upd H5 l2 (.lst [.str e.1, .str e.2])) := hp5.stp (Stp.new (M := M0) st5.gh nl2) (fun z => z)
      generalize upd G3 l2 (.lst [.str e.1, .str e.2]) = G6 at s6 hq6 hr6 sg6 gF6 hp6
      generalize upd H5 l2 (.lst [.str e.1, .str e.2]) = H6 at s6 hF6 hp6 ⊢
      walk_at "go"
      refine ⟨by show 2 ≤ sizeLine; decide, fun l3 nl3 => ?_⟩
      have s7 : Stp (M1 p) G H G6 (upd H6 l3 (.lst [.ref u, .ref l2])) := s6.trans (Stp.newM s6.gh nl3)
      have hp7 := hp6.upd (x := .lst [.ref u, .ref l2]) (hp6.new nl3)
      have hl7 : (upd H6 l3 (.lst [.ref u, .ref l2])) l3 = some (.lst [.ref u, .ref l2]) := upd_same
      have hF7 : (upd H6 l3 (.lst [.ref u, .ref l2])) F = some (.lst zs) := by rw [upd_ne (ne_of_none hF6 nl3)]; exact hF6
      generalize upd H6 l3 (.lst [.ref u, .ref l2]) = H7 at s7 hp7 hl7 hF7 ⊢
      walk_at "go"
      refine use_draw (m := 2) s7.gh hp7 (by omega) rfl (by omega) (by omega) (fun k2 H8 hk2 s8 hp8 => ?_)
      have hl8 := s8.up _ _ (hp7.ne hl7) hl7
      have hF8 := s8.up _ _ (hp7.ne hF7) hF7
      obtain ⟨u2, hu2, hqe2⟩ : ∃ (u2 : Addr), ([.ref u, .ref l2] : List V)[k2]? = some (.ref u2) ∧ SqQ K G6 u2 [.str e.1, .str e.2] := by
        have h : k2 = 0 ∨ k2 = 1 := by omega
        rcases h with rfl | rfl
        · exact ⟨u, rfl, .inr hq6⟩
        · exact ⟨l2, rfl, .inl hr6⟩
      walk_at "go"
      refine r_ixL' (lof hl8) rfl hu2 ?_
      walk_at "go"
      have st8 := s7.trans s8
      refine c_append hF8 (small5 (by omega)) ?_
      walk_at "go"
      refine ⟨_, _, G6, zs ++ [.ref u2], es ++ [e], rfl, st8.inner (M' := M1 F) (Stp.mut st8.gh hF8 gF6 rfl) (fun b eb => .inr (by rw [eb]; exact nF)), sg.trans sg6, upd_same, gF6, (hes.same sg6).snoc hqe2, ?_, fun e' he' => ?_, ?_⟩
      · rw [take_succ_get hz, List.map_append, List.map_append, hris]
        show _ ++ [ris e] = _ ++ [ris d]
        rw [hre]
      · rcases List.mem_append.mp he' with h | h
        · exact hin e' h
        · rw [List.mem_singleton.mp h]; exact hme
      · have ep : n + xs.length + 2 * (i + 1) = n + xs.length + 2 * i + 1 + 1 := by omega
        rw [ep]
        exact hp8.upd (hp8.ne hF8)
    · obtain ⟨y3, y4, G', zs, es, rfl, st, sg, hFz, gFz, hes, hris, hin, hpz⟩ := pv
      rw [List.take_of_length_le (by rw [hP2.1]; exact Nat.le_refl _)] at hris
      walk_at "go"
      refine q F zs es (upd G' F (.lst zs)) H' (st.freeze hFz nF gFz) ?_ (lof upd_same) (hes.same (same_new gFz)) (by rw [hris]; exact hpd.map _) hin
      exact (hpz.know (same_new gFz) (by rw [upd_ne (hpz.ne hFz).symm]; exact hpz.1)).mono (by rw [hyl, hP.1]; omega)
end
abbrev sHouse : Stmt := topS 35
theorem scHouse : FnScope ["_law_pen_here", "_law_yard_here"] ["_law_pen_here", "_law_yard_here"] (defScope sHouse) := ⟨rfl, rfl, rfl, by decide +kernel, rfl, by decide +kernel, by decide +kernel⟩
section
variable {P : Program} {w : World} {K : PySem.W.Frag} {mg : Str → Option Value} {base : Heap}
/-- rooms and doors that may be handed in -/
structure Fine (rs : List Str) (ds : List Dr) : Prop where
  nd : rs.Nodup
  inn : ∀ e ∈ ds, e.1 ∈ rs ∧ e.2 ∈ rs ∧ e.1 ≠ e.2
  rn : (ds.map ris).Nodup
  tri : NoTri ds
theorem Fine.ll {rs : List Str} {ds : List Dr} (h : Fine rs ds) : Loopless ds := fun e he => (h.inn e he).2.2
theorem nb_app {ds : List Dr} {a b x z : Str} (hab : a ≠ b) (hl : Loopless ds) : z ∈ nb (ds ++ [(a, b)]) x ↔ z ∈ nb ds x ∨ (x = a ∧ z = b) ∨ (x = b ∧ z = a) := by
  have hl2 : Loopless (ds ++ [(a, b)]) := fun e he => by
    rcases List.mem_append.mp he with he | he
    · exact hl e he
    · rw [List.mem_singleton.mp he]; exact hab
  rw [mem_nb hl2, mem_nb hl]
  simp only [List.mem_append, List.mem_singleton, Prod.mk.injEq]
  constructor
  · rintro ((h | h) | (h | h))
    · exact .inl (.inl h)
    · exact .inr (.inl h)
    · exact .inl (.inr h)
    · exact .inr (.inr ⟨h.2, h.1⟩)
  · rintro ((h | h) | h | h)
    · exact .inl (.inl h)
    · exact .inr (.inl h)
    · exact .inl (.inr h)
    · exact .inr (.inr ⟨h.2, h.1⟩)
theorem Fine.add {rs : List Str} {ds : List Dr} (h : Fine rs ds) {a b : Str} (ha : a ∈ rs) (hb : b ∈ rs) (hm : mayD ds a b = true) : Fine rs (ds ++ [(a, b)]) := by
  unfold mayD at hm
  rw [Bool.and_eq_true, Bool.and_eq_true] at hm
  obtain ⟨⟨m1, m2⟩, m3⟩ := hm
  have m1 := of_decide_eq_true m1
  have m2 := of_decide_eq_true m2
  have m3 := of_decide_eq_true m3
  have hll := h.ll
  refine ⟨h.nd, fun e he => ?_, ?_, fun x y z h1 h2 h3 => ?_⟩
  · rcases List.mem_append.mp he with he | he
    · exact h.inn e he
    · rw [List.mem_singleton.mp he]; exact ⟨ha, hb, m1⟩
  · rw [List.map_append, List.nodup_append]
    refine ⟨h.rn, List.nodup_cons.mpr ⟨fun z => (by cases z), List.nodup_nil⟩, fun c hc e he => ?_⟩
    rw [List.map_singleton, List.mem_singleton] at he
    intro ec
    rw [ec, he] at hc
    refine m2 ((mem_nb hll).mpr ?_)
    rcases ris_or (d := (a, b)) m1 with c2 | c2
    · rw [c2] at hc
      exact (mem_ris hll).mp (.inl hc)
    · rw [c2] at hc
      exact (mem_ris hll).mp (.inr hc)
  · exact tri_add (R := fun x y => y ∈ nb ds x) (fun x y => nb_sym hll) (fun x => nb_irr hll) (fun x y z => h.tri x y z) m1 m3 x y z ((nb_app m1 hll).mp h1) ((nb_app m1 hll).mp h2) ((nb_app m1 hll).mp h3)
theorem withD_fine {rs : List Str} (hnd : rs.Nodup) : ∀ (ps : List (Nat × Nat)), PrIn rs.length ps → ∀ ds, Fine rs ds → Fine rs (ps.foldl (stepD rs) ds)
  | [], _, ds, h => h
  | q :: ps, hp, ds, h => by
    rw [List.foldl_cons]
    refine withD_fine hnd ps (fun e he => hp e (List.mem_cons_of_mem _ he)) _ ?_
    unfold stepD
    have hq := hp q List.mem_cons_self
    have g : ∀ i, i < rs.length → gR rs i ∈ rs := fun i hi => by
      unfold gR
      rw [List.getD_eq_getElem?_getD, List.getElem?_eq_getElem hi]
      exact List.getElem_mem hi
    by_cases c : mayD ds (gR rs q.1) (gR rs q.2) = true
    · rw [if_pos c]
      exact h.add (g _ hq.1) (g _ hq.2) c
    · rw [if_neg c]
      exact h
theorem withD_fine' {rs : List Str} (hnd : rs.Nodup) {ps : List (Nat × Nat)} (hp : PrIn rs.length ps) : Fine rs (withD rs ps) :=
  withD_fine hnd ps hp [] ⟨hnd, fun _ h => (by cases h), List.nodup_nil, fun a b c h => (by cases h)⟩
theorem Fine.less {rs : List Str} {ds es : List Dr} (h : Fine rs ds) (s : es.Sublist ds) : Fine rs es :=
  ⟨h.nd, fun e he => h.inn e (s.subset he), (s.map ris).nodup h.rn, h.tri.of fun x z => nb_less (fun d hd => s.subset hd) h.ll⟩
def spHouse (K : PySem.W.Frag) (C : Addr) : Sp := fun vs H Q _ => ∃ (p y : Addr) (rs : List Str) (ds : List Dr) (n : Nat) (G : Hp), vs = [.ref p, .ref y] ∧ Same G H ∧ Pen K G p n H ∧ n + 800 < 2 ^ 40 ∧ Yard K G y rs ds ∧ (∀ z ∈ rs, NmOk z) ∧ 1 ≤ rs.length ∧ rs.length < 64 ∧ Fine rs ds ∧ ds.length < 64 ∧
  ∀ h rs' es G' H', Stp (M1 p) G H G' H' → Pen K G' p (n + 400) H' → HouseIn K C G' G' h rs' es → rs'.Perm rs → sortedS rs' = true → es.Perm (ds.map ris) → es.Pairwise leD → Q (.ref h) H'
abbrev DHouse (P : Program) (w : World) (K : PySem.W.Frag) (mg : Str → Option Value) (base : Heap) (c_House : Addr) : Prop := Df P w K mg base CX0 5 "_law_house" ["_law_pen_here", "_law_yard_here"] (spHouse K c_House)
theorem ok_House {f : Addr} {fd : FuncData} (F : Fun K "_law_house" "_law_house" sHouse f fd) (M : Mgs mg) {c_House : Addr} (Z_House : HouseC K mg c_House) (D_House_init : DHouseInit P w K mg base c_House) (D_handed : DHanded P w K mg base) (D_either : DEither P w K mg base) : FnOk P w K mg base CX0 5 f fd ["_law_pen_here", "_law_yard_here"] (spHouse K c_House) := by
  refine F.ok scHouse (fun vs H Q E h => ?_) (fun cdv A outer s H vs Q E hr h => ?_)
  · obtain ⟨p, y, rs, ds, n, G, rfl, _⟩ := h
    rfl
  · obtain ⟨p, y, rs, ds, n, G, rfl, g0, hp, hn, hy, hnm, h1, h64, hf, hdl, q⟩ := h
    have hu := hu_of hr
    have hyh := hy
    obtain ⟨d, xs, hyd, hsd, hdr⟩ := hyh
    obtain ⟨r, e1, e2⟩ := hyd
    refine ⟨_, ((pss_one (ps_ret (pe_dk D_House_init hr (by rfl) pass0 (pa_cons (pe_df D_handed hr (by rfl) pass0 (pa_cons (pv 0) (pa_cons (pe_dget hu (pv 1) pe_str (fun _ _ => rfl)) pa_nil))) (pa_cons (pe_df D_either hr (by rfl) pass0 (pa_cons (pv 0) (pa_cons (pe_dget hu (pv 1) pe_str (fun _ _ => rfl)) pa_nil))) pa_nil)))))), ?_⟩
    walk_at "go0"
    refine r_dget' (dk (g0 _ _ e1) vv0) ?_
    walk_at "go"
    refine ⟨p, r, rs, n, G, rfl, g0, hp, by omega, e2, hnm, h64, fun a rs1 G1 H1 s1 hp1 ha hpm => ?_⟩
    walk_at "go"
    refine r_dget' (dk ((s1.gg.trans s1.gh) _ _ e1) ((vv1 (by decide +kernel)).trans vv0)) ?_
    walk_at "go"
    refine ⟨p, d, xs, ds, n + 100, G1, rfl, s1.gh, hp1, by omega, s1.gg.seq hsd, hdr.prs.same s1.gg, fun e he => ⟨(hnm _ (hf.inn e he).1).sok, (hnm _ (hf.inn e he).2.1).sok⟩, hdl, fun dd ys es G2 H2 s2 hp2 hdd hq2 hrs2 hin2 => ?_⟩
    walk_at "go"
    intro x dx nx ndx hne
    have s12 := s1.trans s2
    have s3a : Stp (M1 p) G H G2 (upd H2 dx (.own x)) := s12.trans (Stp.newM s12.gh ndx)
    have nx3 : (upd H2 dx (.own x)) x = none := by rw [upd_ne hne.symm]; exact nx
    have s3 : Stp (M1 p) G H G2 (upd (upd H2 dx (.own x)) x (.ins c_House dx [])) := s3a.trans (Stp.newM s3a.gh nx3)
    have hx3 : (upd (upd H2 dx (.own x)) x (.ins c_House dx [])) x = some (.ins c_House dx []) := upd_same
    have hxp := hp2.new nx
    have hp3 := (hp2.upd (x := .own x) (hp2.new ndx)).upd (x := .ins c_House dx []) hxp
    have gx : G2 x = none := none_of s12.gh nx
    have nxH : H x = none := s12.free nx
    generalize upd (upd H2 dx (.own x)) x (.ins c_House dx []) = H3 at s3 hx3 hp3 ⊢
    have hle : es.length = ds.length := by
      have h := hrs2.length_eq
      rw [List.length_map, List.length_map] at h
      exact h
    have hinn : ∀ e ∈ es, e.1 ∈ rs1 ∧ e.2 ∈ rs1 ∧ e.1 ≠ e.2 := fun e he => by
      rcases hin2 e he with h | h
      · have h := hf.inn _ h
        exact ⟨hpm.mem_iff.mpr h.1, hpm.mem_iff.mpr h.2.1, h.2.2⟩
      · have h := hf.inn _ h
        exact ⟨hpm.mem_iff.mpr h.2.1, hpm.mem_iff.mpr h.1, h.2.2.symm⟩
    have htri : NoTri es := hf.tri.of fun x z h => by
      refine (mem_nb hf.ll).mpr ?_
      rcases (mem_nb (fun e he => (hinn e he).2.2)).mp h with h | h
      · exact hin2 _ h
      · exact (hin2 _ h).symm
    refine ⟨x, a, dd, dx, rs1, ys, es, G2, rfl, s3.gh, hx3, gx, ha.same s2.gg, fun z hz => hnm z (hpm.mem_iff.mp hz), hpm.nodup_iff.mpr hf.nd, by rw [hpm.length_eq]; exact h1, by rw [hpm.length_eq]; exact h64, hdd, hq2, hinn, hrs2.nodup_iff.mpr hf.rn, htri, by omega, fun rs' es' G4 H4 s4 gx4 p1 p2 p3 p4 hh => ?_⟩
    refine ⟨rfl, ?_⟩
    have s34 : Stp (M1 p) G H G4 H4 := s3.inner (M' := M1 x) s4 (fun b e => .inr (by rw [e]; exact nxH))
    obtain ⟨dx', r', d', N', xs', hx4, q1, q2, q3, q4⟩ := hh
    have hp4 := hp3.stp s4 (fun z => hxp z.symm)
    refine q x rs' es' (upd G4 x _) H4 (s34.freeze hx4 nxH gx4) ((hp4.know (same_new gx4) (by rw [upd_ne hxp.symm]; exact hp4.1)).mono (by omega)) ⟨dx', r', d', N', xs', upd_same, Same.sqt (same_new gx4) q1, Same.sqt (same_new gx4) q2, q3.same (same_new gx4), q4.same (same_new gx4)⟩ (p1.trans hpm) p2 (p3.trans hrs2) p4
end
section
variable {P : Program} {w : World} {K : PySem.W.Frag} {mg : Str → Option Value} {base : Heap}
/-! bridges: promises of the helpers over data -/
theorem brPen (D : DPen P w K mg base) : Df P w K mg base CX0 1 "_law_pen" ["_law_script"] (spNewPen K) := D.imp fun vs H Q E ⟨a, ns, G, e, g, r, hl, q⟩ => by
  obtain ⟨b, vs', rfl, h1, h2⟩ := r.lst_inv
  rw [h2.ints_inv] at h1
  exact ⟨b, ns, G, e, g, h1, hl, q⟩
abbrev psDraw : Nat → List D → (D → Nat → Prop) → Prop := pp1 fun n x R => ∃ m : Nat, x = .int (m : Int) ∧ n < 2 ^ 40 ∧ 1 ≤ m ∧ m < 2 ^ 30 ∧ ∀ d : Nat, d < m → R (.int (d : Int)) (n + 1)
theorem brDraw (D : DDraw P w K mg base) : Df P w K mg base CX0 1 "_law_draw" ["_law_pen_here", "_law_many"] (spP K psDraw) := D.imp fun vs H Q E ⟨p, n, rest, ds, G, R, e, g, hp, r, ⟨x, e2, m, e3, h1, h2, h3, q⟩, k⟩ => by
  subst e2 e3
  cases r with
  | cons r r' =>
    cases r'
    rw [r.int_inv] at e
    exact ⟨p, (m : Int), m, n, G, e, g, hp, h1, rfl, h2, h3, fun d H' hd s hp' => k _ _ _ _ _ (q d hd) s hp' (.int _)⟩
/-- pick out of a row or a text -/
abbrev psPick : Nat → List D → (D → Nat → Prop) → Prop := pp1 fun n x R => ∃ ds : List D, Rw x ds ∧ n < 2 ^ 40 ∧ 1 ≤ ds.length ∧ ds.length < 2 ^ 30 ∧ ∀ d ∈ ds, R d (n + 1)
theorem brPick (D : DPick P w K mg base) : Df P w K mg base CX0 2 "_law_pick" ["_law_pen_here", "_law_some"] (spP K psPick) := D.imp fun vs H Q E ⟨p, n, rest, xs, G, R, e, g, hp, r, ⟨x, e2, ds, e3, h1, h2, h3, q⟩, k⟩ => by
  subst e2
  cases r with
  | cons r r' =>
    cases r'
    obtain ⟨a, vs', rfl, h4, h5⟩ := (Po.of (H := G) r).rw e3 (Same.refl _)
    refine ⟨p, .ref a, vs', n, G, e, g, hp, h1, ?_, by rw [h5.len]; exact h2, by rw [h5.len]; exact h3, fun d v H' hd s hp' => ?_⟩
    · exact h4.elim (fun h4 => .inl ⟨a, rfl, h4⟩) (fun h4 => .inr (.inl ⟨a, rfl, h4⟩))
    · obtain ⟨y, hy, ry⟩ := h5.get' hd
      exact k _ _ _ _ _ (q y (List.mem_of_getElem? hy)) s hp' ry
abbrev psNear : List D → (D → Prop) → Prop := ps2 fun y x R => ∃ (rs : List Str) (ds : List Dr) (z : Str), y = yardD rs ds ∧ x = .str z ∧ ds.length < 64 ∧ R (.lst ((srt (nb ds z)).map D.str))
abbrev spNearD (K : PySem.W.Frag) : Sp := spD K psNear
theorem brNear (D : DNear P w K mg base) : Df P w K mg base CX0 1 "_law_near" ["_law_yard_here", "_law_room"] (spNearD K) := D.imp fun vs H Q E ⟨ds0, G, R, g, r, ⟨y, x, e, rs, ds, z, e1, e2, hl, q⟩, k⟩ => by
  subst e e1 e2
  cases r with
  | cons r1 r => cases r with
    | cons r2 r =>
      cases r
      obtain ⟨b, rfl, hy⟩ := rp_yard r1
      rw [r2.str_inv]
      refine ⟨b, z, rs, ds, G, rfl, g, hy, hl, fun r ys G' H' s h1 h2 h3 => k _ _ _ _ q s ?_⟩
      rw [← srt_uniq h2 h3]
      exact .lst h1 Rps.strs
end
section
variable {P : Program} {w : World} {K : PySem.W.Frag} {mg : Str → Option Value} {base : Heap}
theorem near_rp {G : Hp} {rs : List Str} {es : List Dr} : ∀ {ms : List Addr}, ms.length = rs.length → (∀ (j : Nat) (z : Str) (m : Addr), rs[j]? = some z → ms[j]? = some m → ∃ ys : List Str, SqL K G m (ys.map V.str) ∧ ys.Perm (nb es z) ∧ sortedS ys = true) →
    RpK K G (kvs rs (ms.map V.ref)) (rs.map fun r => (.inr r, .lst ((srt (nb es r)).map D.str))) := by
  induction rs with
  | nil => intro ms h _; cases ms with
    | nil => exact .nil
    | cons _ _ => cases h
  | cons r rs ih => intro ms h k; cases ms with
    | nil => cases h
    | cons m ms =>
      obtain ⟨ys, h1, h2, h3⟩ := k 0 r m rfl rfl
      rw [srt_uniq h2 h3] at h1
      exact .cons (.lst h1 Rps.strs) (ih (by simpa using h) fun j z m' e1 e2 => k (j + 1) z m' (by simpa using e1) (by simpa using e2))
theorem nb_inn {rs : List Str} {es : List Dr} (h : ∀ e ∈ es, e.1 ∈ rs ∧ e.2 ∈ rs ∧ e.1 ≠ e.2) {x z : Str} (m : z ∈ nb es x) : z ∈ rs := by
  rcases (mem_nb (fun e he => (h e he).2.2)).mp m with m | m
  · exact (h _ m).2.1
  · exact (h _ m).1
end
section
variable {P : Program} {w : World} {K : PySem.W.Frag} {mg : Str → Option Value} {base : Heap}
/-! bridges: promises of the helpers over data -/
/-- rooms and doors as they are drawn -/
structure Drawn (m : Nat) (rs : List Str) (ds : List Dr) : Prop where
  one : 1 ≤ rs.length
  most : rs.length ≤ m
  nm : ∀ z ∈ rs, NmOk z
  fine : Fine rs ds
  few : ds.length < 64
  str : HasStr rs
abbrev psYard : Nat → List D → (D → Nat → Prop) → Prop := pp1 fun n x R => ∃ m : Nat, x = .int (m : Int) ∧ n + 300 < 2 ^ 40 ∧ 1 ≤ m ∧ m ≤ 16 ∧ ∀ rs ds, Drawn m rs ds → R (yardD rs ds) (n + 200)
theorem brYard (D : DYard P w K mg base) : Df P w K mg base CX0 4 "_law_yard" ["_law_pen_here", "_law_most"] (spP K psYard) := D.imp fun vs H Q E ⟨p, n, rest, ds, G, R, e, g, hp, r, ⟨x, e2, m, e3, h1, h2, h3, q⟩, k⟩ => by
  subst e2 e3
  cases r with
  | cons r r' =>
    cases r'
    rw [r.int_inv] at e
    exact ⟨p, (m : Int), m, n, G, e, g, hp, h1, rfl, h2, h3, fun y rs ps G' H' s hp' hy o1 o2 o3 o4 o5 o6 o7 =>
      k _ _ _ _ _ (q rs _ ⟨o1, o2, o3, withD_fine' o6 o4, Nat.lt_of_le_of_lt (withD_len _ _) o5, o7⟩) s hp' (yard_rp hy)⟩
/-- the house as data -/
def houseF (rs : List Str) (es : List Dr) : List (Str × D) := [("_rooms", .tup (rs.map D.str)), ("_doors", .tup (es.map prD)), ("_near", .dct (rs.map fun r => (.inr r, .lst ((srt (nb es r)).map D.str))))]
abbrev houseD (C : Addr) (rs : List Str) (es : List Dr) : D := .obj C (houseF rs es)
theorem house_rp {C : Addr} {G : Hp} {a : Addr} {rs : List Str} {es : List Dr} (h : HouseIn K C G G a rs es) : Rp K G (.ref a) (houseD C rs es) := by
  obtain ⟨dx, r, d, N, xs, h1, h2, h3, h4, ms, h5, h6, h7⟩ := h
  exact .obj h1 (.cons (.tup h2 Rps.strs) (.cons (.tup h3 (prs_rps h4)) (.cons (.dct h6 (near_rp h5 h7)) .nil)))
/-- the drawn rooms and doors as a house has them -/
def hR (rs : List Str) : List Str := srt rs
def hD (ds : List Dr) : List Dr := srtP (ds.map ris)
abbrev psHouse (C : Addr) : Nat → List D → (D → Nat → Prop) → Prop := pp1 fun n y R => ∃ (m : Nat) (rs : List Str) (ds : List Dr), y = yardD rs ds ∧ n + 800 < 2 ^ 40 ∧ m < 64 ∧ Drawn m rs ds ∧ R (houseD C (hR rs) (hD ds)) (n + 400)
theorem brHouse {C : Addr} (D : DHouse P w K mg base C) : Df P w K mg base CX0 5 "_law_house" ["_law_pen_here", "_law_yard_here"] (spP K (psHouse C)) := D.imp fun vs H Q E ⟨p, n, rest, ds0, G, R, e, g, hp, r, ⟨x, e2, m, rs, ds, e3, h1, h2, h3, q⟩, k⟩ => by
  subst e2 e3
  cases r with
  | cons r r' =>
    cases r'
    obtain ⟨y, rfl, hy⟩ := rp_yard r
    exact ⟨p, y, rs, ds, n, G, e, g, hp, h1, hy, h3.nm, h3.one, Nat.lt_of_le_of_lt h3.most h2, h3.fine, h3.few, fun h rs' es G' H' s hp' hh o1 o2 o3 o4 => k _ _ _ _ _ q s hp' (by
      rw [srt_uniq o1 o2, srtP_uniq o3 o4] at hh
      exact house_rp hh)⟩
/-- rooms and doors of a house -/
structure HOk2 (rs : List Str) (es : List Dr) : Prop where
  nd : rs.Nodup
  srt : sortedS rs = true
  len : rs.length < 64
  inn : ∀ e ∈ es, e.1 ∈ rs ∧ e.2 ∈ rs ∧ e.1 ≠ e.2
  dl : es.length < 64
  tri : NoTri es
  ds : es.Pairwise leD
  ris : ∀ e ∈ es, TT.ris e = e
theorem ris_ris {d : Dr} (h : d.1 ≠ d.2) : ris (ris d) = ris d := by
  have h2 := loopless_ris (ds := [d]) (fun e he => by rw [List.mem_singleton.mp he]; exact h) (ris d) (by simp)
  rcases ris_or h with e | e
  · rw [e, e]
  · rw [e, ris_swap, e]
theorem Drawn.ok {m : Nat} {rs : List Str} {ds : List Dr} (h : Drawn m rs ds) (hm : m < 64) : HOk2 (hR rs) (hD ds) := by
  have hll := h.fine.ll
  have hin : ∀ e ∈ hD ds, e.1 ∈ hR rs ∧ e.2 ∈ hR rs ∧ e.1 ≠ e.2 := fun e he => by
    have he' := srtP_mem.mp he
    obtain ⟨e0, h0, rfl⟩ := List.mem_map.mp he'
    have h3 := h.fine.inn e0 h0
    rcases ris_or h3.2.2 with c | c
    · rw [c]; exact ⟨srt_mem.mpr h3.1, srt_mem.mpr h3.2.1, h3.2.2⟩
    · rw [c]; exact ⟨srt_mem.mpr h3.2.1, srt_mem.mpr h3.1, h3.2.2.symm⟩
  refine ⟨srt_nodup h.fine.nd, srt_sorted _, by unfold hR; rw [srt_len]; exact Nat.lt_of_le_of_lt h.most hm, hin, by unfold hD; rw [srtP_len, List.length_map]; exact h.few, ?_, srtP_sorted _, fun e he => ?_⟩
  · refine h.fine.tri.of fun y z hz => ?_
    refine (nb_ris hll).mp ?_
    exact (nb_perm (srtP_perm _) y).mem_iff.mp hz
  · obtain ⟨e0, h0, rfl⟩ := List.mem_map.mp (srtP_mem.mp he)
    exact ris_ris (h.fine.inn e0 h0).2.2
theorem HOk2.ll {rs : List Str} {es : List Dr} (h : HOk2 rs es) : Loopless es := fun e he => (h.inn e he).2.2
theorem hD_nb {ds : List Dr} (hl : Loopless ds) {x z : Str} : z ∈ nb (hD ds) x ↔ z ∈ nb ds x := by
  rw [← nb_ris hl]
  exact (nb_perm (srtP_perm _) x).mem_iff
end
local macro_rules | `(tactic| walk_at "p1") => `(tactic| first
  | with_reducible refine p_seq ?_ | with_reducible refine p_next ?_ | with_reducible refine p_asg ?_ | with_reducible refine p_setN ?_ | with_reducible refine p_name ?_ | with_reducible refine p_if ?_ | with_reducible refine p_ret ?_ | with_reducible refine p_retNew ?_ | with_reducible refine p_drop ?_ | with_reducible refine p_for ?_ | with_reducible refine p_itl ?_ | with_reducible refine p_itt ?_
  | ((with_reducible refine' p_var ?h ?_); (case h => rfl))
  | with_reducible refine p_c ?_ | with_reducible refine p_sub3 ?_ | with_reducible refine p_op ?_ | with_reducible refine p_opX ?_ | with_reducible refine p_opN ?_ | with_reducible refine p_un ?_ | with_reducible refine p_cb ?_ | with_reducible refine p_cbs ?_ | with_reducible refine p_cbsX ?_ | with_reducible refine p_call ?_ | with_reducible refine p_callX ?_ | with_reducible refine p_cons ?_ | with_reducible refine p_consX ?_ | with_reducible refine p_nil ?_
  | with_reducible refine p_test ?_ | with_reducible refine p_testX ?_ | with_reducible refine p_and ?_ | with_reducible refine p_or ?_ | with_reducible refine p_not ?_ | with_reducible refine p_andX ?_ | with_reducible refine p_orX ?_ | with_reducible refine p_notX ?_ | with_reducible refine p_andV ?_ | with_reducible refine p_orV ?_ | with_reducible refine p_notV ?_ | with_reducible refine p_ifx ?_ | with_reducible refine p_ifX ?_ | with_reducible refine p_sl ?_
  | with_reducible refine p_I0 ?_ | with_reducible refine p_S2 ?_ | with_reducible refine p_eqS ?_ | with_reducible refine p_neS ?_ | with_reducible refine p_eqI ?_ | with_reducible refine p_neI ?_ | with_reducible refine p_isN ?_ | with_reducible refine p_notN ?_ | with_reducible refine p_len ?_ | with_reducible refine p_lenT ?_ | with_reducible refine p_lenTn ?_
  | with_reducible refine p_two ?_ | with_reducible refine p_three ?_ | with_reducible refine p_twoN ?_ | with_reducible refine p_threeN ?_ | with_reducible refine p_par ?_ | with_reducible refine p_par3 ?_ | with_reducible refine p_parN ?_ | with_reducible refine p_par3N ?_
  | with_reducible refine p_bl' ?_ | with_reducible refine p_int' ?_ | with_reducible refine p_str' ?_ | with_reducible refine p_lst' ?_ | with_reducible refine p_tp' ?_ | with_reducible refine p_tn' ?_ | with_reducible refine p_l' ?_ | with_reducible refine p_d' ?_ | with_reducible refine p_o' ?_
  | ((with_reducible refine' p_gtup ?h ?_); (case h => rfl)) | ((with_reducible refine' p_gtun ?h ?_); (case h => rfl)) | with_reducible refine p_gcons ?_ | with_reducible refine p_gnil ?_
  | with_reducible refine p_slT ?_ | with_reducible refine p_slTn ?_
  | with_reducible refine p_ps1 ?_ | with_reducible refine p_ps2 ?_ | with_reducible refine p_ps3 ?_ | with_reducible refine p_ps4 ?_ | with_reducible refine p_ps5 ?_ | with_reducible refine p_pp4' ?_ | with_reducible refine p_parXN ?_ | with_reducible refine p_penS ?_ | with_reducible refine p_dictD ?_ | with_reducible refine p_pn1 ?_ | with_reducible refine p_pn2 ?_ | with_reducible refine p_pp0 ?_ | with_reducible refine p_pp1 ?_ | with_reducible refine p_pp2 ?_ | with_reducible refine p_pp3 ?_
  | ((with_reducible refine' p_seeV ?h ?_); (case h => rfl)) | ((with_reducible refine' p_seeL ?h ?_); (case h => rfl)) | ((with_reducible refine' p_seeD ?h ?_); (case h => rfl))
  | ((with_reducible refine' p_giveV ?h ?_); (case h => rfl)) | ((with_reducible refine' p_giveL ?h ?_); (case h => rfl)) | ((with_reducible refine' p_giveD ?h ?_); (case h => rfl))
  | ((with_reducible refine' p_pen ?h ?_); (case h => rfl)) | ((with_reducible refine' p_pen' ?h ?_); (case h => rfl))
  | with_reducible refine p_fld ?_ | ((with_reducible refine' p_objF ?h ?_); (case h => rfl)) | ((with_reducible refine' p_objM ?h ?_); (case h => rfl)) | with_reducible refine p_dget ?_ | with_reducible refine p_din ?_ | with_reducible refine p_inB ?_ | with_reducible refine p_ninB ?_ | with_reducible refine p_inS ?_ | with_reducible refine p_ninS ?_ | with_reducible refine p_in ?_ | with_reducible refine p_inT ?_ | ((with_reducible refine' p_append ?h ?_); (case h => rfl)) | with_reducible refine p_asg2 ?_ | with_reducible refine p_pt2 ?_ | with_reducible refine p_dput ?_ | ((with_reducible refine' p_d0 ?h ?_); (case h => rfl)) | with_reducible refine p_pn3 ?_
  | with_reducible refine p_newPen ?_ | with_reducible refine p_tindex ?_ | with_reducible refine p_lcX ?_ | with_reducible refine p_meth ?_ | with_reducible refine p_obj ?_ | with_reducible refine p_retN ?_ | with_reducible refine p_brk ?_ | with_reducible refine p_cont ?_
  | with_reducible refine iteT ?_ | with_reducible refine iteF ?_ | with_reducible refine iteN1 ?_ | with_reducible refine iteN2 ?_ | with_reducible refine iteI1 ?_ | with_reducible refine iteI2 ?_)
local macro_rules | `(tactic| walk_at "p") => `(tactic| ((try dsimp only [List.set_cons_succ, List.set_cons_zero]); repeat (walk_at "p1"; (try dsimp only [List.set_cons_succ, List.set_cons_zero]))))
local macro_rules | `(tactic| walk_at "z1") => `(tactic| first | walk_at "p1" | with_reducible refine p_sz0 ?_ | with_reducible refine p_sz1 ?_ | with_reducible refine p_sz2 ?_ | with_reducible refine p_sz3 ?_ | with_reducible refine p_sz4 ?_ | with_reducible refine p_z' ?_ | with_reducible refine p_Z' ?_ | with_reducible refine p_dictZ ?_ | ((with_reducible refine' p_giveZ ?h ?_); (case h => rfl)))
local macro_rules | `(tactic| walk_at "z") => `(tactic| ((try dsimp only [List.set_cons_succ, List.set_cons_zero]); repeat (walk_at "z1"; (try dsimp only [List.set_cons_succ, List.set_cons_zero]))))

local macro_rules | `(tactic| walk_at "y1") => `(tactic| first | walk_at "z1" | with_reducible refine p_slX ?_ | with_reducible refine p_orT ?_ | with_reducible refine p_ps5 ?_ | with_reducible refine p_dgetT ?_ | with_reducible refine p_dinT ?_ | with_reducible refine p_dputT ?_ | with_reducible refine p_tuk2 ?_ | with_reducible refine p_untuk2 ?_ | with_reducible refine p_keysZ ?_ | ((with_reducible refine' p_giveZt ?h ?_); (case h => rfl)) | ((with_reducible refine' p_dt0 ?h ?_); (case h => rfl)))
local macro_rules | `(tactic| walk_at "y") => `(tactic| ((try dsimp only [List.set_cons_succ, List.set_cons_zero, mapK2]); repeat (walk_at "y1"; (try dsimp only [List.set_cons_succ, List.set_cons_zero, mapK2]))))

local macro_rules | `(tactic| walk_at "x1") => `(tactic| first | walk_at "y1" | with_reducible refine p_callE ?_ | with_reducible refine p_callEX ?_ | with_reducible refine p_pe1 ?_ | with_reducible refine p_pe2 ?_ | with_reducible refine p_pe3 ?_ | with_reducible refine p_pe4 ?_ | with_reducible refine p_pe5 ?_ | with_reducible refine p_try ?_ | with_reducible refine p_xf ?_ | with_reducible refine p_isE ?_ | with_reducible refine p_callV ?_ | with_reducible refine p_act ?_ | ((with_reducible refine p_lam ?_); dsimp only [kn_cons, kn_nil, knS]) | with_reducible refine p_minDef ?_ | with_reducible refine p_methE ?_ | ((with_reducible refine' p_gunl ?h ?_); (case h => rfl)) | with_reducible refine p_opNX ?_ | with_reducible refine p_indexR ?_)
local macro_rules | `(tactic| walk_at "x") => `(tactic| ((try dsimp only [List.set_cons_succ, List.set_cons_zero, mapK2]); repeat (walk_at "x1"; (try dsimp only [List.set_cons_succ, List.set_cons_zero, mapK2]))))

abbrev sHouseHasRoom : Stmt := inClass (topS 19) 4
theorem scHouseHasRoom : FnScope ["self", "thing"] ["self", "thing"] (defScope sHouseHasRoom) := ⟨rfl, rfl, rfl, by decide +kernel, rfl, by decide +kernel, by decide +kernel⟩
abbrev sHouseHasDoor : Stmt := inClass (topS 19) 6
theorem scHouseHasDoor : FnScope ["self", "one", "other"] ["self", "one", "other"] (defScope sHouseHasDoor) := ⟨rfl, rfl, rfl, by decide +kernel, rfl, by decide +kernel, by decide +kernel⟩
abbrev sIsWalk : Stmt := topS 6
theorem scIsWalk : FnScope ["house", "thing", "room", "one", "other"] ["house", "thing"] (defScope sIsWalk) := ⟨rfl, rfl, rfl, by decide +kernel, rfl, by decide +kernel, by decide +kernel⟩
abbrev sTurned : Stmt := topS 7
theorem scTurned : FnScope ["walk"] ["walk"] (defScope sTurned) := ⟨rfl, rfl, rfl, by decide +kernel, rfl, by decide +kernel, by decide +kernel⟩
abbrev sStranger : Stmt := topS 26
theorem scStranger : FnScope ["_law_names_here", "_law_name"] ["_law_names_here"] (defScope sStranger) := ⟨rfl, rfl, rfl, by decide +kernel, rfl, by decide +kernel, by decide +kernel⟩
abbrev sLisWalk : Stmt := topS 37
theorem scLisWalk : FnScope ["_law_yard_here", "_law_thing", "_law_one", "_law_k"] ["_law_yard_here", "_law_thing"] (defScope sLisWalk) := ⟨rfl, rfl, rfl, by decide +kernel, rfl, by decide +kernel, by decide +kernel⟩
local macro_rules | `(tactic| walk_at "w1") => `(tactic| first | walk_at "x1" | with_reducible refine p_upper ?_)
local macro_rules | `(tactic| walk_at "w") => `(tactic| ((try dsimp only [List.set_cons_succ, List.set_cons_zero, mapK2]); repeat (walk_at "w1"; (try dsimp only [List.set_cons_succ, List.set_cons_zero, mapK2]))))
section
variable {P : Program} {w : World} {K : PySem.W.Frag} {mg : Str → Option Value} {base : Heap}
abbrev wkD (ws : List Str) : D := .tup (ws.map D.str)
theorem wk_rp {G : Hp} {r : Addr} {ws : List Str} (h : SqT K G r (ws.map V.str)) : Rp K G (.ref r) (wkD ws) := .tup h Rps.strs
theorem p_isiTp4 {es : List D} {R : D → Prop} (h : R (.bl true)) : fIsi "tuple" (.tup es) R := ⟨_, true, rfl, by decide +kernel, h⟩
theorem p_isiS4 {z : Str} {R : D → Prop} (h : R (.bl true)) : fIsi "str" (.str z) R := ⟨_, true, rfl, by decide +kernel, h⟩
theorem cutD_1 (ws : List Str) : cutD (ws.map D.str) (some 1) none = ws.tail.map D.str := by rw [cutD_map, cutL_tail]
theorem zip_prD (xs ys : List Str) : zipD (xs.map D.str) (ys.map D.str) = (xs.zip ys).map prD := zipPr xs ys
theorem road_zip {es : List Dr} {ws : List Str} : Road es ws ↔ ∀ e ∈ ws.zip ws.tail, e.2 ∈ nb es e.1 := by
  constructor
  · intro h e he
    obtain ⟨i, hi, hie⟩ := List.getElem_of_mem he
    have hi2 := hi
    rw [List.length_zip, List.length_tail] at hi2
    rw [List.getElem_zip] at hie
    have q1 : ws[i]? = some e.1 := by rw [← hie, List.getElem?_eq_getElem (by omega)]
    have q2 : ws[i + 1]? = some e.2 := by rw [← hie, List.getElem?_eq_getElem (by omega), List.getElem_tail]
    exact h i _ _ q1 q2
  · intro h i x y hx hy
    have : (x, y) ∈ ws.zip ws.tail := by
      refine List.mem_iff_getElem?.mpr ⟨i, ?_⟩
      rw [List.getElem?_zip_eq_some]
      exact ⟨hx, by rw [List.getElem?_tail]; exact hy⟩
    exact h _ this
theorem near_val {rs : List Str} {es : List Dr} {x : Str} (h : x ∈ rs) : dval (rs.map fun r => ((.inr r : Key), D.lst ((srt (nb es r)).map D.str))) (.inr x) = some (.lst ((srt (nb es x)).map D.str)) := by
  induction rs with
  | nil => cases h
  | cons r rs ih =>
    by_cases e : r = x
    · subst e
      simp [dval]
    · have hx : x ∈ rs := (List.mem_cons.mp h).elim (fun z => absurd z.symm e) id
      have := ih hx
      unfold dval at this ⊢
      rw [List.map_cons, List.find?_cons_of_neg (by simp; exact fun z => e z)]
      exact this

abbrev psStranger : List D → (D → Prop) → Prop := ps1 fun l R => ∃ rs : List Str, l = .lst (rs.map D.str) ∧ HasStr rs ∧ ∀ z ∈ qNames, z ∉ rs → R (.str z)
abbrev spStranger (K : PySem.W.Frag) : Sp := spD K psStranger
abbrev DStranger (P : Program) (w : World) (K : PySem.W.Frag) (mg : Str → Option Value) (base : Heap) : Prop := Df P w K mg base CX0 1 "_law_stranger" ["_law_names_here"] (spStranger K)
theorem ok_Stranger {f : Addr} {fd : FuncData} (F : Fun K "_law_stranger" "_law_stranger" sStranger f fd) (M : Mgs mg) : FnOk P w K mg base CX0 1 f fd ["_law_names_here"] (spStranger K) := by
  refine F.ok scStranger (fun vs H Q E h => len_D h l1) (fun cdv A outer s H vs Q E hr h => ?_)
  have hu := hu_of hr
  have hu64 := hu64_of hr
  refine ⟨_, ((pss_one (ps_ret (pe_ix (k_ix_list (K := K) rfl) (pe_lc (own := [("_law_name", 1)]) rfl scStranger.nd (k_pi_tup (K := K) rfl (pe_tup (pa_cons pe_str (pa_cons pe_str (pa_cons pe_str (pa_cons pe_str pa_nil)))))) (blkOk_by (N := ["_law_names_here", "_law_name"]) (sc := defScope sStranger) (by decide +kernel)) (fun _ _ _ _ _ => (pg_name (i := 1) scStranger.nd rfl (Or.inl rfl))) (fun _ _ _ _ _ => (pts_one (pt_cmpR (k_op_notIn (K := K) rfl) (pv 1) (pv 0) (by rfl)))) (fun _ _ _ _ _ => (pv 1))) pe_int (fun _ _ => rfl))))), ?_⟩
  refine run_D (P := P) (w := w) h fun G ds R hb => ?_
  obtain ⟨x1, rfl, hb⟩ := hb
  refine ⟨_, [.v x1, .un], (s_ret (RQ.x (q_op oq_ixL (RQ.o (RN.q (n_lc (RIQ.o (iq_tup (q_tup (a_cons q_str (a_cons q_str (a_cons q_str (a_cons q_str a_nil))))))) g_name (b_test (q_op oq_in (RQ.o q_var) (RQ.o q_var))) q_var (by decide)))) (RQ.o q_int)))), rfl, ?_⟩
  obtain ⟨rs, rfl, hs, q⟩ := hb
  walk_at "w"
  refine lcQ (xs := qNames) (f := D.str) (u := fun z => if z ∈ rs then none else some z) (k := D.str) (by decide) (fun R' r => ?_) (fun z hz Em Sk k1 k2 => ?_) ?_
  · walk_at "w"
    exact r
  · walk_at "w"
    by_cases c : z ∈ rs
    · rw [decide_eq_true c]
      walk_at "w"
      exact k2 (if_pos c)
    · rw [decide_eq_false c]
      walk_at "w"
      exact k1 z (if_neg c)
  walk_at "w"
  obtain ⟨z, hz, hzn⟩ := hs
  cases e : qNames.filterMap fun z => if z ∈ rs then none else some z with
  | nil =>
    have := List.filterMap_eq_nil_iff.mp e z hz
    rw [if_neg hzn] at this
    cases this
  | cons y ys =>
    have hy : y ∈ qNames.filterMap fun z => if z ∈ rs then none else some z := by rw [e]; exact List.mem_cons_self
    obtain ⟨y', hy', e2⟩ := List.mem_filterMap.mp hy
    by_cases c : y' ∈ rs
    · rw [if_pos c] at e2; cases e2
    · rw [if_neg c] at e2
      cases e2
      refine p_ixL (m := 0) rfl (by rfl) ?_
      exact q _ hy' c
/-- what may lie in a thing -/
def Item (rs : List Str) (e : D) : Prop := (∃ z, e = .str z ∧ SOk z) ∨ ((∀ z, e ≠ .str z) ∧ (∃ m, e.tyn = some m ∧ kitB m "str" = some false) ∧ ∃ d, ((Py e d ∧ SeqAt.shaped d = true) ∨ e = .dct []) ∧ ∀ rs : List Str, anyEq rs d = false)
/-- anything that is asked about -/
def Thg (rs : List Str) (d : D) : Prop := (∃ es, d = .tup es ∧ es.length ≤ 2000 ∧ ∀ e ∈ es, Item rs e) ∨ ((∀ es, d ≠ .tup es) ∧ ∃ m, d.tyn = some m ∧ kitB m "tuple" = some false)
def inR (rs : List Str) : D → Bool | .str z => decide (z ∈ rs) | _ => false
def IsW (rs : List Str) (es : List Dr) (d : D) : Prop := ∃ ws, d = wkD ws ∧ ws ≠ [] ∧ (∀ z ∈ ws, z ∈ rs) ∧ Road es ws
theorem strsIn {rs : List Str} : ∀ {ds : List D}, (∀ e ∈ ds, inR rs e = true) → ∃ ws : List Str, ds = ws.map D.str ∧ ∀ z ∈ ws, z ∈ rs
  | [], _ => ⟨[], rfl, by simp⟩
  | e :: ds, h => by
    obtain ⟨ws, rfl, hw⟩ := strsIn fun x hx => h x (List.mem_cons_of_mem _ hx)
    have he := h e List.mem_cons_self
    cases e with
    | str z => exact ⟨z :: ws, rfl, fun y hy => by
        rcases List.mem_cons.mp hy with rfl | hy
        · exact of_decide_eq_true he
        · exact hw y hy⟩
    | _ => cases he
theorem isW_wk {rs : List Str} {es : List Dr} {ws : List Str} (h0 : ws ≠ []) (hw : ∀ z ∈ ws, z ∈ rs) : IsW rs es (.tup (ws.map D.str)) ↔ Road es ws := by
  constructor
  · rintro ⟨us, e, _, _, r⟩
    have e2 : ws.map D.str = us.map D.str := by injection e
    have : ws = us := (List.map_inj_right fun x y h => by injection h).mp e2
    rw [this]
    exact r
  · exact fun r => ⟨ws, rfl, h0, hw, r⟩
theorem isW_no {rs : List Str} {es : List Dr} {ds : List D} {e : D} (he : e ∈ ds) (h : inR rs e = false) : ¬ IsW rs es (.tup ds) := by
  rintro ⟨us, e2, _, hw, _⟩
  have e3 : ds = us.map D.str := by injection e2
  rw [e3] at he
  obtain ⟨z, hz, rfl⟩ := List.mem_map.mp he
  have : inR rs (.str z) = true := decide_eq_true (hw z hz)
  rw [this] at h
  cases h
theorem sh_str {z : Str} (h : SOk z) : SeqAt.shaped (.str z) = true := by
  simp [SeqAt.shaped, PyData.canLay0, PyData.depth]
  exact h
abbrev psHasRoomE (C : Addr) : List D → (D → Prop) → Prop := ps2 fun h x R => ∃ rs es, h = houseD C rs es ∧ Item rs x ∧ (∀ z ∈ rs, SOk z) ∧ R (.bl (inR rs x))
abbrev spHouseHasRoom (K : PySem.W.Frag) (C : Addr) : Sp := spD K (psHasRoomE C)
abbrev DHouseHasRoom (P : Program) (w : World) (K : PySem.W.Frag) (mg : Str → Option Value) (base : Heap) (c_House : Addr) : Prop := Dm P w K mg base CX0 1 c_House "has_room" ["self", "thing"] (spHouseHasRoom K c_House)
theorem ok_HouseHasRoom {f : Addr} {fd : FuncData} (F : Fun K "has_room" "House.has_room" sHouseHasRoom f fd) (M : Mgs mg) {c_House : Addr} (Z_House : HouseC K mg c_House) : FnOk P w K mg base CX0 1 f fd ["self", "thing"] (spHouseHasRoom K c_House) := by
  refine F.ok scHouseHasRoom (fun vs H Q E h => len_D h l2) (fun cdv A outer s H vs Q E hr h => ?_)
  have hu := hu_of hr
  have hu64 := hu64_of hr
  have hu65 := hu65_of hr
  refine ⟨_, ((pss_one (ps_ret (pe_cmpR (k_op_inTE (K := K) rfl hu65) (pv 1) (k_fld (K := K) rfl (pv 0)) (by rfl))))), ?_⟩
  refine run_D (P := P) (w := w) h fun G ds R hb => ?_
  obtain ⟨x1, x2, rfl, hb⟩ := hb
  refine ⟨_, [.v x1, .v x2], (s_ret (RQ.x (q_op oq_inTE (RQ.o q_var) (RQ.o (q_fld Z_House.cl Z_House.n1 q_var))))), rfl, ?_⟩
  obtain ⟨rs, es, rfl, hx, hs, q⟩ := hb
  walk_at "w"
  rcases hx with ⟨z, rfl, hz⟩ | ⟨h1, h2, d, h3, h4⟩
  · refine p_inTE (.inl ⟨.str z, sh_str hz⟩) (.inl rfl) hs ?_
    rw [anyEq_str]
    exact q
  · have e : inR rs x2 = false := by
      cases x2 with
      | str z => exact absurd rfl (h1 z)
      | _ => rfl
    rw [e] at q
    refine p_inTE (d := d) (h3.imp id fun h => ⟨h, h4 _⟩) (.inl rfl) hs ?_
    rw [h4]
    exact q
abbrev psHouseHasDoor (C : Addr) : List D → (D → Prop) → Prop := ps3 fun h x y R => ∃ rs es a b, h = houseD C rs es ∧ x = .str a ∧ y = .str b ∧ a ∈ rs ∧ R (.bl (decide (b ∈ nb es a)))
abbrev spHouseHasDoor (K : PySem.W.Frag) (C : Addr) : Sp := spD K (psHouseHasDoor C)
abbrev DHouseHasDoor (P : Program) (w : World) (K : PySem.W.Frag) (mg : Str → Option Value) (base : Heap) (c_House : Addr) : Prop := Dm P w K mg base CX0 1 c_House "has_door" ["self", "one", "other"] (spHouseHasDoor K c_House)
theorem ok_HouseHasDoor {f : Addr} {fd : FuncData} (F : Fun K "has_door" "House.has_door" sHouseHasDoor f fd) (M : Mgs mg) {c_House : Addr} (Z_House : HouseC K mg c_House) : FnOk P w K mg base CX0 1 f fd ["self", "one", "other"] (spHouseHasDoor K c_House) := by
  refine F.ok scHouseHasDoor (fun vs H Q E h => len_D h l3) (fun cdv A outer s H vs Q E hr h => ?_)
  have hu := hu_of hr
  have hu64 := hu64_of hr
  refine ⟨_, ((pss_one (ps_ret (pe_cmpR (k_op_in (K := K) rfl) (pv 2) (pe_dget hu (k_fld (K := K) rfl (pv 0)) (pv 1) (fun _ _ => rfl)) (by rfl))))), ?_⟩
  refine run_D (P := P) (w := w) h fun G ds R hb => ?_
  obtain ⟨x1, x2, x3, rfl, hb⟩ := hb
  refine ⟨_, [.v x1, .v x2, .v x3], (s_ret (RQ.x (q_op oq_in (RQ.o q_var) (RQ.o (q_dget (RQ.o (q_fld Z_House.cl Z_House.n3 q_var)) q_var))))), rfl, ?_⟩
  obtain ⟨rs, es, a, b, rfl, rfl, rfl, ha, q⟩ := hb
  walk_at "w"
  refine p_keyS (near_val ha) ?_
  walk_at "w"
  have e : decide (b ∈ srt (nb es a)) = decide (b ∈ nb es a) := decide_eq_decide.mpr srt_mem
  rw [e]
  exact q
open Classical in
abbrev psIsWalkE (C : Addr) : List D → (D → Prop) → Prop := ps2 fun h x R => ∃ rs es, h = houseD C rs es ∧ Thg rs x ∧ (∀ z ∈ rs, SOk z) ∧ R (.bl (decide (IsW rs es x)))
abbrev spIsWalk (K : PySem.W.Frag) (C : Addr) : Sp := spD K (psIsWalkE C)
abbrev DIsWalk (P : Program) (w : World) (K : PySem.W.Frag) (mg : Str → Option Value) (base : Heap) (c_House : Addr) : Prop := Df P w K mg base CX0 4 "is_walk" ["house", "thing"] (spIsWalk K c_House)
theorem ok_IsWalk {f : Addr} {fd : FuncData} (F : Fun K "is_walk" "is_walk" sIsWalk f fd) (M : Mgs mg) {c_House : Addr} (Z_House : HouseC K mg c_House) (D_House_has_room : DHouseHasRoom P w K mg base c_House) (D_House_has_door : DHouseHasDoor P w K mg base c_House) : FnOk P w K mg base CX0 4 f fd ["house", "thing"] (spIsWalk K c_House) := by
  refine F.ok scIsWalk (fun vs H Q E h => len_D h l2) (fun cdv A outer s H vs Q E hr h => ?_)
  have hu := hu_of hr
  have hu64 := hu64_of hr
  refine ⟨_, ((pss_cons (ps_if (PW.pt (pw_or (pt_not (pt_val (pe_callB (k_isi (K := K) rfl) (by rfl) M.isinstance (by decide +kernel) (pa_cons (pv 1) (pa_cons (pe_bltn (v := V.ty "tuple") (u := Value.type "tuple") (by rfl) M.tuple_ (by decide +kernel) rfl) pa_nil))))) (pw_or1 (pt_cmpR op_eq (pe_callB (k_len (K := K) rfl) (by rfl) M.len PySem.boot_len (pa_cons (pv 1) pa_nil)) pe_int (nomark _)))))
    (pss_one (ps_ret pe_bl))
    pss_nil)
    (pss_cons (ps_if (pt_not (pt_val (pe_callB (k_all (K := K) rfl rfl) (by rfl) M.all (by decide +kernel) (pa_cons (pe_lc (own := [("room", 2)]) rfl scIsWalk.nd (k_pi_tup (K := K) rfl (pv 1)) (blkOk_by (N := ["house", "thing", "room", "one", "other"]) (sc := defScope sIsWalk) (by decide +kernel)) (fun _ _ _ _ _ => (pg_name (i := 2) scIsWalk.nd rfl (Or.inl rfl))) (fun _ _ _ _ _ => pts_nil) (fun _ _ _ _ _ => (pe_dm D_House_has_room Z_House.cl hr pass0 (pv 0) (pa_cons (pv 2) pa_nil)))) pa_nil))))
    (pss_one (ps_ret pe_bl))
    pss_nil)
    (pss_one (ps_ret (pe_callB (k_all (K := K) rfl rfl) (by rfl) M.all (by decide +kernel) (pa_cons (pe_lc (own := [("one", 3), ("other", 4)]) rfl scIsWalk.nd (k_pi_zipA (K := K) rfl (by rfl) M.zip (pa_cons (pv 1) (pa_cons (pe_slice (k_sl_tupA (K := K) rfl) (pv 1) (po_some pe_int) po_none) pa_nil))) (blkOk_by (N := ["house", "thing", "room", "one", "other"]) (sc := defScope sIsWalk) (by decide +kernel)) (fun _ _ _ _ _ => (k_pg_tup (K := K) (n := 2) rfl rfl (pgs_cons (pg_name (i := 3) scIsWalk.nd rfl (Or.inl rfl)) (pgs_cons (pg_name (i := 4) scIsWalk.nd rfl (Or.inl rfl)) pgs_nil)))) (fun _ _ _ _ _ => pts_nil) (fun _ _ _ _ _ => (pe_dm D_House_has_door Z_House.cl hr pass0 (pv 0) (pa_cons (pv 3) (pa_cons (pv 4) pa_nil))))) pa_nil))))))), ?_⟩
  refine run_D (P := P) (w := w) h fun G ds R hb => ?_
  obtain ⟨x1, x2, rfl, hb⟩ := hb
  refine ⟨_, [.v x1, .v x2, .un, .un, .un], (s_seq (s_if (RB.x (b_or (b_not (b_tb (q_isi q_var))) (b_test (q_op oq_eq (RQ.o (q_cb cq_len (ao_one (RQ.o q_var)))) (RQ.o q_int)))))
    (s_ret (RQ.x q_bl))
    s_next)
    (s_seq (s_if (RB.x (b_not (b_tb (q_cb cq_all (ao_one (RQ.o (RN.q (n_lc (RIQ.o (iq_tup q_var)) g_name b_yes (q_meth q_var (a_cons q_var a_nil)) (by decide)))))))))
    (s_ret (RQ.x q_bl))
    s_next)
    (s_ret (RQ.x (q_cb cq_all (ao_one (RQ.o (RN.q (n_lc (RIQ.o (iq_zip (a_cons q_var (a_cons (q_slT (RQ.o q_var) (pt_some q_int) pt_none) a_nil)))) (g_tup (g_cons g_name (g_cons g_name g_nil))) b_yes (q_meth q_var (a_cons q_var (a_cons q_var a_nil))) (by decide)))))))))), rfl, ?_⟩
  classical
  obtain ⟨rs, es, rfl, hx, hs, q⟩ := hb
  walk_at "w"
  rcases hx with ⟨ds, rfl, hdl, hit⟩ | ⟨hno, m, hm1, hm2⟩
  · refine p_isiTp4 ?_
    walk_at "w"
    by_cases c0 : ds = []
    · subst c0
      rw [decide_eq_true (show ((([] : List D).length : Nat) : Int) = 0 from rfl)]
      walk_at "w"
      rw [decide_eq_false (fun h => by
        obtain ⟨us, e2, hne, _⟩ := h
        have e3 : [] = us.map D.str := by injection e2
        cases us with
        | nil => exact hne rfl
        | cons => cases e3)] at q
      exact q
    · rw [decide_eq_false (show ¬ ((ds.length : Nat) : Int) = 0 from fun h => c0 (List.length_eq_zero_iff.mp (by omega)))]
      walk_at "w"
      refine lcQ (xs := ds) (f := fun e => e) (u := some) (k := fun e => .bl (inR rs e)) (by omega) (fun R' r => ?_) (fun e he Em Sk k1 k2 => ?_) ?_
      · rw [List.map_id'] at r
        walk_at "w"
        exact r
      · walk_at "w"
        exact ⟨rs, es, rfl, hit e he, hs, k1 e rfl⟩
      rw [List.filterMap_some]
      walk_at "w"
      refine ⟨ds.map (inR rs), by rw [List.map_map]; rfl, ?_⟩
      by_cases hall : ∀ e ∈ ds, inR rs e = true
      · obtain ⟨ws, rfl, hw⟩ := strsIn hall
        rw [show ((ws.map D.str).map (inR rs)).all id = true by
          rw [List.all_map, List.all_eq_true]
          exact fun e he => hall e he]
        have hwn : ws ≠ [] := fun e => c0 (by rw [e]; rfl)
        rw [List.length_map] at hdl
        walk_at "w"
        refine lcQ (xs := ws.zip ws.tail) (f := prD) (u := some) (k := fun e => .bl (decide (e.2 ∈ nb es e.1))) (by rw [List.length_zip]; omega) (fun R' r => ?_) (fun e he Em Sk k1 k2 => ?_) ?_
        · walk_at "w"
          refine .inr ⟨_, _, .inl rfl, .inl rfl, ?_⟩
          rw [cutD_1, zip_prD]
          exact r
        · have h1 : e.1 ∈ ws := (List.of_mem_zip he).1
          walk_at "w"
          exact ⟨rs, es, e.1, e.2, rfl, rfl, rfl, hw _ h1, k1 e rfl⟩
        rw [List.filterMap_some]
        walk_at "w"
        refine ⟨(ws.zip ws.tail).map fun e => decide (e.2 ∈ nb es e.1), by rw [List.map_map]; rfl, ?_⟩
        have e1 : ((ws.zip ws.tail).map fun e => decide (e.2 ∈ nb es e.1)).all id = decide (IsW rs es (.tup (ws.map D.str))) := by
          rw [Bool.eq_iff_iff, List.all_map, List.all_eq_true, decide_eq_true_iff, isW_wk hwn hw, road_zip]
          exact ⟨fun h e he => of_decide_eq_true (h e he), fun h e he => decide_eq_true (h e he)⟩
        rw [e1]
        exact q
      · obtain ⟨e, he⟩ := Classical.not_forall.mp hall
        obtain ⟨he, hf⟩ := Classical.not_imp.mp he
        have hf := Bool.eq_false_iff.mpr hf
        rw [show (ds.map (inR rs)).all id = false by
          rw [List.all_map, List.all_eq_false]
          exact ⟨e, he, by show ¬ inR rs e = true; rw [hf]; decide⟩]
        rw [decide_eq_false (isW_no he hf)] at q
        walk_at "w"
        exact q
  · refine ⟨m, false, hm1, hm2, ?_⟩
    rw [decide_eq_false (fun ⟨us, e, _⟩ => hno _ e)] at q
    walk_at "w"
    exact q
abbrev psTurned : List D → (D → Prop) → Prop := ps1 fun x R => ∃ ws : List Str, x = .tup (ws.map D.str) ∧ R (.tup (ws.reverse.map D.str))
abbrev spTurned (K : PySem.W.Frag) : Sp := spD K psTurned
abbrev DTurned (P : Program) (w : World) (K : PySem.W.Frag) (mg : Str → Option Value) (base : Heap) : Prop := Df P w K mg base CX0 1 "turned" ["walk"] (spTurned K)
theorem ok_Turned {f : Addr} {fd : FuncData} (F : Fun K "turned" "turned" sTurned f fd) (M : Mgs mg) : FnOk P w K mg base CX0 1 f fd ["walk"] (spTurned K) := by
  refine F.ok scTurned (fun vs H Q E h => len_D h l1) (fun cdv A outer s H vs Q E hr h => ?_)
  have hu := hu_of hr
  have hu64 := hu64_of hr
  refine ⟨_, ((pss_one (ps_ret (pe_callTy (k_tuple (K := K) rfl) (by rfl) M.tuple_ (by decide +kernel) (pa_cons (k_revT (K := K) rfl (pv 0)) pa_nil))))), ?_⟩
  refine run_D (P := P) (w := w) h fun G ds R hb => ?_
  obtain ⟨x1, rfl, hb⟩ := hb
  refine ⟨_, [.v x1], (s_ret (RQ.x (q_cb cq_tuple (ao_one (RQ.o (q_revT (RQ.o q_var))))))), rfl, ?_⟩
  obtain ⟨ws, rfl, q⟩ := hb
  walk_at "w"
  rw [← List.map_reverse]
  exact ⟨_, .inr (.inl rfl), q⟩
open Classical in
abbrev psLisWalk : List D → (D → Prop) → Prop := ps2 fun y x R => ∃ rs ds, y = yardD rs ds ∧ Thg rs x ∧ ds.length < 64 ∧ DsOk ds ∧ R (.bl (decide (IsW rs ds x)))
abbrev spLisWalk (K : PySem.W.Frag) : Sp := spD K psLisWalk
abbrev DLisWalk (P : Program) (w : World) (K : PySem.W.Frag) (mg : Str → Option Value) (base : Heap) : Prop := Df P w K mg base CX0 2 "_law_is_walk" ["_law_yard_here", "_law_thing"] (spLisWalk K)
theorem ok_LisWalk {f : Addr} {fd : FuncData} (F : Fun K "_law_is_walk" "_law_is_walk" sLisWalk f fd) (M : Mgs mg) (D_near : DNear P w K mg base) : FnOk P w K mg base CX0 2 f fd ["_law_yard_here", "_law_thing"] (spLisWalk K) := by
  refine F.ok scLisWalk (fun vs H Q E h => len_D h l2) (fun cdv A outer s H vs Q E hr h => ?_)
  have hu := hu_of hr
  have hu64 := hu64_of hr
  have D_near := brNear D_near
  refine ⟨_, ((pss_cons (ps_if (PW.pt (pw_or (pt_not (pt_val (pe_callB (k_isi (K := K) rfl) (by rfl) M.isinstance (by decide +kernel) (pa_cons (pv 1) (pa_cons (pe_bltn (v := V.ty "tuple") (u := Value.type "tuple") (by rfl) M.tuple_ (by decide +kernel) rfl) pa_nil))))) (pw_or1 (pt_cmpR op_eq (pe_callB (k_len (K := K) rfl) (by rfl) M.len PySem.boot_len (pa_cons (pv 1) pa_nil)) pe_int (nomark _)))))
    (pss_one (ps_ret pe_bl))
    pss_nil)
    (pss_cons (ps_if (pt_cmpR (k_op_neL (K := K) rfl hu64) (pe_lc (own := [("_law_one", 2)]) rfl scLisWalk.nd (k_pi_tup (K := K) rfl (pv 1)) (blkOk_by (N := ["_law_yard_here", "_law_thing", "_law_one", "_law_k"]) (sc := defScope sLisWalk) (by decide +kernel)) (fun _ _ _ _ _ => (pg_name (i := 2) scLisWalk.nd rfl (Or.inl rfl))) (fun _ _ _ _ _ => (pts_one (PW.pt (pw_or (pt_not (pt_val (pe_callB (k_isi (K := K) rfl) (by rfl) M.isinstance (by decide +kernel) (pa_cons (pv 2) (pa_cons (pe_bltn (v := V.ty "str") (u := Value.type "str") (by rfl) M.str_ (by decide +kernel) rfl) pa_nil))))) (pw_or1 (pt_cmpR (k_op_notIn (K := K) rfl) (pv 2) (pe_dget hu (pv 0) pe_str (fun _ _ => rfl)) (by rfl))))))) (fun _ _ _ _ _ => (pv 2))) (pe_lst pa_nil) (by rfl))
    (pss_one (ps_ret pe_bl))
    pss_nil)
    (pss_one (ps_ret (pe_cmpR (k_op_eqD (K := K) rfl hu64) (pe_lc (own := [("_law_k", 3)]) rfl scLisWalk.nd (pi_range1 (by rfl) M.range (pa_cons (pe_op op_sub (pe_callB (k_len (K := K) rfl) (by rfl) M.len PySem.boot_len (pa_cons (pv 1) pa_nil)) pe_int) pa_nil)) (blkOk_by (N := ["_law_yard_here", "_law_thing", "_law_one", "_law_k"]) (sc := defScope sLisWalk) (by decide +kernel)) (fun _ _ _ _ _ => (pg_name (i := 3) scLisWalk.nd rfl (Or.inl rfl))) (fun _ _ _ _ _ => (pts_one (pt_cmpR (k_op_notIn (K := K) rfl) (pe_ix (k_ix_tup (K := K) rfl) (pv 1) (pe_op op_add (pv 3) pe_int) (fun _ _ => rfl)) (pe_df D_near hr (by rfl) pass0 (pa_cons (pv 0) (pa_cons (pe_ix (k_ix_tup (K := K) rfl) (pv 1) (pv 3) (fun _ _ => rfl)) pa_nil))) (by rfl)))) (fun _ _ _ _ _ => (pv 3))) (pe_lst pa_nil) (nomark _))))))), ?_⟩
  refine run_D (P := P) (w := w) h fun G ds R hb => ?_
  obtain ⟨x1, x2, rfl, hb⟩ := hb
  refine ⟨_, [.v x1, .v x2, .un, .un], (s_seq (s_if (RB.x (b_or (b_not (b_tb (q_isi q_var))) (b_test (q_op oq_eq (RQ.o (q_cb cq_len (ao_one (RQ.o q_var)))) (RQ.o q_int)))))
    (s_ret (RQ.x q_bl))
    s_next)
    (s_seq (s_if (RB.x (b_test (q_op oq_neL (RQ.o (RN.q (n_lc (RIQ.o (iq_tup q_var)) g_name (b_or (b_not (b_tb (q_isi q_var))) (b_test (q_op oq_in (RQ.o q_var) (RQ.o (q_dget (RQ.o q_var) q_str))))) q_var (by decide)))) (RQ.o (RN.q (n_lst a_nil))))))
    (s_ret (RQ.x q_bl))
    s_next)
    (s_ret (RQ.x (q_op oq_eqD (RQ.o (RN.q (n_lc (RIQ.o (iq_rng1 (a_cons (q_op oq_int (RQ.o (q_cb cq_len (ao_one (RQ.o q_var)))) (RQ.o q_int)) a_nil))) g_name (b_test (q_op oq_in (RQ.o (q_op oq_ixT (RQ.o q_var) (RQ.o (q_op oq_int (RQ.o q_var) (RQ.o q_int))))) (RQ.o (q_call (a_cons q_var (a_cons (q_op oq_ixT (RQ.o q_var) (RQ.o q_var)) a_nil)))))) q_var (by decide)))) (RQ.o (RN.q (n_lst a_nil)))))))), rfl, ?_⟩
  classical
  obtain ⟨rs, es, rfl, hx, hel, heo, q⟩ := hb
  walk_at "w"
  rcases hx with ⟨ds, rfl, hdl, hit⟩ | ⟨hno, m, hm1, hm2⟩
  · refine p_isiTp4 ?_
    walk_at "w"
    by_cases c0 : ds = []
    · subst c0
      rw [decide_eq_true (show ((([] : List D).length : Nat) : Int) = 0 from rfl)]
      walk_at "w"
      rw [decide_eq_false (fun h => by
        obtain ⟨us, e2, hne, _⟩ := h
        have e3 : [] = us.map D.str := by injection e2
        cases us with
        | nil => exact hne rfl
        | cons => cases e3)] at q
      exact q
    · rw [decide_eq_false (show ¬ ((ds.length : Nat) : Int) = 0 from fun h => c0 (List.length_eq_zero_iff.mp (by omega)))]
      walk_at "w"
      refine lcQ (xs := ds) (f := fun e => e) (u := fun e => if inR rs e = true then none else some e) (k := fun e => e) (by omega) (fun R' r => ?_) (fun e he Em Sk k1 k2 => ?_) ?_
      · rw [List.map_id'] at r
        walk_at "w"
        exact r
      · walk_at "w"
        rcases hit e he with ⟨z, rfl, hz⟩ | ⟨h1, ⟨m, h2, h3⟩, _⟩
        · refine p_isiS4 ?_
          walk_at "w"
          refine yard_r ?_
          walk_at "w"
          by_cases c : z ∈ rs
          · rw [decide_eq_true c]
            walk_at "w"
            exact k2 (if_pos (decide_eq_true c))
          · rw [decide_eq_false c]
            walk_at "w"
            exact k1 _ (if_neg (by show ¬ decide (z ∈ rs) = true; rw [decide_eq_false c]; decide))
        · refine ⟨m, false, h2, h3, ?_⟩
          walk_at "w"
          have e : inR rs e = false := by
            cases e with
            | str z => exact absurd rfl (h1 z)
            | _ => rfl
          exact k1 _ (if_neg (by rw [e]; decide))
      rw [List.map_id']
      walk_at "w"
      by_cases hall : ∀ e ∈ ds, inR rs e = true
      · rw [List.filterMap_eq_nil_iff.mpr fun e he => if_pos (hall e he)]
        refine .inl (p_neStrs (xs := []) (ys := []) (by simp) (by simp) ?_)
        rw [decide_eq_true rfl]
        obtain ⟨ws, rfl, hw⟩ := strsIn hall
        have hwn : ws ≠ [] := fun e => c0 (by rw [e]; rfl)
        have hpos := List.length_pos_iff.mpr hwn
        rw [List.length_map] at hdl
        walk_at "w"
        refine lcQ (xs := List.range (ws.length - 1)) (f := fun k => D.int ((k : Nat) : Int)) (u := fun k => if (ws[k + 1]?.getD (Str.ofString "")) ∈ nb es (ws[k]?.getD (Str.ofString "")) then none else some k) (k := fun k => .int ((k : Nat) : Int)) (by rw [List.length_range]; omega) (fun R' r => ?_) (fun k hk Em Sk k1 k2 => ?_) ?_
        · walk_at "w"
          refine p_rng1 (m := ws.length - 1) (by rw [List.length_map]; omega) (by omega) ?_
          rw [show (((ws.length - 1 : Nat) : Int)).toNat = ws.length - 1 by omega, rngD_0]
          exact r
        · have hk' := List.mem_range.mp hk
          have g1 : ws[k]? = some ws[k] := List.getElem?_eq_getElem (by omega)
          have g2 : ws[k + 1]? = some ws[k + 1] := List.getElem?_eq_getElem (by omega)
          rw [g1, g2] at k1 k2
          walk_at "w"
          refine p_ixT (m := k + 1) (by omega) (by rw [List.getElem?_map, g2]; rfl) ?_
          walk_at "w"
          refine p_ixT (m := k) (by omega) (by rw [List.getElem?_map, g1]; rfl) ?_
          walk_at "w"
          refine ⟨rs, es, ws[k], rfl, rfl, hel, ?_⟩
          walk_at "w"
          by_cases c : ws[k + 1] ∈ nb es ws[k]
          · rw [decide_eq_true (srt_mem.mpr c)]
            walk_at "w"
            exact k2 (if_pos c)
          · rw [decide_eq_false (fun h => c (srt_mem.mp h))]
            walk_at "w"
            exact k1 k (if_neg c)
        walk_at "w"
        have e1 : ((List.range (ws.length - 1)).filterMap fun k => if (ws[k + 1]?.getD (Str.ofString "")) ∈ nb es (ws[k]?.getD (Str.ofString "")) then none else some k) = [] ↔ Road es ws := by
          rw [List.filterMap_eq_nil_iff]
          constructor
          · intro h i x y hx hy
            have hi := (List.getElem?_eq_some_iff.mp hy).1
            have := h i (List.mem_range.mpr (by omega))
            rw [hx, hy] at this
            by_cases c : y ∈ nb es x
            · exact c
            · rw [if_neg (show ¬ ((some y).getD "" ∈ nb es ((some x).getD (Str.ofString ""))) from c)] at this
              cases this
          · intro h k hk
            have hk' := List.mem_range.mp hk
            have g1 : ws[k]? = some ws[k] := List.getElem?_eq_getElem (by omega)
            have g2 : ws[k + 1]? = some ws[k + 1] := List.getElem?_eq_getElem (by omega)
            rw [g1, g2]
            exact if_pos (h k _ _ g1 g2)
        refine p_eqIs (neg := false) (a := ((List.range (ws.length - 1)).filterMap fun k => if (ws[k + 1]?.getD (Str.ofString "")) ∈ nb es (ws[k]?.getD (Str.ofString "")) then none else some k).map fun k => ((k : Nat) : Int)) (b := []) (by rw [List.map_map]; rfl) rfl ?_
        rw [show (decide (((List.range (ws.length - 1)).filterMap fun k => if (ws[k + 1]?.getD (Str.ofString "")) ∈ nb es (ws[k]?.getD (Str.ofString "")) then none else some k).map (fun k => ((k : Nat) : Int)) = [])) = decide (IsW rs es (.tup (ws.map D.str))) from decide_eq_decide.mpr (by rw [List.map_eq_nil_iff, e1, isW_wk hwn hw])]
        exact q
      · obtain ⟨e, he⟩ := Classical.not_forall.mp hall
        obtain ⟨he, hf⟩ := Classical.not_imp.mp he
        have hf2 := Bool.eq_false_iff.mpr hf
        refine .inr ⟨_, [], rfl, rfl, fun hl => ?_, ?_⟩
        · have := List.filterMap_eq_nil_iff.mp (List.length_eq_zero_iff.mp hl) e he
          rw [if_neg hf] at this
          cases this
        · rw [decide_eq_false (isW_no he hf2)] at q
          walk_at "w"
          exact q
  · refine ⟨m, false, hm1, hm2, ?_⟩
    rw [decide_eq_false (fun ⟨us, e, _⟩ => hno _ e)] at q
    walk_at "w"
    exact q
theorem Shw.up {d : PyData} {n k n' k' : Nat} (h : Shw d n k) (hn : n ≤ n') (hk : k ≤ k') : Shw d n' k' := ⟨h.lay, h.it, h.sh, Nat.le_trans h.wt hn, Nat.le_trans h.dp hk⟩
theorem rprT_py {x : D} {d : PyData} {n k : Nat} (p : Py x d) (h : Shw d n k) (hn : n ≤ 2 ^ 20) (hk : k ≤ 40) : ∃ t, RprT x t := ⟨d.shown, fun R q => .inl (.inl (p_repr p h hn hk q))⟩
theorem shw_s {z : Str} {n : Nat} (h1 : SOk z) (h2 : z.length ≤ n) : Shw (.str z) n 0 := by
  refine ⟨?_, ?_, ?_, ?_, ?_⟩
  · simp only [PyData.canLay0]; exact h1
  · simp [PyData.intsShort]
  · simp [PyData.showable]
  · simp only [PyData.weight]; exact h2
  · simp [PyData.depth]
def Odd (rs : List Str) (o : D) : Prop := Item rs o ∧ (o = .dct [] ∨ ∃ pd, Py o pd ∧ Shw pd 100 2)
theorem odd_s {rs : List Str} {z : Str} (h1 : SOk z) (h2 : z.length ≤ 100) : Odd rs (.str z) := ⟨.inl ⟨z, rfl, h1⟩, .inr ⟨_, .str z, (shw_s h1 h2).up (Nat.le_refl _) (by decide)⟩⟩
theorem odd_py {rs : List Str} {o : D} {pd : PyData} {n k : Nat} (m : String) (p : Py o pd) (h : Shw pd n k) (hn : n ≤ 100) (hk : k ≤ 2) (h1 : ∀ z, o ≠ .str z) (h2 : o.tyn = some m) (h3 : kitB m "str" = some false) (h4 : ∀ rs : List Str, anyEq rs pd = false) : Odd rs o :=
  ⟨.inr ⟨h1, ⟨m, h2, h3⟩, pd, .inl ⟨p, h.shaped (by omega)⟩, h4⟩, .inr ⟨pd, p, h.up hn hk⟩⟩
theorem odd_dct (rs : List Str) : Odd rs (.dct []) := ⟨.inr ⟨(fun z h => by cases h), ⟨"dict", rfl, by decide +kernel⟩, .dict [], .inr rfl, fun _ => anyEq_no _ fun z => by simp [PyData.eqv]⟩, .inl rfl⟩
theorem seD_strs {ds : List D} {es : List PyData} (h : SeD ds es) : ∀ A : List Str, SeD (A.map D.str ++ ds) (A.map PyData.str ++ es)
  | [] => h
  | z :: A => .str z (seD_strs h A)
theorem pys_strs {ds : List D} {es : List PyData} (h : Pys ds es) : ∀ A : List Str, Pys (A.map D.str ++ ds) (A.map PyData.str ++ es)
  | [] => h
  | z :: A => .cons (.str z) (pys_strs h A)
theorem pys_s (A : List Str) : Pys (A.map D.str) (A.map PyData.str) := by
  have := pys_strs .nil A
  rwa [List.append_nil, List.append_nil] at this
theorem thg_mid {rs A B : List Str} {o : D} (hA : ∀ z ∈ A, NmOk z) (hB : ∀ z ∈ B, NmOk z) (hl : A.length + B.length ≤ 1500) (ho : Odd rs o) : Thg rs (.tup (A.map D.str ++ o :: B.map D.str)) ∧ ∃ t, RprT (.tup (A.map D.str ++ o :: B.map D.str)) t := by
  have hlen : (A.map D.str ++ o :: B.map D.str).length ≤ 2000 := by
    rw [List.length_append, List.length_cons, List.length_map, List.length_map]; omega
  refine ⟨.inl ⟨_, rfl, hlen, fun e he => ?_⟩, ?_⟩
  · rcases List.mem_append.mp he with he | he
    · obtain ⟨z, hz, rfl⟩ := List.mem_map.mp he
      exact .inl ⟨z, rfl, (hA z hz).sok⟩
    · rcases List.mem_cons.mp he with rfl | he
      · exact ho.1
      · obtain ⟨z, hz, rfl⟩ := List.mem_map.mp he
        exact .inl ⟨z, rfl, (hB z hz).sok⟩
  · rcases ho.2 with rfl | ⟨pd, p, hp⟩
    · have hB' : SeD (B.map D.str) (B.map PyData.str) := by
        have := seD_strs .nil B
        rwa [List.append_nil, List.append_nil] at this
      refine ⟨_, rprT_se (seD_strs (.dct hB') A) (fun z hz => ?_) (by omega)⟩
      rcases List.mem_append.mp hz with hz | hz
      · obtain ⟨y, hy, e⟩ := List.mem_map.mp hz
        cases e
        exact hA _ hy
      · rcases List.mem_cons.mp hz with hz | hz
        · cases hz
        · obtain ⟨y, hy, e⟩ := List.mem_map.mp hz
          cases e
          exact hB _ hy
    · refine rprT_py (.tup (pys_strs (.cons p (pys_s B)) A)) (Shw.tuple (Shws.all (n := 100) (k := 2) fun d hd => ?_)) ?_ (by decide)
      · have ns : ∀ {z : Str}, NmOk z → Shw (.str z) 100 2 := fun h => (Shw.str h).up (by decide) (by decide)
        rcases List.mem_append.mp hd with hd | hd
        · obtain ⟨y, hy, rfl⟩ := List.mem_map.mp hd
          exact ns (hA _ hy)
        · rcases List.mem_cons.mp hd with rfl | hd
          · exact hp
          · obtain ⟨y, hy, rfl⟩ := List.mem_map.mp hd
            exact ns (hB _ hy)
      · rw [List.length_append, List.length_cons, List.length_map, List.length_map]; omega
theorem thg_wk {rs ws : List Str} (h : ∀ z ∈ ws, NmOk z) (hl : ws.length ≤ 1500) : Thg rs (wkD ws) ∧ ∃ t, RprT (wkD ws) t :=
  ⟨.inl ⟨_, rfl, by rw [List.length_map]; omega, fun e he => by
    obtain ⟨z, hz, rfl⟩ := List.mem_map.mp he
    exact .inl ⟨z, rfl, (h z hz).sok⟩⟩, rprT_py (py_tp (.inl rfl)) (shw_wk h) (by omega) (by decide)⟩
theorem thg_lst {rs ws : List Str} (h : ∀ z ∈ ws, NmOk z) (hl : ws.length ≤ 1500) : Thg rs (.lst (ws.map D.str)) ∧ ∃ t, RprT (.lst (ws.map D.str)) t :=
  ⟨.inr ⟨(fun es e => by cases e), "list", rfl, by decide +kernel⟩, rprT_py (.lst (pys_s ws)) (Shw.list (Shws.all (n := 8) (k := 0) fun d hd => by
    obtain ⟨z, hz, rfl⟩ := List.mem_map.mp hd
    exact .str (h z hz))) (by rw [List.length_map]; omega) (by decide)⟩
theorem thg_one {rs ws : List Str} (h : ∀ z ∈ ws, NmOk z) (hl : ws.length ≤ 1500) : Thg rs (.tup [wkD ws]) ∧ ∃ t, RprT (.tup [wkD ws]) t := by
  have hs := shw_wk h
  refine ⟨.inl ⟨_, rfl, by simp, fun e he => ?_⟩, rprT_py (.tup (.cons (py_tp (.inl rfl)) .nil)) (Shw.tuple (Shws.cons hs (Shws.nil))) (by omega) (by decide)⟩
  rw [List.mem_singleton.mp he]
  exact .inr ⟨(fun z e => by cases e), ⟨"tuple", rfl, by decide +kernel⟩, _, .inl ⟨py_tp (.inl rfl), hs.shaped (by omega)⟩, fun _ => anyEq_no _ fun z => by simp [PyData.eqv]⟩
theorem thg_no {rs : List Str} {d : D} {pd : PyData} {n k : Nat} (m : String) (p : Py d pd) (h : Shw pd n k) (hn : n ≤ 2 ^ 20) (hk : k ≤ 40) (h1 : ∀ es, d ≠ .tup es) (h2 : d.tyn = some m) (h3 : kitB m "tuple" = some false) : Thg rs d ∧ ∃ t, RprT d t := ⟨.inr ⟨h1, m, h2, h3⟩, rprT_py p h hn hk⟩
abbrev oddsD (a b : Str) : List D := [.non, .int 0, .bl true, .str "", .str (Txt.upper a), .tup [.str a], .lst [.str a], .dct [], .str b, .str a]
theorem odds_ok {rs : List Str} {a b : Str} (ha : NmOk a) (hb : NmOk b) : ∀ o ∈ oddsD a b, Odd rs o := by
  intro o ho
  simp only [oddsD, List.mem_cons, List.not_mem_nil, or_false] at ho
  have l1 := ha.2.1
  have l2 := hb.2.1
  rcases ho with rfl | rfl | rfl | rfl | rfl | rfl | rfl | rfl | rfl | rfl
  · exact odd_py "NoneType" .non Shw.non (by decide) (by decide) (fun z e => by cases e) rfl (by decide +kernel) (fun _ => anyEq_no _ fun z => by simp [PyData.eqv])
  · exact odd_py "int" (.int 0) (shw_int (by decide)) (by decide) (by decide) (fun z e => by cases e) rfl (by decide +kernel) (fun _ => anyEq_no _ fun z => by simp [PyData.eqv])
  · exact odd_py "bool" (.bl true) (shw_bl true) (by decide) (by decide) (fun z e => by cases e) rfl (by decide +kernel) (fun _ => anyEq_no _ fun z => by simp [PyData.eqv])
  · exact odd_s (by decide +kernel) (by decide +kernel)
  · exact odd_s (upper_sok ha) (by rw [upper_len ha]; omega)
  · exact odd_py "tuple" (.tup (.cons (.str a) .nil)) (Shw.tuple (Shws.cons (Shw.str ha) Shws.nil)) (by decide) (by decide) (fun z e => by cases e) rfl (by decide +kernel) (fun _ => anyEq_no _ fun z => by simp [PyData.eqv])
  · exact odd_py "list" (.lst (.cons (.str a) .nil)) (Shw.list (Shws.cons (Shw.str ha) Shws.nil)) (by decide) (by decide) (fun z e => by cases e) rfl (by decide +kernel) (fun _ => anyEq_no _ fun z => by simp [PyData.eqv])
  · exact odd_dct rs
  · exact odd_s hb.sok (by omega)
  · exact odd_s ha.sok (by omega)
abbrev lastD (a : Str) : List D := [.non, .tup [], .lst [], .str "", .str a, .int 7, .dct [], .bl true, .tup [.non], .tup [.tup []]]
theorem last_ok {rs : List Str} {a : Str} (ha : NmOk a) : ∀ d ∈ lastD a, Thg rs d ∧ ∃ t, RprT d t := by
  intro o ho
  simp only [lastD, List.mem_cons, List.not_mem_nil, or_false] at ho
  have l1 := ha.2.1
  have nonI : Item rs .non := (odd_py (rs := rs) "NoneType" .non Shw.non (by decide) (by decide) (fun z e => by cases e) rfl (by decide +kernel) (fun _ => anyEq_no _ fun z => by simp [PyData.eqv])).1
  have tupI : Item rs (.tup []) := (odd_py (rs := rs) "tuple" (.tup .nil) (Shw.tuple (k := 0) Shws.nil) (by decide) (by decide) (fun z e => by cases e) rfl (by decide +kernel) (fun _ => anyEq_no _ fun z => by simp [PyData.eqv])).1
  rcases ho with rfl | rfl | rfl | rfl | rfl | rfl | rfl | rfl | rfl | rfl
  · exact thg_no "NoneType" .non Shw.non (by decide) (by decide) (fun z e => by cases e) rfl (by decide +kernel)
  · exact ⟨.inl ⟨[], rfl, by simp, fun e he => by cases he⟩, rprT_py (.tup .nil) (Shw.tuple (k := 0) Shws.nil) (by decide) (by decide)⟩
  · exact thg_no "list" (.lst .nil) (Shw.list (k := 0) Shws.nil) (by decide) (by decide) (fun z e => by cases e) rfl (by decide +kernel)
  · exact thg_no "str" (.str "") (shw_s (n := 9) (by decide +kernel) (by decide +kernel)) (by decide) (by decide) (fun z e => by cases e) rfl (by decide +kernel)
  · exact thg_no "str" (.str a) (Shw.str ha) (by decide) (by decide) (fun z e => by cases e) rfl (by decide +kernel)
  · exact thg_no "int" (.int 7) (shw_int (by decide)) (by decide) (by decide) (fun z e => by cases e) rfl (by decide +kernel)
  · exact ⟨.inr ⟨(fun es e => by cases e), "dict", rfl, by decide +kernel⟩, _, fun R q => .inl (.inr ⟨rfl, q⟩)⟩
  · exact thg_no "bool" (.bl true) (shw_bl true) (by decide) (by decide) (fun z e => by cases e) rfl (by decide +kernel)
  · exact ⟨.inl ⟨_, rfl, by simp, fun e he => by rw [List.mem_singleton.mp he]; exact nonI⟩, rprT_py (.tup (.cons .non .nil)) (Shw.tuple (Shws.cons Shw.non Shws.nil)) (by decide) (by decide)⟩
  · exact ⟨.inl ⟨_, rfl, by simp, fun e he => by rw [List.mem_singleton.mp he]; exact tupI⟩, rprT_py (.tup (.cons (.tup .nil) .nil)) (Shw.tuple (Shws.cons (Shw.tuple (k := 0) Shws.nil) Shws.nil)) (by decide) (by decide)⟩
abbrev psStrolled : Nat → List D → (D → Nat → Prop) → Prop := pp3 fun n y b j R => ∃ (rs : List Str) (ds : List Dr) (z : Str) (c : Nat), y = yardD rs ds ∧ b = .str z ∧ j = .int (c : Int) ∧ n + c < 2 ^ 40 ∧ ds.length < 64 ∧ DsOk ds ∧ c < 1000 ∧ ∀ ws : List Str, ws.length ≤ c → Road ds (z :: ws) → R (wkD (z :: ws)) (n + c)
theorem brStrolled (D : DStrolled P w K mg base) : Df P w K mg base CX0 3 "_law_strolled" ["_law_pen_here", "_law_yard_here", "_law_begin", "_law_steps"] (spP K psStrolled) := D.imp fun vs H Q E ⟨p, n, rest, ds0, G, R, e, g, hp, r, ⟨x, y, j, e0, rs, ds, z, c, e1, e2, e3, h1, h2, h3, h4, q⟩, k⟩ => by
  subst e0 e1 e2 e3
  cases r with
  | cons r1 r => cases r with
    | cons r2 r => cases r with
      | cons r3 r =>
        cases r
        obtain ⟨b, rfl, hy⟩ := rp_yard r1
        rw [r2.str_inv, r3.int_inv] at e
        exact ⟨p, b, z, (c : Int), c, n, rs, ds, G, e, g, hp, h1, hy, h2, h3, rfl, h4, fun r ws G' H' s hp' h5 h6 h7 => k _ _ _ _ _ (q ws h6 h7) s hp' (wk_rp h5)⟩
end
local macro_rules | `(tactic| walk_at "y1") => `(tactic| first | walk_at "z1" | with_reducible refine p_slX ?_ | with_reducible refine p_orT ?_ | with_reducible refine p_ps5 ?_ | with_reducible refine p_dgetT ?_ | with_reducible refine p_dinT ?_ | with_reducible refine p_dputT ?_ | with_reducible refine p_tuk2 ?_ | with_reducible refine p_untuk2 ?_ | with_reducible refine p_keysZ ?_ | ((with_reducible refine' p_giveZt ?h ?_); (case h => rfl)) | ((with_reducible refine' p_dt0 ?h ?_); (case h => rfl)))
local macro_rules | `(tactic| walk_at "y") => `(tactic| ((try dsimp only [List.set_cons_succ, List.set_cons_zero, mapK2]); repeat (walk_at "y1"; (try dsimp only [List.set_cons_succ, List.set_cons_zero, mapK2]))))

local macro_rules | `(tactic| walk_at "x1") => `(tactic| first | walk_at "y1" | with_reducible refine p_callE ?_ | with_reducible refine p_callEX ?_ | with_reducible refine p_pe1 ?_ | with_reducible refine p_pe2 ?_ | with_reducible refine p_pe3 ?_ | with_reducible refine p_pe4 ?_ | with_reducible refine p_pe5 ?_ | with_reducible refine p_try ?_ | with_reducible refine p_xf ?_ | with_reducible refine p_isE ?_ | with_reducible refine p_callV ?_ | with_reducible refine p_act ?_ | ((with_reducible refine p_lam ?_); dsimp only [kn_cons, kn_nil, knS]) | with_reducible refine p_minDef ?_ | with_reducible refine p_methE ?_ | ((with_reducible refine' p_gunl ?h ?_); (case h => rfl)) | with_reducible refine p_opNX ?_ | with_reducible refine p_indexR ?_)
local macro_rules | `(tactic| walk_at "x") => `(tactic| ((try dsimp only [List.set_cons_succ, List.set_cons_zero, mapK2]); repeat (walk_at "x1"; (try dsimp only [List.set_cons_succ, List.set_cons_zero, mapK2]))))

abbrev sBent : Stmt := topS 36
theorem scBent : FnScope ["_law_pen_here", "_law_yard_here", "_law_road", "_law_at", "_law_way", "_law_room", "_law_odd", "_law_some"] ["_law_pen_here", "_law_yard_here", "_law_road"] (defScope sBent) := ⟨rfl, rfl, rfl, by decide +kernel, rfl, by decide +kernel, by decide +kernel⟩
local macro_rules | `(tactic| walk_at "w1") => `(tactic| first | walk_at "x1" | with_reducible refine p_upper ?_ | with_reducible refine p_opNXX ?_)
local macro_rules | `(tactic| walk_at "w") => `(tactic| ((try dsimp only [List.set_cons_succ, List.set_cons_zero, mapK2]); repeat (walk_at "w1"; (try dsimp only [List.set_cons_succ, List.set_cons_zero, mapK2]))))
section
variable {P : Program} {w : World} {K : PySem.W.Frag} {mg : Str → Option Value} {base : Heap}
abbrev psBent : Nat → List D → (D → Nat → Prop) → Prop := pp2 fun n y x R => ∃ rs ds ws, y = yardD rs ds ∧ x = wkD ws ∧ ws ≠ [] ∧ ws.length ≤ 600 ∧ (∀ z ∈ ws, z ∈ rs) ∧ (∀ z ∈ rs, NmOk z) ∧ HasStr rs ∧ 1 ≤ rs.length ∧ rs.length < 64 ∧ n + 100 < 2 ^ 40 ∧ ∀ d n', Thg rs d → (∃ t, RprT d t) → n' ≤ n + 10 → R d n'
abbrev spBent (K : PySem.W.Frag) : Sp := spP K psBent
abbrev DBent (P : Program) (w : World) (K : PySem.W.Frag) (mg : Str → Option Value) (base : Heap) : Prop := Df P w K mg base CX0 4 "_law_bent" ["_law_pen_here", "_law_yard_here", "_law_road"] (spBent K)
theorem ok_Bent {f : Addr} {fd : FuncData} (F : Fun K "_law_bent" "_law_bent" sBent f fd) (M : Mgs mg) (D_draw : DDraw P w K mg base) (D_pick : DPick P w K mg base) (D_stranger : DStranger P w K mg base) : FnOk P w K mg base CX0 4 f fd ["_law_pen_here", "_law_yard_here", "_law_road"] (spBent K) := by
  refine F.ok scBent (fun vs H Q E h => len_P h lp2) (fun cdv A outer s H vs Q E hr h => ?_)
  have hu := hu_of hr
  have hu64 := hu64_of hr
  have D_draw := brDraw D_draw
  have D_pick := brPick D_pick
  refine ⟨_, ((pss_cons (ps_par (i := 3) (j := 4) (by rfl) scBent.nd rfl rfl (by decide) rfl rfl (pa_cons (pe_df D_draw hr (by rfl) pass0 (pa_cons (pv 0) (pa_cons (pe_callB (k_len (K := K) rfl) (by rfl) M.len PySem.boot_len (pa_cons (pv 2) pa_nil)) pa_nil))) (pa_cons (pe_df D_draw hr (by rfl) pass0 (pa_cons (pv 0) (pa_cons pe_int pa_nil))) pa_nil)) (by rfl))
    (pss_cons (ps_set (i := 5) scBent.nd rfl (Or.inl rfl) (pe_df D_pick hr (by rfl) pass0 (pa_cons (pv 0) (pa_cons (pe_dget hu (pv 1) pe_str (fun _ _ => rfl)) pa_nil))))
    (pss_cons (ps_set (i := 6) scBent.nd rfl (Or.inl rfl) (pe_df D_pick hr (by rfl) pass0 (pa_cons (pv 0) (pa_cons (pe_lst (pa_cons pe_non (pa_cons pe_int (pa_cons pe_bl (pa_cons pe_str (pa_cons (pe_upper (pv 5)) (pa_cons (pe_tup (pa_cons (pv 5) pa_nil)) (pa_cons (pe_lst (pa_cons (pv 5) pa_nil)) (pa_cons pe_dnewK (pa_cons (pe_df D_stranger hr (by rfl) pass0 (pa_cons (pe_dget hu (pv 1) pe_str (fun _ _ => rfl)) pa_nil)) (pa_cons (pv 5) pa_nil))))))))))) pa_nil))))
    (pss_cons (ps_set (i := 7) scBent.nd rfl (Or.inl rfl) (pe_lst (pa_cons (pe_op (k_op_catA (K := K) rfl) (pe_op (k_op_catA (K := K) rfl) (pe_slice (k_sl_tupA (K := K) rfl) (pv 2) po_none (po_some (pv 3))) (pe_tup (pa_cons (pv 6) pa_nil))) (pe_slice (k_sl_tupA (K := K) rfl) (pv 2) (po_some (pe_op op_add (pv 3) pe_int)) po_none)) (pa_cons (pe_op (k_op_catA (K := K) rfl) (pe_slice (k_sl_tupA (K := K) rfl) (pv 2) po_none (po_some (pv 3))) (pe_slice (k_sl_tupA (K := K) rfl) (pv 2) (po_some (pe_op op_add (pv 3) pe_int)) po_none)) (pa_cons (pe_op (k_op_catA (K := K) rfl) (pe_slice (k_sl_tupA (K := K) rfl) (pv 2) po_none (po_some (pe_op op_add (pv 3) pe_int))) (pe_slice (k_sl_tupA (K := K) rfl) (pv 2) (po_some (pv 3)) po_none)) pa_nil)))))
    (pss_cons (ps_set (i := 7) scBent.nd rfl (Or.inl rfl) (pe_op (k_op_catS (K := K) rfl) (pv 7) (pe_lst (pa_cons (pe_callTy (k_list (K := K) rfl) (by rfl) M.list_ (by decide +kernel) (pa_cons (pv 2) pa_nil)) (pa_cons (pe_op (k_op_catA (K := K) rfl) (pe_op (k_op_catA (K := K) rfl) (pe_slice (k_sl_tupA (K := K) rfl) (pv 2) po_none (po_some (pv 3))) (pe_tup (pa_cons (pv 5) pa_nil))) (pe_slice (k_sl_tupA (K := K) rfl) (pv 2) (po_some (pv 3)) po_none)) (pa_cons (pe_tup (pa_cons (pv 2) pa_nil)) pa_nil))))))
    (pss_one (ps_ret (pe_ix (k_ix_list (K := K) rfl) (pe_op (k_op_catS (K := K) rfl) (pv 7) (pe_lst (pa_cons (pe_df D_pick hr (by rfl) pass0 (pa_cons (pv 0) (pa_cons (pe_lst (pa_cons pe_non (pa_cons (pe_tup pa_nil) (pa_cons (pe_lst pa_nil) (pa_cons pe_str (pa_cons (pv 5) (pa_cons pe_int (pa_cons pe_dnewK (pa_cons pe_bl (pa_cons (pe_tup (pa_cons pe_non pa_nil)) (pa_cons (pe_tup (pa_cons (pe_tup pa_nil) pa_nil)) pa_nil))))))))))) pa_nil))) pa_nil))) (pv 4) (fun _ _ => rfl)))))))))), ?_⟩
  refine run_P (P := P) (w := w) h fun G M n ds R hb => ?_
  obtain ⟨x1, x2, rfl, hb⟩ := hb
  refine ⟨_, [.p n, .v x1, .v x2, .un, .un, .un, .un, .un], (s_seq (s_par (ax_cons (x_pen (RA.x (a_cons (q_cb cq_len (ao_one (RQ.o q_var))) a_nil))) (ax_cons (x_pen (RA.x (a_cons q_int a_nil))) (RA.x a_nil))))
    (s_seq (s_asg (x_pen (RA.x (a_cons (q_dget (RQ.o q_var) q_str) a_nil))) g_name)
    (s_seq (s_asg (x_pen (RA.x (a_cons (RN.q (n_lst (a_cons q_non (a_cons q_int (a_cons q_bl (a_cons q_str (a_cons (q_upper q_var) (a_cons (q_tup (a_cons q_var a_nil)) (a_cons (RN.q (n_lst (a_cons q_var a_nil))) (a_cons (RN.q n_d0) (a_cons (q_call (a_cons (q_dget (RQ.o q_var) q_str) a_nil)) (a_cons q_var a_nil)))))))))))) a_nil))) g_name)
    (s_seq (s_asg (RQ.x (RN.q (n_lst (a_cons (q_op oq_catA (RQ.o (q_op oq_catA (RQ.o (q_slT (RQ.o q_var) pt_none (pt_some q_var))) (RQ.o (q_tup (a_cons q_var a_nil))))) (RQ.o (q_slT (RQ.o q_var) (pt_some (q_op oq_int (RQ.o q_var) (RQ.o q_int))) pt_none))) (a_cons (q_op oq_catA (RQ.o (q_slT (RQ.o q_var) pt_none (pt_some q_var))) (RQ.o (q_slT (RQ.o q_var) (pt_some (q_op oq_int (RQ.o q_var) (RQ.o q_int))) pt_none))) (a_cons (q_op oq_catA (RQ.o (q_slT (RQ.o q_var) pt_none (pt_some (q_op oq_int (RQ.o q_var) (RQ.o q_int))))) (RQ.o (q_slT (RQ.o q_var) (pt_some q_var) pt_none))) a_nil)))))) g_name)
    (s_seq (s_asg (RQ.x (RN.q (n_op on_cat (RQ.o q_var) (RQ.o (RN.q (n_lst (a_cons (RN.q (n_cb cn_list (ao_one (RQ.o q_var)))) (a_cons (q_op oq_catA (RQ.o (q_op oq_catA (RQ.o (q_slT (RQ.o q_var) pt_none (pt_some q_var))) (RQ.o (q_tup (a_cons q_var a_nil))))) (RQ.o (q_slT (RQ.o q_var) (pt_some q_var) pt_none))) (a_cons (q_tup (a_cons q_var a_nil)) a_nil))))))))) g_name)
    (s_ret (x_op oq_ixL (RNX.x (nx_opX on_cat (RQ.x q_var) (RNX.x (nx_lst (ax_cons (x_pen (RA.x (a_cons (RN.q (n_lst (a_cons q_non (a_cons (q_tup a_nil) (a_cons (RN.q (n_lst a_nil)) (a_cons q_str (a_cons q_var (a_cons q_int (a_cons (RN.q n_d0) (a_cons q_bl (a_cons (q_tup (a_cons q_non a_nil)) (a_cons (q_tup (a_cons (q_tup a_nil) a_nil)) a_nil)))))))))))) a_nil))) (RA.x a_nil)))))) (RQ.x q_var)))))))), rfl, ?_⟩
  obtain ⟨rs, ds, ws, rfl, rfl, hne, hwl, hws, hrs, hst, hr1, hrl, hn, q⟩ := hb
  have hpos := List.length_pos_iff.mpr hne
  walk_at "w"
  refine ⟨ws.length, by rw [List.length_map], by omega, by omega, by omega, fun a ha => ?_⟩
  walk_at "w"
  refine ⟨7, rfl, by omega, by omega, by omega, fun way hway => ?_⟩
  walk_at "w"
  refine yard_r ?_
  walk_at "w"
  refine ⟨_, .inl rfl, by omega, by rw [List.length_map]; omega, by rw [List.length_map]; omega, fun d hd => ?_⟩
  obtain ⟨room, hroom, rfl⟩ := List.mem_map.mp hd
  have hrm := hrs _ hroom
  walk_at "w"
  refine ⟨by have := hrm.2.1; omega, ?_⟩
  walk_at "w"
  refine yard_r ?_
  walk_at "w"
  refine ⟨rs, rfl, hst, fun b hb hbn => ?_⟩
  have hbm : NmOk b := by
    simp only [qNames, List.mem_cons, List.not_mem_nil, or_false] at hb
    rcases hb with rfl | rfl | rfl | rfl <;> decide +kernel
  walk_at "w"
  refine ⟨Nat.le_trans (show (10 : Nat) ≤ 64 by decide) (by decide), ?_⟩
  walk_at "w"
  refine ⟨oddsD room b, .inl rfl, by omega, by show 1 ≤ 10; decide, by show 10 < 2 ^ 30; decide, fun o ho => ?_⟩
  have hod := odds_ok (rs := rs) hrm hbm o ho
  clear ho
  walk_at "w"
  have hL : (ws.map D.str).length ≤ 600 := by rw [List.length_map]; exact hwl
  have hsz : 2000 ≤ sizeLine := by decide
  rw [cutD_map, cutL_to]
  refine p_catT (by rw [List.length_map, List.length_take]; simp; omega) ?_
  walk_at "w"
  rw [show (a : Int) + 1 = ((a + 1 : Nat) : Int) by omega, cutD_map, cutL_from]
  refine p_catT (by rw [List.length_append, List.length_map, List.length_map, List.length_take, List.length_drop]; simp; omega) ?_
  walk_at "w"
  rw [cutD_map, cutL_to, show (a : Int) + 1 = ((a + 1 : Nat) : Int) by omega, cutD_map, cutL_from]
  refine p_catT (by rw [List.length_map, List.length_map, List.length_take, List.length_drop]; omega) ?_
  walk_at "w"
  rw [show (a : Int) + 1 = ((a + 1 : Nat) : Int) by omega, cutD_map, cutL_to, cutD_map, cutL_from]
  refine p_catT (by rw [List.length_map, List.length_map, List.length_take, List.length_drop]; omega) ?_
  walk_at "w"
  refine ⟨_, .inr (.inl rfl), ?_⟩
  walk_at "w"
  rw [cutD_map, cutL_to]
  refine p_catT (by rw [List.length_map, List.length_take]; simp; omega) ?_
  walk_at "w"
  rw [cutD_map, cutL_from]
  refine p_catT (by rw [List.length_append, List.length_map, List.length_map, List.length_take, List.length_drop]; simp; omega) ?_
  walk_at "w"
  refine p_catL (Nat.le_trans (show (6 : Nat) ≤ 64 by decide) (by decide)) ?_
  walk_at "w"
  refine ⟨Nat.le_trans (show (10 : Nat) ≤ 64 by decide) (by decide), ?_⟩
  walk_at "w"
  refine ⟨lastD room, .inl rfl, by omega, by show 1 ≤ 10; decide, by show 10 < 2 ^ 30; decide, fun d hd => ?_⟩
  have hlast := last_ok (rs := rs) hrm d hd
  clear hd
  walk_at "w"
  refine p_catL (Nat.le_trans (show (7 : Nat) ≤ 64 by decide) (by decide)) ?_
  walk_at "w"
  have hwm : ∀ z ∈ ws, NmOk z := fun z hz => hrs _ (hws z hz)
  have ht : ∀ k, ∀ z ∈ ws.take k, NmOk z := fun k z hz => hwm z (List.mem_of_mem_take hz)
  have hdr : ∀ k, ∀ z ∈ ws.drop k, NmOk z := fun k z hz => hwm z (List.mem_of_mem_drop hz)
  have h1 : Thg rs (.tup ((ws.take a).map D.str ++ [o] ++ (ws.drop (a + 1)).map D.str)) ∧ ∃ t, RprT (.tup ((ws.take a).map D.str ++ [o] ++ (ws.drop (a + 1)).map D.str)) t := by
    rw [List.append_assoc, List.singleton_append]
    exact thg_mid (ht _) (hdr _) (by rw [List.length_take, List.length_drop]; omega) hod
  have h2 : Thg rs (.tup ((ws.take a).map D.str ++ (ws.drop (a + 1)).map D.str)) ∧ ∃ t, RprT (.tup ((ws.take a).map D.str ++ (ws.drop (a + 1)).map D.str)) t := by
    rw [← List.map_append]
    exact thg_wk (fun z hz => (List.mem_append.mp hz).elim (ht _ z) (hdr _ z)) (by rw [List.length_append, List.length_take, List.length_drop]; omega)
  have h3 : Thg rs (.tup ((ws.take (a + 1)).map D.str ++ (ws.drop a).map D.str)) ∧ ∃ t, RprT (.tup ((ws.take (a + 1)).map D.str ++ (ws.drop a).map D.str)) t := by
    rw [← List.map_append]
    exact thg_wk (fun z hz => (List.mem_append.mp hz).elim (ht _ z) (hdr _ z)) (by rw [List.length_append, List.length_take, List.length_drop]; omega)
  have h5 : Thg rs (.tup ((ws.take a).map D.str ++ [.str room] ++ (ws.drop a).map D.str)) ∧ ∃ t, RprT (.tup ((ws.take a).map D.str ++ [.str room] ++ (ws.drop a).map D.str)) t := by
    rw [List.append_assoc, List.singleton_append]
    exact thg_mid (ht _) (hdr _) (by rw [List.length_take, List.length_drop]; omega) (odd_s hrm.sok (by have := hrm.2.1; omega))
  have key : ∃ x, ([D.tup ((ws.take a).map D.str ++ [o] ++ (ws.drop (a + 1)).map D.str), D.tup ((ws.take a).map D.str ++ (ws.drop (a + 1)).map D.str), D.tup ((ws.take (a + 1)).map D.str ++ (ws.drop a).map D.str)] ++ [D.lst (ws.map D.str), D.tup ((ws.take a).map D.str ++ [.str room] ++ (ws.drop a).map D.str), D.tup [wkD ws]] ++ [d])[way]? = some x ∧ Thg rs x ∧ ∃ t, RprT x t := by
    rcases (show way = 0 ∨ way = 1 ∨ way = 2 ∨ way = 3 ∨ way = 4 ∨ way = 5 ∨ way = 6 by omega) with e | e | e | e | e | e | e <;> subst e
    · exact ⟨_, rfl, h1⟩
    · exact ⟨_, rfl, h2⟩
    · exact ⟨_, rfl, h3⟩
    · exact ⟨_, rfl, thg_lst hwm (by omega)⟩
    · exact ⟨_, rfl, h5⟩
    · exact ⟨_, rfl, thg_one hwm (by omega)⟩
    · exact ⟨_, rfl, hlast⟩
  obtain ⟨x, hx, hx1, hx2⟩ := key
  refine p_ixL (m := way) rfl hx ?_
  walk_at "w"
  exact q x _ hx1 hx2 (by omega)
end
local macro_rules | `(tactic| walk_at "y1") => `(tactic| first | walk_at "z1" | with_reducible refine p_slX ?_ | with_reducible refine p_orT ?_ | with_reducible refine p_ps5 ?_ | with_reducible refine p_dgetT ?_ | with_reducible refine p_dinT ?_ | with_reducible refine p_dputT ?_ | with_reducible refine p_tuk2 ?_ | with_reducible refine p_untuk2 ?_ | with_reducible refine p_keysZ ?_ | ((with_reducible refine' p_giveZt ?h ?_); (case h => rfl)) | ((with_reducible refine' p_dt0 ?h ?_); (case h => rfl)))
local macro_rules | `(tactic| walk_at "y") => `(tactic| ((try dsimp only [List.set_cons_succ, List.set_cons_zero, mapK2]); repeat (walk_at "y1"; (try dsimp only [List.set_cons_succ, List.set_cons_zero, mapK2]))))

local macro_rules | `(tactic| walk_at "x1") => `(tactic| first | walk_at "y1" | with_reducible refine p_callE ?_ | with_reducible refine p_callEX ?_ | with_reducible refine p_pe1 ?_ | with_reducible refine p_pe2 ?_ | with_reducible refine p_pe3 ?_ | with_reducible refine p_pe4 ?_ | with_reducible refine p_pe5 ?_ | with_reducible refine p_try ?_ | with_reducible refine p_xf ?_ | with_reducible refine p_isE ?_ | with_reducible refine p_callV ?_ | with_reducible refine p_act ?_ | ((with_reducible refine p_lam ?_); dsimp only [kn_cons, kn_nil, knS]) | with_reducible refine p_minDef ?_ | with_reducible refine p_methE ?_ | ((with_reducible refine' p_gunl ?h ?_); (case h => rfl)) | with_reducible refine p_opNX ?_ | with_reducible refine p_indexR ?_)
local macro_rules | `(tactic| walk_at "x") => `(tactic| ((try dsimp only [List.set_cons_succ, List.set_cons_zero, mapK2]); repeat (walk_at "x1"; (try dsimp only [List.set_cons_succ, List.set_cons_zero, mapK2]))))

abbrev sLaw : Stmt := topS 38
theorem scLaw : FnScope ["_law_script", "_law_pen_here", "_law_turn", "_law_yard_here", "_law_house_here", "_law_again", "_law_begin", "_law_road", "_law_thing", "_law_kept", "_law_found", "_law_k"] ["_law_script"] (defScope sLaw) := ⟨rfl, rfl, rfl, by decide +kernel, rfl, by decide +kernel, by decide +kernel⟩
local macro_rules | `(tactic| walk_at "w1") => `(tactic| first | walk_at "x1" | with_reducible refine p_upper ?_)
local macro_rules | `(tactic| walk_at "w") => `(tactic| ((try dsimp only [List.set_cons_succ, List.set_cons_zero, mapK2]); repeat (walk_at "w1"; (try dsimp only [List.set_cons_succ, List.set_cons_zero, mapK2]))))
section
variable {P : Program} {w : World} {K : PySem.W.Frag} {mg : Str → Option Value} {base : Heap}
theorem p_neW {ws zs : List Str} {R : D → Prop} (h1 : ∀ z ∈ ws, SOk z) (h2 : ∀ z ∈ zs, SOk z) (q : R (.bl (!decide (ws = zs)))) : fEqD true (wkD ws) (wkD zs) R :=
  ⟨.tuple (ws.map .str), .tuple (zs.map .str), .tup (pys_s _), .tup (pys_s _), sh_tup h1, sh_tup h2, by rw [PyData.eqv, eqv_strs]; exact q⟩
theorem road_in {rs : List Str} {ds : List Dr} (hin : ∀ e ∈ ds, e.1 ∈ rs ∧ e.2 ∈ rs ∧ e.1 ≠ e.2) {b : Str} {ws : List Str} (hr : Road ds (b :: ws)) (hb : b ∈ rs) : ∀ z ∈ b :: ws, z ∈ rs := by
  intro z hz
  obtain ⟨i, hi, e⟩ := List.getElem_of_mem hz
  cases i with
  | zero => rw [← e]; exact hb
  | succ i =>
    have h1 : (b :: ws)[i]? = some ((b :: ws)[i]'(by omega)) := List.getElem?_eq_getElem (by omega)
    have h2 : (b :: ws)[i + 1]? = some z := by rw [List.getElem?_eq_getElem hi, e]
    exact nb_inn hin (hr i _ _ h1 h2)
theorem p_neBl4 {a b : Bool} {R : D → Prop} (q : R (.bl (!decide (a = b)))) : fNe (.bl a) (.bl b) R := ⟨.bl a, .bl b, rfl, rfl, rfl, by rw [show decide (V.bl a = V.bl b) = decide (a = b) from decide_eq_decide.mpr ⟨fun e => V.bl.inj e, fun e => by rw [e]⟩]; exact q⟩
theorem rev_rng (ws : List Str) : (List.range ws.length).map (fun k => D.str ((ws.reverse[k]?).getD (Str.ofString ""))) = ws.reverse.map D.str := by
  apply List.ext_getElem?
  intro i
  rw [List.getElem?_map, List.getElem?_map]
  by_cases h : i < ws.length
  · have g : ws.reverse[i]? = some (ws.reverse[i]'(by rw [List.length_reverse]; exact h)) := List.getElem?_eq_getElem _
    rw [List.getElem?_range h]
    show some (D.str ((ws.reverse[i]?).getD (Str.ofString ""))) = _
    rw [g]
    rfl
  · rw [List.getElem?_eq_none (by rw [List.length_range]; omega), List.getElem?_eq_none (by rw [List.length_reverse]; omega)]
    rfl
theorem isW_iff {rs : List Str} {ds : List Dr} (hl : Loopless ds) (d : D) : IsW (hR rs) (hD ds) d ↔ IsW rs ds d := by
  have hm : ∀ {z : Str}, z ∈ hR rs ↔ z ∈ rs := srt_mem
  constructor
  · rintro ⟨ws, e, h1, h2, h3⟩
    exact ⟨ws, e, h1, fun z hz => hm.mp (h2 z hz), fun i x y hx hy => (hD_nb hl).mp (h3 i x y hx hy)⟩
  · rintro ⟨ws, e, h1, h2, h3⟩
    exact ⟨ws, e, h1, fun z hz => hm.mpr (h2 z hz), fun i x y hx hy => (hD_nb hl).mpr (h3 i x y hx hy)⟩
abbrev DLaw (P : Program) (w : World) (K : PySem.W.Frag) (mg : Str → Option Value) (base : Heap) : Prop := Df P w K mg base CX0 9 "law" ["_law_script"] (spLaw K)
theorem ok_Law {f : Addr} {fd : FuncData} (F : Fun K "law" "law" sLaw f fd) (M : Mgs mg) {c_House : Addr} (Z_House : HouseC K mg c_House) (D_pen : DPen P w K mg base) (D_draw : DDraw P w K mg base) (D_pick : DPick P w K mg base) (D_yard : DYard P w K mg base) (D_house : DHouse P w K mg base c_House) (D_strolled : DStrolled P w K mg base) (D_is_walk : DIsWalk P w K mg base c_House) (D_turned : DTurned P w K mg base) (D_bent : DBent P w K mg base) (D_lis_walk : DLisWalk P w K mg base) : FnG P w K mg base CX0 9 f fd ["_law_script"] (spLaw K) := by
  refine TT.Fun.okG F scLaw (fun vs H Q E h => len_D h l1) (fun cdv A outer s H vs Q E gd hr h => ?_)
  have hu := hu_of hr
  have hu64 := hu64_of hr
  have D_pen := brPen D_pen
  have D_draw := brDraw D_draw
  have D_pick := brPick D_pick
  have D_yard := brYard D_yard
  have D_house := brHouse D_house
  have D_strolled := brStrolled D_strolled
  refine ⟨_, ((pss_cons (ps_set (i := 1) scLaw.nd rfl (Or.inl rfl) (pe_df D_pen hr (by rfl) pass0 (pa_cons (pv 0) pa_nil)))
    (pss_cons (ps_for PassesOwn.never rfl (pi_range1 (by rfl) M.range (pa_cons pe_int pa_nil)) (pg_name (i := 2) scLaw.nd rfl (Or.inl rfl))
    (pss_cons (ps_set (i := 3) scLaw.nd rfl (Or.inl rfl) (pe_df D_yard hr (by rfl) pass0 (pa_cons (pv 1) (pa_cons (pe_ix (k_ix_list (K := K) rfl) (pe_lst (pa_cons pe_int (pa_cons pe_int pa_nil))) (pe_op op_mod (pv 2) pe_int) (fun _ _ => rfl)) pa_nil))))
    (pss_cons (ps_set (i := 4) scLaw.nd rfl (Or.inl rfl) (pe_df D_house hr (by rfl) pass0 (pa_cons (pv 1) (pa_cons (pv 3) pa_nil))))
    (pss_one (ps_for PassesOwn.never rfl (pi_range1 (by rfl) M.range (pa_cons pe_int pa_nil)) (pg_name (i := 5) scLaw.nd rfl (Or.inl rfl))
    (pss_cons (ps_set (i := 6) scLaw.nd rfl (Or.inl rfl) (pe_df D_pick hr (by rfl) pass0 (pa_cons (pv 1) (pa_cons (pe_dget hu (pv 3) pe_str (fun _ _ => rfl)) pa_nil))))
    (pss_cons (ps_set (i := 7) scLaw.nd rfl (Or.inr rfl) (pe_df D_strolled hr (by rfl) pass0 (pa_cons (pv 1) (pa_cons (pv 3) (pa_cons (pv 6) (pa_cons (pe_df D_draw hr (by rfl) pass0 (pa_cons (pv 1) (pa_cons (pe_ix (k_ix_list (K := K) rfl) (pe_lst (pa_cons pe_int (pa_cons pe_int pa_nil))) (pe_callTy call_intK (by rfl) M.int_ (by decide +kernel) (pa_cons (pe_cmpR op_eq (pe_op op_add (pv 2) (pv 5)) pe_int (nomark _)) pa_nil)) (fun _ _ => rfl)) pa_nil))) pa_nil))))))
    (pss_cons (ps_if (PW.pt (pw_or (pt_cmpR op_notBl (pe_df D_is_walk hr (by rfl) pass0 (pa_cons (pv 4) (pa_cons (pv 7) pa_nil))) pe_bl (nomark _)) (pw_or1 (pt_cmpR (k_op_neD (K := K) rfl hu64) (pe_df D_turned hr (by rfl) pass0 (pa_cons (pv 7) pa_nil)) (pe_callTy (k_tuple (K := K) rfl) (by rfl) M.tuple_ (by decide +kernel) (pa_cons (pe_lc (own := [("_law_k", 11)]) rfl scLaw.nd (pi_range1 (by rfl) M.range (pa_cons (pe_callB (k_len (K := K) rfl) (by rfl) M.len PySem.boot_len (pa_cons (pv 7) pa_nil)) pa_nil)) (blkOk_by (N := ["_law_script", "_law_pen_here", "_law_turn", "_law_yard_here", "_law_house_here", "_law_again", "_law_begin", "_law_road", "_law_thing", "_law_kept", "_law_found", "_law_k"]) (sc := defScope sLaw) (by decide +kernel)) (fun _ _ _ _ _ => (pg_name (i := 11) scLaw.nd rfl (Or.inl rfl))) (fun _ _ _ _ _ => pts_nil) (fun _ _ _ _ _ => (pe_ix (k_ix_tup (K := K) rfl) (pv 7) (pe_op op_sub (pe_un un_neg pe_int) (pv 11)) (fun _ _ => rfl)))) pa_nil)) (nomark _)))))
    (pss_one (ps_ret pe_bl))
    pss_nil)
    (pss_cons (ps_set (i := 8) scLaw.nd rfl (Or.inl rfl) (pe_df D_bent hr (by rfl) pass0 (pa_cons (pv 1) (pa_cons (pv 3) (pa_cons (pv 7) pa_nil)))))
    (pss_cons (ps_par (i := 9) (j := 10) (by rfl) scLaw.nd rfl rfl (by decide) rfl rfl (pa_cons (pe_callB (k_reprT (K := K) rfl gd hu64) (by rfl) M.repr (by decide +kernel) (pa_cons (pv 8) pa_nil)) (pa_cons (pe_df D_is_walk hr (by rfl) pass0 (pa_cons (pv 4) (pa_cons (pv 8) pa_nil))) pa_nil)) (by rfl))
    (pss_one (ps_if (PW.pt (pw_or (pt_not (pt_val (pe_callB (k_isi (K := K) rfl) (by rfl) M.isinstance (by decide +kernel) (pa_cons (pv 10) (pa_cons (pe_bltn (v := V.ty "bool") (u := Value.type "bool") (by rfl) M.bool_ (by decide +kernel) rfl) pa_nil))))) (pw_or (pt_cmpR op_ne (pv 10) (pe_df D_lis_walk hr (by rfl) pass0 (pa_cons (pv 3) (pa_cons (pv 8) pa_nil))) (nomark _)) (pw_or1 (pt_cmpR op_ne (pe_callB (k_reprT (K := K) rfl gd hu64) (by rfl) M.repr (by decide +kernel) (pa_cons (pv 8) pa_nil)) (pv 9) (nomark _))))))
    (pss_one (ps_ret pe_bl))
    pss_nil))))))))))))
    (pss_one (ps_ret pe_bl))))), ?_⟩
  refine run_D (P := P) (w := w) h fun G ds R hb => ?_
  obtain ⟨x1, rfl, hb⟩ := hb
  refine ⟨_, [.v x1, .un, .un, .un, .un, .un, .un, .un, .un, .un, .un, .un], (s_seq (s_newPen (RA.x (a_cons q_var a_nil)))
    (s_seq (s_for (RIQ.x (iq_rng1 (a_cons q_int a_nil))) g_name
    (s_seq (s_asg (x_pen (RA.x (a_cons (q_op oq_ixL (RQ.o (RN.q (n_lst (a_cons q_int (a_cons q_int a_nil))))) (RQ.o (q_op oq_intC (RQ.o q_var) (RQ.o q_int)))) a_nil))) g_name)
    (s_seq (s_asg (x_pen (RA.x (a_cons q_var a_nil))) g_name)
    (s_for (RIQ.x (iq_rng1 (a_cons q_int a_nil))) g_name
    (s_seq (s_asg (x_pen (RA.x (a_cons (q_dget (RQ.o q_var) q_str) a_nil))) g_name)
    (s_seq (s_asg (x_pen (ax_cons (RQ.x q_var) (ax_cons (RQ.x q_var) (ax_cons (x_pen (RA.x (a_cons (q_op oq_ixL (RQ.o (RN.q (n_lst (a_cons q_int (a_cons q_int a_nil))))) (RQ.o (q_cb cq_int (ao_one (RQ.o (q_op oq_eq (RQ.o (q_op oq_int (RQ.o q_var) (RQ.o q_var))) (RQ.o q_int))))))) a_nil))) (RA.x a_nil))))) g_name)
    (s_seq (s_if (RB.x (b_or (b_test (q_op oq_notB (RQ.o (q_call (a_cons q_var (a_cons q_var a_nil)))) (RQ.o q_bl))) (b_test (q_op oq_neD (RQ.o (q_call (a_cons q_var a_nil))) (RQ.o (q_cb cq_tuple (ao_one (RQ.o (RN.q (n_lc (RIQ.o (iq_rng1 (a_cons (q_cb cq_len (ao_one (RQ.o q_var))) a_nil))) g_name b_yes (q_op oq_ixT (RQ.o q_var) (RQ.o (q_op oq_int (RQ.o (q_un uq_neg (RQ.o q_int))) (RQ.o q_var)))) (by decide)))))))))))
    (s_ret (RQ.x q_bl))
    s_next)
    (s_seq (s_asg (x_pen (RA.x (a_cons q_var (a_cons q_var a_nil)))) g_name)
    (s_seq (s_par (RA.x (a_cons (q_cb cq_reprT (ao_one (RQ.o q_var))) (a_cons (q_call (a_cons q_var (a_cons q_var a_nil))) a_nil))))
    (s_if (RB.x (b_or (b_not (b_tb (q_isi q_var))) (b_or (b_test (q_op oq_ne (RQ.o q_var) (RQ.o (q_call (a_cons q_var (a_cons q_var a_nil)))))) (b_test (q_op oq_ne (RQ.o (q_cb cq_reprT (ao_one (RQ.o q_var)))) (RQ.o q_var))))))
    (s_ret (RQ.x q_bl))
    s_next))))))))))
    (s_ret (RQ.x q_bl)))), rfl, ?_⟩
  classical
  obtain ⟨ns, rfl, hl, q⟩ := hb
  walk_at "w"
  refine p_pen0 hl ?_
  walk_at "w"
  refine p_rng1 (k := 6) (m := 6) rfl (by omega) ?_
  walk_at "w"
  refine forR0 (n := 6) (fun i ρ => ∃ n, n ≤ i * 8000 ∧ ∃ y2 y3 y4 y5 y6 y7 y8 y9 y10 y11, ρ = [.v (.lst (ns.map D.int)), .p n, y2, y3, y4, y5, y6, y7, y8, y9, y10, y11]) ⟨0, Nat.zero_le _, .un, .un, .un, .un, .un, .un, .un, .un, .un, .un, rfl⟩ (fun i ρ hi pv => ?_) (fun ρ pv => ?_)
  · obtain ⟨n, hn, y2, y3, y4, y5, y6, y7, y8, y9, y10, y11, rfl⟩ := pv
    walk_at "w"
    obtain ⟨j, hj, hj2⟩ : ∃ j : Nat, (i : Int) % 2 = (j : Int) ∧ j < 2 := ⟨i % 2, by omega, by omega⟩
    refine ⟨(i : Int), 2, rfl, rfl, by omega, ?_⟩
    walk_at "w"
    rw [hj]
    obtain ⟨v, hv, hv1, hv2⟩ : ∃ v : Nat, [D.int 16, D.int 6][j]? = some (.int (v : Int)) ∧ 1 ≤ v ∧ v ≤ 16 := by
      rcases (show j = 0 ∨ j = 1 by omega) with e | e
      · subst e; exact ⟨16, rfl, by omega, by omega⟩
      · subst e; exact ⟨6, rfl, by omega, by omega⟩
    refine p_ixL rfl hv ?_
    walk_at "w"
    refine ⟨v, rfl, by omega, hv1, hv2, fun rs ds hdr => ?_⟩
    walk_at "w"
    refine ⟨v, rs, ds, rfl, by omega, by omega, hdr, ?_⟩
    walk_at "w"
    have hel : Loopless ds := fun e he => (hdr.fine.inn e he).2.2
    have hro : ∀ z ∈ rs, SOk z := fun z hz => (hdr.nm z hz).sok
    have hRo : ∀ z ∈ hR rs, SOk z := fun z hz => hro z (srt_mem.mp hz)
    have hds : DsOk ds := fun e he => ⟨hro _ (hdr.fine.inn e he).1, hro _ (hdr.fine.inn e he).2.1⟩
    have hrl : rs.length < 64 := by have := hdr.most; omega
    refine p_rng1 (k := 6) (m := 6) rfl (by omega) ?_
    walk_at "w"
    refine forR0 (n := 6) (fun j2 ρ => ∃ n2, n2 ≤ n + 700 + j2 * 1000 ∧ ∃ y5 y6 y7 y8 y9 y10 y11, ρ = [.v (.lst (ns.map D.int)), .p n2, .v (.int (i : Int)), .v (yardD rs ds), .v (houseD c_House (hR rs) (hD ds)), y5, y6, y7, y8, y9, y10, y11]) ⟨_, by omega, _, _, _, _, _, _, _, rfl⟩ (fun j2 ρ hj2 pv => ?_) (fun ρ pv => ?_)
    · clear y5 y6 y7 y8 y9 y10 y11
      obtain ⟨n2, hn2, y5, y6, y7, y8, y9, y10, y11, rfl⟩ := pv
      walk_at "w"
      refine yard_r ?_
      walk_at "w"
      refine ⟨_, .inl rfl, by omega, by rw [List.length_map]; exact hdr.one, by rw [List.length_map]; omega, fun d hd => ?_⟩
      obtain ⟨z, hz, rfl⟩ := List.mem_map.mp hd
      walk_at "w"
      obtain ⟨gr, eg⟩ : ∃ gr, decide ((i : Int) + (j2 : Int) = 0) = gr := ⟨_, rfl⟩
      rw [eg]
      refine p_intB ?_
      obtain ⟨u, hu, hu2⟩ : ∃ u : Nat, (if gr = true then (1 : Int) else 0) = (u : Int) ∧ u < 2 := by
        cases gr
        · exact ⟨0, rfl, by omega⟩
        · exact ⟨1, rfl, by omega⟩
      rw [hu]
      obtain ⟨v2, hv2', hv3, hv4⟩ : ∃ v2 : Nat, [D.int 40, D.int 398][u]? = some (.int (v2 : Int)) ∧ 1 ≤ v2 ∧ v2 ≤ 398 := by
        rcases (show u = 0 ∨ u = 1 by omega) with e | e
        · subst e; exact ⟨40, rfl, by omega, by omega⟩
        · subst e; exact ⟨398, rfl, by omega, by omega⟩
      refine p_ixL rfl hv2' ?_
      walk_at "w"
      refine ⟨v2, rfl, by omega, by omega, by omega, fun c hc => ?_⟩
      walk_at "w"
      refine ⟨rs, ds, z, c, rfl, rfl, rfl, by omega, hdr.few, hds, by omega, fun ws0 hwl hr => ?_⟩
      have hws := road_in hdr.fine.inn hr hz
      have hne : z :: ws0 ≠ [] := fun e => by cases e
      have hwl2 : (z :: ws0).length ≤ 400 := by rw [List.length_cons]; omega
      generalize z :: ws0 = ws at *
      have hwm : ∀ y ∈ ws, NmOk y := fun y hy => hdr.nm y (hws y hy)
      walk_at "w"
      refine ⟨hR rs, hD ds, rfl, (thg_wk hwm (by omega)).1, hRo, ?_⟩
      rw [decide_eq_true (show IsW (hR rs) (hD ds) (wkD ws) from (isW_iff hel _).mpr ⟨ws, rfl, hne, hws, hr⟩)]
      walk_at "w"
      refine ⟨true, true, rfl, rfl, ?_⟩
      walk_at "w"
      rw [show (!decide (true = true)) = false from rfl]
      walk_at "w"
      refine ⟨ws, rfl, ?_⟩
      walk_at "w"
      refine lcQ (xs := List.range ws.length) (f := fun k => D.int ((k : Nat) : Int)) (u := some) (k := fun k => D.str ((ws.reverse[k]?).getD (Str.ofString ""))) (by rw [List.length_range]; omega) (fun R' r => ?_) (fun k hk Em Sk k1 k2 => ?_) ?_
      · walk_at "w"
        refine p_rng1 (m := ws.length) (by rw [List.length_map]) (by omega) ?_
        rw [show (((ws.length : Nat) : Int)).toNat = ws.length by omega, rngD_0]
        exact r
      · have hk' := List.mem_range.mp hk
        walk_at "w"
        rw [show (-1 : Int) - (k : Int) = -(((k + 1 : Nat)) : Int) by omega]
        refine p_ixTk (x := .str ((ws.reverse[k]?).getD (Str.ofString ""))) (k + 1) (by omega) (by rw [List.length_map]; omega) (by
          rw [List.getElem?_map, List.length_map, List.getElem?_eq_getElem (by omega), List.getElem?_reverse hk', List.getElem?_eq_getElem (by omega)]
          simp only [Option.map_some, Option.getD_some, show ws.length - 1 - k = ws.length - (k + 1) by omega]) ?_
        exact k1 k rfl
      rw [List.filterMap_some, rev_rng]
      walk_at "w"
      refine ⟨_, .inl rfl, ?_⟩
      have hso : ∀ y ∈ ws.reverse, SOk y := fun y hy => (hwm y (List.mem_reverse.mp hy)).sok
      refine p_neW hso hso ?_
      rw [decide_eq_true rfl]
      walk_at "w"
      refine ⟨rs, ds, ws, rfl, rfl, hne, by omega, hws, hdr.nm, hdr.str, hdr.one, hrl, by omega, fun d n' hT hS hn' => ?_⟩
      obtain ⟨t, ht⟩ := hS
      walk_at "w"
      refine ht _ ?_
      walk_at "w"
      refine ⟨hR rs, hD ds, rfl, hT, hRo, ?_⟩
      walk_at "w"
      refine ⟨_, true, rfl, by decide +kernel, ?_⟩
      walk_at "w"
      refine ⟨rs, ds, rfl, hT, hdr.few, hds, ?_⟩
      refine p_neBl4 ?_
      rw [decide_eq_true (decide_eq_decide.mpr (isW_iff hel d))]
      walk_at "w"
      refine ht _ ?_
      walk_at "w"
      rw [decide_eq_true rfl]
      walk_at "w"
      exact ⟨n', by omega, _, _, _, _, _, _, _, rfl⟩
    · obtain ⟨n2, hn2, y5, y6, y7, y8, y9, y10, y11, rfl⟩ := pv
      walk_at "w"
      exact ⟨n2, by omega, _, _, _, _, _, _, _, _, _, _, rfl⟩
  · obtain ⟨n, hn, y2, y3, y4, y5, y6, y7, y8, y9, y10, y11, rfl⟩ := pv
    walk_at "w"
    exact q
end
/-! ### what the top has written; the head -/
section
theorem df_of {P : Program} {w : World} {K : PySem.W.Frag} {mg : Str → Option Value} {base : Heap} {CX : CXT} {h : Heap} {x : Str} {st : Stmt} {f : Addr} {ps : List Str} {sp : Sp} {k : Nat} {oc kV dc pm cd ct : Value} {od an : Option Addr} {sl : Array (Option Value)} (X : K.In h) (G : h.Ns mainGlobals mg)
    (a : PySem.W.nsIn K mainGlobals x = some (some (.ref f))) (l : K.lookup f = some ⟨oc, od, .func (PySem.W.fnOf x x (defArgs st) (defBody st) (defScope st) .none kV dc pm an cd ct), sl⟩) (c : PySem.W.codeIn K cd x = true) (kk : PySem.W.keepIn K (.ref f) = true)
    (hb : ∀ (kV doc pm : Value) (an : Option Addr) (cdv ct : Value) (us : List Value), us.length = ps.length → bindArgs (PySem.W.fnOf x x (defArgs st) (defBody st) (defScope st) .none kV doc pm an cdv ct) ⟨us, []⟩ = pure (ps.zip us))
    (ok : ∀ {fd : FuncData}, Fun K x x st f fd → FnOk P w K mg base CX k f fd ps sp) : Df P w K mg base CX k x ps sp :=
  ⟨f, _, ok (fun_mk l c kk), PySem.W.mg_of X G a, kk, (fun_mk l c kk).binds hb⟩
theorem dm_of {P : Program} {w : World} {K : PySem.W.Frag} {mg : Str → Option Value} {base : Heap} {CX : CXT} {x qual : Str} {st : Stmt} {f C : Addr} {ps : List Str} {sp : Sp} {k : Nat} {oc kV dc pm cd ct : Value} {od an : Option Addr} {sl : Array (Option Value)}
    (a : PySem.W.findIn K (.ref C) x = some (some (.ref f))) (i : PySem.W.isFn K (.ref f) = true) (l : K.lookup f = some ⟨oc, od, .func (PySem.W.fnOf x qual (defArgs st) (defBody st) (defScope st) .none kV dc pm an cd ct), sl⟩) (c : PySem.W.codeIn K cd qual = true) (kk : PySem.W.keepIn K (.ref f) = true)
    (hb : ∀ (kV doc pm : Value) (an : Option Addr) (cdv ct : Value) (us : List Value), us.length = ps.length → bindArgs (PySem.W.fnOf x qual (defArgs st) (defBody st) (defScope st) .none kV doc pm an cdv ct) ⟨us, []⟩ = pure (ps.zip us))
    (ok : ∀ {fd : FuncData}, Fun K x qual st f fd → FnOk P w K mg base CX k f fd ps sp) : Dm P w K mg base CX k C x ps sp :=
  ⟨f, _, ⟨a, i, kk⟩, ok (fun_mk l c kk), (fun_mk l c kk).binds hb⟩
theorem dk_of {P : Program} {w : World} {K : PySem.W.Frag} {mg : Str → Option Value} {base : Heap} {CX : CXT} {x0 qual : Str} {st : Stmt} {f C : Addr} {ps : List Str} {sp : Sp} {k : Nat} {oc kV dc pm cd ct : Value} {od an : Option Addr} {sl : Array (Option Value)}
    (hg : mg x0 = some (.ref C)) (mk : PySem.W.makesIn K C = true) (kc : PySem.W.keepIn K (.ref C) = true)
    (a : PySem.W.findIn K (.ref C) "__init__" = some (some (.ref f))) (i : PySem.W.isFn K (.ref f) = true) (l : K.lookup f = some ⟨oc, od, .func (PySem.W.fnOf "__init__" qual (defArgs st) (defBody st) (defScope st) .none kV dc pm an cd ct), sl⟩) (c : PySem.W.codeIn K cd qual = true) (kk : PySem.W.keepIn K (.ref f) = true)
    (hb : ∀ (kV doc pm : Value) (an : Option Addr) (cdv ct : Value) (us : List Value), us.length = ps.length → bindArgs (PySem.W.fnOf "__init__" qual (defArgs st) (defBody st) (defScope st) .none kV doc pm an cdv ct) ⟨us, []⟩ = pure (ps.zip us))
    (ok : ∀ {fd : FuncData}, Fun K "__init__" qual st f fd → FnOk P w K mg base CX k f fd ps sp) : Dk P w K mg base CX k x0 C ps sp :=
  ⟨f, _, ⟨mk, a, i, kc⟩, ok (fun_mk l c kk), hg, (fun_mk l c kk).binds hb⟩
theorem all_mk {l : PySem.W.OpenLaw} {w : World} {K : PySem.W.Frag} {h : Heap} {mg : Str → Option Value} {fa : Addr} (X : K.In h) (G : h.Ns mainGlobals mg) (hfa : mg "law" = some (.ref fa))
    {c_House : Addr} (gc_House : PySem.W.nsIn K mainGlobals "House" = some (some (.ref c_House))) (pg_House : PySem.W.plainGet K c_House Str.empty = true) (hd_House : PySem.W.hasDictIn K c_House = true) (po_House : PySem.W.plainOver K c_House = true) (sa_House : PySem.W.findIn K (.ref c_House) "__setattr__" = some (some (.builtin "object.__setattr__"))) (mi_House : PySem.W.makesIn K c_House = true) (kc_House : PySem.W.keepIn K (.ref c_House) = true) (n1_House : PySem.W.findIn K (.ref c_House) "_rooms" = some none) (n2_House : PySem.W.findIn K (.ref c_House) "_doors" = some none) (n3_House : PySem.W.findIn K (.ref c_House) "_near" = some none)
    {f0 : Addr} {oc0 kV0 dc0 pm0 cd0 ct0 : Value} {od0 an0 : Option Addr} {sl0 : Array (Option Value)}
    (a0 : PySem.W.nsIn K mainGlobals "_law_draw" = some (some (.ref f0))) (l0 : K.lookup f0 = some ⟨oc0, od0, .func (PySem.W.fnOf "_law_draw" "_law_draw" (defArgs sDraw) (defBody sDraw) (defScope sDraw) .none kV0 dc0 pm0 an0 cd0 ct0), sl0⟩) (c0 : PySem.W.codeIn K cd0 "_law_draw" = true) (k0 : PySem.W.keepIn K (.ref f0) = true)
    {f1 : Addr} {oc1 kV1 dc1 pm1 cd1 ct1 : Value} {od1 an1 : Option Addr} {sl1 : Array (Option Value)}
    (a1 : PySem.W.nsIn K mainGlobals "_law_pick" = some (some (.ref f1))) (l1 : K.lookup f1 = some ⟨oc1, od1, .func (PySem.W.fnOf "_law_pick" "_law_pick" (defArgs sPick) (defBody sPick) (defScope sPick) .none kV1 dc1 pm1 an1 cd1 ct1), sl1⟩) (c1 : PySem.W.codeIn K cd1 "_law_pick" = true) (k1 : PySem.W.keepIn K (.ref f1) = true)
    {f2 : Addr} {oc2 kV2 dc2 pm2 cd2 ct2 : Value} {od2 an2 : Option Addr} {sl2 : Array (Option Value)}
    (a2 : PySem.W.nsIn K mainGlobals "_law_pen" = some (some (.ref f2))) (l2 : K.lookup f2 = some ⟨oc2, od2, .func (PySem.W.fnOf "_law_pen" "_law_pen" (defArgs sPen) (defBody sPen) (defScope sPen) .none kV2 dc2 pm2 an2 cd2 ct2), sl2⟩) (c2 : PySem.W.codeIn K cd2 "_law_pen" = true) (k2 : PySem.W.keepIn K (.ref f2) = true)
    {f3 : Addr} {oc3 kV3 dc3 pm3 cd3 ct3 : Value} {od3 an3 : Option Addr} {sl3 : Array (Option Value)}
    (a3 : PySem.W.nsIn K mainGlobals "_law_names" = some (some (.ref f3))) (l3 : K.lookup f3 = some ⟨oc3, od3, .func (PySem.W.fnOf "_law_names" "_law_names" (defArgs sNames) (defBody sNames) (defScope sNames) .none kV3 dc3 pm3 an3 cd3 ct3), sl3⟩) (c3 : PySem.W.codeIn K cd3 "_law_names" = true) (k3 : PySem.W.keepIn K (.ref f3) = true)
    {f4 : Addr} {oc4 kV4 dc4 pm4 cd4 ct4 : Value} {od4 an4 : Option Addr} {sl4 : Array (Option Value)}
    (a4 : PySem.W.nsIn K mainGlobals "_law_near" = some (some (.ref f4))) (l4 : K.lookup f4 = some ⟨oc4, od4, .func (PySem.W.fnOf "_law_near" "_law_near" (defArgs sNear) (defBody sNear) (defScope sNear) .none kV4 dc4 pm4 an4 cd4 ct4), sl4⟩) (c4 : PySem.W.codeIn K cd4 "_law_near" = true) (k4 : PySem.W.keepIn K (.ref f4) = true)
    {f5 : Addr} {oc5 kV5 dc5 pm5 cd5 ct5 : Value} {od5 an5 : Option Addr} {sl5 : Array (Option Value)}
    (a5 : PySem.W.nsIn K mainGlobals "_law_may_door" = some (some (.ref f5))) (l5 : K.lookup f5 = some ⟨oc5, od5, .func (PySem.W.fnOf "_law_may_door" "_law_may_door" (defArgs sMayDoor) (defBody sMayDoor) (defScope sMayDoor) .none kV5 dc5 pm5 an5 cd5 ct5), sl5⟩) (c5 : PySem.W.codeIn K cd5 "_law_may_door" = true) (k5 : PySem.W.keepIn K (.ref f5) = true)
    {f6 : Addr} {oc6 kV6 dc6 pm6 cd6 ct6 : Value} {od6 an6 : Option Addr} {sl6 : Array (Option Value)}
    (a6 : PySem.W.nsIn K mainGlobals "_law_drawn_pairs" = some (some (.ref f6))) (l6 : K.lookup f6 = some ⟨oc6, od6, .func (PySem.W.fnOf "_law_drawn_pairs" "_law_drawn_pairs" (defArgs sDrawnPairs) (defBody sDrawnPairs) (defScope sDrawnPairs) .none kV6 dc6 pm6 an6 cd6 ct6), sl6⟩) (c6 : PySem.W.codeIn K cd6 "_law_drawn_pairs" = true) (k6 : PySem.W.keepIn K (.ref f6) = true)
    {f7 : Addr} {oc7 kV7 dc7 pm7 cd7 ct7 : Value} {od7 an7 : Option Addr} {sl7 : Array (Option Value)}
    (a7 : PySem.W.nsIn K mainGlobals "_law_with_doors" = some (some (.ref f7))) (l7 : K.lookup f7 = some ⟨oc7, od7, .func (PySem.W.fnOf "_law_with_doors" "_law_with_doors" (defArgs sWithDoors) (defBody sWithDoors) (defScope sWithDoors) .none kV7 dc7 pm7 an7 cd7 ct7), sl7⟩) (c7 : PySem.W.codeIn K cd7 "_law_with_doors" = true) (k7 : PySem.W.keepIn K (.ref f7) = true)
    {f8 : Addr} {oc8 kV8 dc8 pm8 cd8 ct8 : Value} {od8 an8 : Option Addr} {sl8 : Array (Option Value)}
    (a8 : PySem.W.nsIn K mainGlobals "_law_yard" = some (some (.ref f8))) (l8 : K.lookup f8 = some ⟨oc8, od8, .func (PySem.W.fnOf "_law_yard" "_law_yard" (defArgs sYard) (defBody sYard) (defScope sYard) .none kV8 dc8 pm8 an8 cd8 ct8), sl8⟩) (c8 : PySem.W.codeIn K cd8 "_law_yard" = true) (k8 : PySem.W.keepIn K (.ref f8) = true)
    {f9 : Addr} {oc9 kV9 dc9 pm9 cd9 ct9 : Value} {od9 an9 : Option Addr} {sl9 : Array (Option Value)}
    (a9 : PySem.W.nsIn K mainGlobals "_law_strolled" = some (some (.ref f9))) (l9 : K.lookup f9 = some ⟨oc9, od9, .func (PySem.W.fnOf "_law_strolled" "_law_strolled" (defArgs sStrolled) (defBody sStrolled) (defScope sStrolled) .none kV9 dc9 pm9 an9 cd9 ct9), sl9⟩) (c9 : PySem.W.codeIn K cd9 "_law_strolled" = true) (k9 : PySem.W.keepIn K (.ref f9) = true)
    {f10 : Addr} {oc10 kV10 dc10 pm10 cd10 ct10 : Value} {od10 an10 : Option Addr} {sl10 : Array (Option Value)}
    (a10 : PySem.W.nsIn K mainGlobals "is_name" = some (some (.ref f10))) (l10 : K.lookup f10 = some ⟨oc10, od10, .func (PySem.W.fnOf "is_name" "is_name" (defArgs sIsName) (defBody sIsName) (defScope sIsName) .none kV10 dc10 pm10 an10 cd10 ct10), sl10⟩) (c10 : PySem.W.codeIn K cd10 "is_name" = true) (k10 : PySem.W.keepIn K (.ref f10) = true)
    {f11 : Addr} {oc11 kV11 dc11 pm11 cd11 ct11 : Value} {od11 an11 : Option Addr} {sl11 : Array (Option Value)}
    (a11 : PySem.W.nsIn K mainGlobals "wrong_names" = some (some (.ref f11))) (l11 : K.lookup f11 = some ⟨oc11, od11, .func (PySem.W.fnOf "wrong_names" "wrong_names" (defArgs sWrongNames) (defBody sWrongNames) (defScope sWrongNames) .none kV11 dc11 pm11 an11 cd11 ct11), sl11⟩) (c11 : PySem.W.codeIn K cd11 "wrong_names" = true) (k11 : PySem.W.keepIn K (.ref f11) = true)
    {f12 : Addr} {oc12 kV12 dc12 pm12 cd12 ct12 : Value} {od12 an12 : Option Addr} {sl12 : Array (Option Value)}
    (a12 : PySem.W.nsIn K mainGlobals "rising_pair" = some (some (.ref f12))) (l12 : K.lookup f12 = some ⟨oc12, od12, .func (PySem.W.fnOf "rising_pair" "rising_pair" (defArgs sRisingPair) (defBody sRisingPair) (defScope sRisingPair) .none kV12 dc12 pm12 an12 cd12 ct12), sl12⟩) (c12 : PySem.W.codeIn K cd12 "rising_pair" = true) (k12 : PySem.W.keepIn K (.ref f12) = true)
    {f13 : Addr} {oc13 kV13 dc13 pm13 cd13 ct13 : Value} {od13 an13 : Option Addr} {sl13 : Array (Option Value)}
    (a13 : PySem.W.nsIn K mainGlobals "_is_pair" = some (some (.ref f13))) (l13 : K.lookup f13 = some ⟨oc13, od13, .func (PySem.W.fnOf "_is_pair" "_is_pair" (defArgs sIsPair) (defBody sIsPair) (defScope sIsPair) .none kV13 dc13 pm13 an13 cd13 ct13), sl13⟩) (c13 : PySem.W.codeIn K cd13 "_is_pair" = true) (k13 : PySem.W.keepIn K (.ref f13) = true)
    {f14 : Addr} {oc14 kV14 dc14 pm14 cd14 ct14 : Value} {od14 an14 : Option Addr} {sl14 : Array (Option Value)}
    (a14 : PySem.W.nsIn K mainGlobals "wrong_pairs" = some (some (.ref f14))) (l14 : K.lookup f14 = some ⟨oc14, od14, .func (PySem.W.fnOf "wrong_pairs" "wrong_pairs" (defArgs sWrongPairs) (defBody sWrongPairs) (defScope sWrongPairs) .none kV14 dc14 pm14 an14 cd14 ct14), sl14⟩) (c14 : PySem.W.codeIn K cd14 "wrong_pairs" = true) (k14 : PySem.W.keepIn K (.ref f14) = true)
    {f15 : Addr} {oc15 kV15 dc15 pm15 cd15 ct15 : Value} {od15 an15 : Option Addr} {sl15 : Array (Option Value)}
    (a15 : PySem.W.nsIn K mainGlobals "rising_pairs" = some (some (.ref f15))) (l15 : K.lookup f15 = some ⟨oc15, od15, .func (PySem.W.fnOf "rising_pairs" "rising_pairs" (defArgs sRisingPairs) (defBody sRisingPairs) (defScope sRisingPairs) .none kV15 dc15 pm15 an15 cd15 ct15), sl15⟩) (c15 : PySem.W.codeIn K cd15 "rising_pairs" = true) (k15 : PySem.W.keepIn K (.ref f15) = true)
    {f16 : Addr} {oc16 kV16 dc16 pm16 cd16 ct16 : Value} {od16 an16 : Option Addr} {sl16 : Array (Option Value)}
    (a16 : PySem.W.nsIn K mainGlobals "neighbours" = some (some (.ref f16))) (l16 : K.lookup f16 = some ⟨oc16, od16, .func (PySem.W.fnOf "neighbours" "neighbours" (defArgs sNeighbours) (defBody sNeighbours) (defScope sNeighbours) .none kV16 dc16 pm16 an16 cd16 ct16), sl16⟩) (c16 : PySem.W.codeIn K cd16 "neighbours" = true) (k16 : PySem.W.keepIn K (.ref f16) = true)
    {f17 : Addr} {oc17 kV17 dc17 pm17 cd17 ct17 : Value} {od17 an17 : Option Addr} {sl17 : Array (Option Value)}
    (a17 : PySem.W.findIn K (.ref c_House) "_refuse_three" = some (some (.ref f17))) (i17 : PySem.W.isFn K (.ref f17) = true) (l17 : K.lookup f17 = some ⟨oc17, od17, .func (PySem.W.fnOf "_refuse_three" "House._refuse_three" (defArgs sHouseRefuseThree) (defBody sHouseRefuseThree) (defScope sHouseRefuseThree) .none kV17 dc17 pm17 an17 cd17 ct17), sl17⟩) (c17 : PySem.W.codeIn K cd17 "House._refuse_three" = true) (k17 : PySem.W.keepIn K (.ref f17) = true)
    {f18 : Addr} {oc18 kV18 dc18 pm18 cd18 ct18 : Value} {od18 an18 : Option Addr} {sl18 : Array (Option Value)}
    (a18 : PySem.W.findIn K (.ref c_House) "__init__" = some (some (.ref f18))) (i18 : PySem.W.isFn K (.ref f18) = true) (l18 : K.lookup f18 = some ⟨oc18, od18, .func (PySem.W.fnOf "__init__" "House.__init__" (defArgs sHouseInit) (defBody sHouseInit) (defScope sHouseInit) .none kV18 dc18 pm18 an18 cd18 ct18), sl18⟩) (c18 : PySem.W.codeIn K cd18 "House.__init__" = true) (k18 : PySem.W.keepIn K (.ref f18) = true)
    {f19 : Addr} {oc19 kV19 dc19 pm19 cd19 ct19 : Value} {od19 an19 : Option Addr} {sl19 : Array (Option Value)}
    (a19 : PySem.W.nsIn K mainGlobals "_law_shuffled" = some (some (.ref f19))) (l19 : K.lookup f19 = some ⟨oc19, od19, .func (PySem.W.fnOf "_law_shuffled" "_law_shuffled" (defArgs sShuffled) (defBody sShuffled) (defScope sShuffled) .none kV19 dc19 pm19 an19 cd19 ct19), sl19⟩) (c19 : PySem.W.codeIn K cd19 "_law_shuffled" = true) (k19 : PySem.W.keepIn K (.ref f19) = true)
    {f20 : Addr} {oc20 kV20 dc20 pm20 cd20 ct20 : Value} {od20 an20 : Option Addr} {sl20 : Array (Option Value)}
    (a20 : PySem.W.nsIn K mainGlobals "_law_handed" = some (some (.ref f20))) (l20 : K.lookup f20 = some ⟨oc20, od20, .func (PySem.W.fnOf "_law_handed" "_law_handed" (defArgs sHanded) (defBody sHanded) (defScope sHanded) .none kV20 dc20 pm20 an20 cd20 ct20), sl20⟩) (c20 : PySem.W.codeIn K cd20 "_law_handed" = true) (k20 : PySem.W.keepIn K (.ref f20) = true)
    {f21 : Addr} {oc21 kV21 dc21 pm21 cd21 ct21 : Value} {od21 an21 : Option Addr} {sl21 : Array (Option Value)}
    (a21 : PySem.W.nsIn K mainGlobals "_law_either" = some (some (.ref f21))) (l21 : K.lookup f21 = some ⟨oc21, od21, .func (PySem.W.fnOf "_law_either" "_law_either" (defArgs sEither) (defBody sEither) (defScope sEither) .none kV21 dc21 pm21 an21 cd21 ct21), sl21⟩) (c21 : PySem.W.codeIn K cd21 "_law_either" = true) (k21 : PySem.W.keepIn K (.ref f21) = true)
    {f22 : Addr} {oc22 kV22 dc22 pm22 cd22 ct22 : Value} {od22 an22 : Option Addr} {sl22 : Array (Option Value)}
    (a22 : PySem.W.nsIn K mainGlobals "_law_house" = some (some (.ref f22))) (l22 : K.lookup f22 = some ⟨oc22, od22, .func (PySem.W.fnOf "_law_house" "_law_house" (defArgs sHouse) (defBody sHouse) (defScope sHouse) .none kV22 dc22 pm22 an22 cd22 ct22), sl22⟩) (c22 : PySem.W.codeIn K cd22 "_law_house" = true) (k22 : PySem.W.keepIn K (.ref f22) = true)
    {f23 : Addr} {oc23 kV23 dc23 pm23 cd23 ct23 : Value} {od23 an23 : Option Addr} {sl23 : Array (Option Value)}
    (a23 : PySem.W.nsIn K mainGlobals "_law_stranger" = some (some (.ref f23))) (l23 : K.lookup f23 = some ⟨oc23, od23, .func (PySem.W.fnOf "_law_stranger" "_law_stranger" (defArgs sStranger) (defBody sStranger) (defScope sStranger) .none kV23 dc23 pm23 an23 cd23 ct23), sl23⟩) (c23 : PySem.W.codeIn K cd23 "_law_stranger" = true) (k23 : PySem.W.keepIn K (.ref f23) = true)
    {f24 : Addr} {oc24 kV24 dc24 pm24 cd24 ct24 : Value} {od24 an24 : Option Addr} {sl24 : Array (Option Value)}
    (a24 : PySem.W.findIn K (.ref c_House) "has_room" = some (some (.ref f24))) (i24 : PySem.W.isFn K (.ref f24) = true) (l24 : K.lookup f24 = some ⟨oc24, od24, .func (PySem.W.fnOf "has_room" "House.has_room" (defArgs sHouseHasRoom) (defBody sHouseHasRoom) (defScope sHouseHasRoom) .none kV24 dc24 pm24 an24 cd24 ct24), sl24⟩) (c24 : PySem.W.codeIn K cd24 "House.has_room" = true) (k24 : PySem.W.keepIn K (.ref f24) = true)
    {f25 : Addr} {oc25 kV25 dc25 pm25 cd25 ct25 : Value} {od25 an25 : Option Addr} {sl25 : Array (Option Value)}
    (a25 : PySem.W.findIn K (.ref c_House) "has_door" = some (some (.ref f25))) (i25 : PySem.W.isFn K (.ref f25) = true) (l25 : K.lookup f25 = some ⟨oc25, od25, .func (PySem.W.fnOf "has_door" "House.has_door" (defArgs sHouseHasDoor) (defBody sHouseHasDoor) (defScope sHouseHasDoor) .none kV25 dc25 pm25 an25 cd25 ct25), sl25⟩) (c25 : PySem.W.codeIn K cd25 "House.has_door" = true) (k25 : PySem.W.keepIn K (.ref f25) = true)
    {f26 : Addr} {oc26 kV26 dc26 pm26 cd26 ct26 : Value} {od26 an26 : Option Addr} {sl26 : Array (Option Value)}
    (a26 : PySem.W.nsIn K mainGlobals "is_walk" = some (some (.ref f26))) (l26 : K.lookup f26 = some ⟨oc26, od26, .func (PySem.W.fnOf "is_walk" "is_walk" (defArgs sIsWalk) (defBody sIsWalk) (defScope sIsWalk) .none kV26 dc26 pm26 an26 cd26 ct26), sl26⟩) (c26 : PySem.W.codeIn K cd26 "is_walk" = true) (k26 : PySem.W.keepIn K (.ref f26) = true)
    {f27 : Addr} {oc27 kV27 dc27 pm27 cd27 ct27 : Value} {od27 an27 : Option Addr} {sl27 : Array (Option Value)}
    (a27 : PySem.W.nsIn K mainGlobals "turned" = some (some (.ref f27))) (l27 : K.lookup f27 = some ⟨oc27, od27, .func (PySem.W.fnOf "turned" "turned" (defArgs sTurned) (defBody sTurned) (defScope sTurned) .none kV27 dc27 pm27 an27 cd27 ct27), sl27⟩) (c27 : PySem.W.codeIn K cd27 "turned" = true) (k27 : PySem.W.keepIn K (.ref f27) = true)
    {f28 : Addr} {oc28 kV28 dc28 pm28 cd28 ct28 : Value} {od28 an28 : Option Addr} {sl28 : Array (Option Value)}
    (a28 : PySem.W.nsIn K mainGlobals "_law_is_walk" = some (some (.ref f28))) (l28 : K.lookup f28 = some ⟨oc28, od28, .func (PySem.W.fnOf "_law_is_walk" "_law_is_walk" (defArgs sLisWalk) (defBody sLisWalk) (defScope sLisWalk) .none kV28 dc28 pm28 an28 cd28 ct28), sl28⟩) (c28 : PySem.W.codeIn K cd28 "_law_is_walk" = true) (k28 : PySem.W.keepIn K (.ref f28) = true)
    {f29 : Addr} {oc29 kV29 dc29 pm29 cd29 ct29 : Value} {od29 an29 : Option Addr} {sl29 : Array (Option Value)}
    (a29 : PySem.W.nsIn K mainGlobals "_law_bent" = some (some (.ref f29))) (l29 : K.lookup f29 = some ⟨oc29, od29, .func (PySem.W.fnOf "_law_bent" "_law_bent" (defArgs sBent) (defBody sBent) (defScope sBent) .none kV29 dc29 pm29 an29 cd29 ct29), sl29⟩) (c29 : PySem.W.codeIn K cd29 "_law_bent" = true) (k29 : PySem.W.keepIn K (.ref f29) = true)
    {f30 : Addr} {oc30 kV30 dc30 pm30 cd30 ct30 : Value} {od30 an30 : Option Addr} {sl30 : Array (Option Value)}
    (a30 : PySem.W.nsIn K mainGlobals "law" = some (some (.ref f30))) (l30 : K.lookup f30 = some ⟨oc30, od30, .func (PySem.W.fnOf "law" "law" (defArgs sLaw) (defBody sLaw) (defScope sLaw) .none kV30 dc30 pm30 an30 cd30 ct30), sl30⟩) (c30 : PySem.W.codeIn K cd30 "law" = true) (k30 : PySem.W.keepIn K (.ref f30) = true)
    {tkL : Tok} (gc_LETTERS : PySem.W.nsIn K mainGlobals "LETTERS" = some (some (.str "abcdefghijklmnopqrstuvwxyz" tkL))) {tkN : Tok} (gc_LONGEST : PySem.W.nsIn K mainGlobals "LONGEST" = some (some (.int 8 tkN)))
    (z_enumerate : PySem.W.nsIn K mainGlobals "enumerate" = some none) (z_len : PySem.W.nsIn K mainGlobals "len" = some none) (z_range : PySem.W.nsIn K mainGlobals "range" = some none) (z_list_ : PySem.W.nsIn K mainGlobals "list" = some none) (z_tuple_ : PySem.W.nsIn K mainGlobals "tuple" = some none) (z_abs : PySem.W.nsIn K mainGlobals "abs" = some none) (z_max : PySem.W.nsIn K mainGlobals "max" = some none) (z_min : PySem.W.nsIn K mainGlobals "min" = some none) (z_sorted : PySem.W.nsIn K mainGlobals "sorted" = some none) (z_isinstance : PySem.W.nsIn K mainGlobals "isinstance" = some none) (z_int_ : PySem.W.nsIn K mainGlobals "int" = some none) (z_ValueError_ : PySem.W.nsIn K mainGlobals "ValueError" = some none) (z_bool_ : PySem.W.nsIn K mainGlobals "bool" = some none) (z_str_ : PySem.W.nsIn K mainGlobals "str" = some none) (z_dict_ : PySem.W.nsIn K mainGlobals "dict" = some none) (z_repr : PySem.W.nsIn K mainGlobals "repr" = some none) (z_zip : PySem.W.nsIn K mainGlobals "zip" = some none) (z_any : PySem.W.nsIn K mainGlobals "any" = some none) (z_all : PySem.W.nsIn K mainGlobals "all" = some none) (z_sum : PySem.W.nsIn K mainGlobals "sum" = some none) (z_set_ : PySem.W.nsIn K mainGlobals "set" = some none) :
    ∃ fd : FuncData, (∀ (s : Shared) (v : Value), BindsTo s fd ⟨[v], []⟩ [("_law_script", v)]) ∧ ∀ base : Heap, K.In base → base.Ns mainGlobals mg → FnG l.prog w K mg base CX0 9 fa fd ["_law_script"] (spLaw K) := by
  have e := hfa.symm.trans (PySem.W.mg_of X G a30)
  cases e
  have M : Mgs mg := ⟨PySem.W.mg_none_of X G z_enumerate, PySem.W.mg_none_of X G z_len, PySem.W.mg_none_of X G z_range, PySem.W.mg_none_of X G z_list_, PySem.W.mg_none_of X G z_tuple_, PySem.W.mg_none_of X G z_abs, PySem.W.mg_none_of X G z_max, PySem.W.mg_none_of X G z_min, PySem.W.mg_none_of X G z_sorted, PySem.W.mg_none_of X G z_isinstance, PySem.W.mg_none_of X G z_int_, PySem.W.mg_none_of X G z_ValueError_, PySem.W.mg_none_of X G z_bool_, PySem.W.mg_none_of X G z_str_, PySem.W.mg_none_of X G z_dict_, PySem.W.mg_none_of X G z_repr, PySem.W.mg_none_of X G z_zip, PySem.W.mg_none_of X G z_any, PySem.W.mg_none_of X G z_all, PySem.W.mg_none_of X G z_sum, PySem.W.mg_none_of X G z_set_⟩
  have Z_House : HouseC K mg c_House := ⟨PySem.W.mg_of X G gc_House, ⟨pg_House, hd_House, po_House, sa_House⟩, n1_House, n2_House, n3_House⟩
  have c_LETTERS := PySem.W.mg_of X G gc_LETTERS
  have c_LONGEST := PySem.W.mg_of X G gc_LONGEST
  refine ⟨PySem.W.fnOf "law" "law" (defArgs sLaw) (defBody sLaw) (defScope sLaw) .none kV30 dc30 pm30 an30 cd30 ct30, fun s v => .of_eq rfl, fun base _ _ => ?_⟩
  have D_draw : DDraw l.prog w K mg base := df_of X G a0 l0 c0 k0 (fun _ _ _ _ _ _ us hl => match us, hl with | [_, _], _ => rfl) (fun F => ok_Draw F M)
  have D_pick : DPick l.prog w K mg base := df_of X G a1 l1 c1 k1 (fun _ _ _ _ _ _ us hl => match us, hl with | [_, _], _ => rfl) (fun F => ok_Pick F M D_draw)
  have D_pen : DPen l.prog w K mg base := df_of X G a2 l2 c2 k2 (fun _ _ _ _ _ _ us hl => match us, hl with | [_], _ => rfl) (fun F => ok_Pen F M)
  have D_names : DNames l.prog w K mg base := df_of X G a3 l3 c3 k3 (fun _ _ _ _ _ _ us hl => match us, hl with | [_, _], _ => rfl) (fun F => ok_Names F M D_draw D_pick)
  have D_near : DNear l.prog w K mg base := df_of X G a4 l4 c4 k4 (fun _ _ _ _ _ _ us hl => match us, hl with | [_, _], _ => rfl) (fun F => ok_Near F M)
  have D_may_door : DMayDoor l.prog w K mg base := df_of X G a5 l5 c5 k5 (fun _ _ _ _ _ _ us hl => match us, hl with | [_, _, _], _ => rfl) (fun F => ok_MayDoor F M D_near)
  have D_drawn_pairs : DDrawnPairs l.prog w K mg base := df_of X G a6 l6 c6 k6 (fun _ _ _ _ _ _ us hl => match us, hl with | [_, _, _], _ => rfl) (fun F => ok_DrawnPairs F M D_draw)
  have D_with_doors : DWithDoors l.prog w K mg base := df_of X G a7 l7 c7 k7 (fun _ _ _ _ _ _ us hl => match us, hl with | [_, _], _ => rfl) (fun F => ok_WithDoors F M D_may_door)
  have D_yard : DYard l.prog w K mg base := df_of X G a8 l8 c8 k8 (fun _ _ _ _ _ _ us hl => match us, hl with | [_, _], _ => rfl) (fun F => ok_Yard F M D_draw D_names D_drawn_pairs D_with_doors)
  have D_strolled : DStrolled l.prog w K mg base := df_of X G a9 l9 c9 k9 (fun _ _ _ _ _ _ us hl => match us, hl with | [_, _, _, _], _ => rfl) (fun F => ok_Strolled F M D_near D_pick)
  have D_is_name : DIsName l.prog w K mg base := df_of X G a10 l10 c10 k10 (fun _ _ _ _ _ _ us hl => match us, hl with | [_], _ => rfl) (fun F => ok_IsName F M c_LETTERS c_LONGEST)
  have D_wrong_names : DWrongNames l.prog w K mg base := df_of X G a11 l11 c11 k11 (fun _ _ _ _ _ _ us hl => match us, hl with | [_], _ => rfl) (fun F => ok_WrongNames F M D_is_name)
  have D_rising_pair : DRisingPair l.prog w K mg base := df_of X G a12 l12 c12 k12 (fun _ _ _ _ _ _ us hl => match us, hl with | [_], _ => rfl) (fun F => ok_RisingPair F M)
  have D_is_pair : DIsPair l.prog w K mg base := df_of X G a13 l13 c13 k13 (fun _ _ _ _ _ _ us hl => match us, hl with | [_, _], _ => rfl) (fun F => ok_IsPair F M)
  have D_wrong_pairs : DWrongPairs l.prog w K mg base := df_of X G a14 l14 c14 k14 (fun _ _ _ _ _ _ us hl => match us, hl with | [_, _], _ => rfl) (fun F => ok_WrongPairs F M D_is_pair D_rising_pair)
  have D_rising_pairs : DRisingPairs l.prog w K mg base := df_of X G a15 l15 c15 k15 (fun _ _ _ _ _ _ us hl => match us, hl with | [_], _ => rfl) (fun F => ok_RisingPairs F M D_rising_pair)
  have D_neighbours : DNeighbours l.prog w K mg base := df_of X G a16 l16 c16 k16 (fun _ _ _ _ _ _ us hl => match us, hl with | [_, _], _ => rfl) (fun F => ok_Neighbours F M)
  have D_House_refuse_three : DHouseRefuseThree l.prog w K mg base c_House := dm_of a17 i17 l17 c17 k17 (fun _ _ _ _ _ _ us hl => match us, hl with | [_], _ => rfl) (fun F => ok_HouseRefuseThree F M Z_House)
  have D_House_init : DHouseInit l.prog w K mg base c_House := dk_of (PySem.W.mg_of X G gc_House) mi_House kc_House a18 i18 l18 c18 k18 (fun _ _ _ _ _ _ us hl => match us, hl with | [_, _, _], _ => rfl) (fun F => ok_HouseInit F M Z_House D_wrong_names D_wrong_pairs D_rising_pairs D_neighbours D_House_refuse_three)
  have D_shuffled : DShuffled l.prog w K mg base := df_of X G a19 l19 c19 k19 (fun _ _ _ _ _ _ us hl => match us, hl with | [_, _], _ => rfl) (fun F => ok_Shuffled F M D_draw)
  have D_handed : DHanded l.prog w K mg base := df_of X G a20 l20 c20 k20 (fun _ _ _ _ _ _ us hl => match us, hl with | [_, _], _ => rfl) (fun F => ok_Handed F M D_shuffled D_draw)
  have D_either : DEither l.prog w K mg base := df_of X G a21 l21 c21 k21 (fun _ _ _ _ _ _ us hl => match us, hl with | [_, _], _ => rfl) (fun F => ok_Either F M D_shuffled D_draw)
  have D_house : DHouse l.prog w K mg base c_House := df_of X G a22 l22 c22 k22 (fun _ _ _ _ _ _ us hl => match us, hl with | [_, _], _ => rfl) (fun F => ok_House F M Z_House D_House_init D_handed D_either)
  have D_stranger : DStranger l.prog w K mg base := df_of X G a23 l23 c23 k23 (fun _ _ _ _ _ _ us hl => match us, hl with | [_], _ => rfl) (fun F => ok_Stranger F M)
  have D_House_has_room : DHouseHasRoom l.prog w K mg base c_House := dm_of a24 i24 l24 c24 k24 (fun _ _ _ _ _ _ us hl => match us, hl with | [_, _], _ => rfl) (fun F => ok_HouseHasRoom F M Z_House)
  have D_House_has_door : DHouseHasDoor l.prog w K mg base c_House := dm_of a25 i25 l25 c25 k25 (fun _ _ _ _ _ _ us hl => match us, hl with | [_, _, _], _ => rfl) (fun F => ok_HouseHasDoor F M Z_House)
  have D_is_walk : DIsWalk l.prog w K mg base c_House := df_of X G a26 l26 c26 k26 (fun _ _ _ _ _ _ us hl => match us, hl with | [_, _], _ => rfl) (fun F => ok_IsWalk F M Z_House D_House_has_room D_House_has_door)
  have D_turned : DTurned l.prog w K mg base := df_of X G a27 l27 c27 k27 (fun _ _ _ _ _ _ us hl => match us, hl with | [_], _ => rfl) (fun F => ok_Turned F M)
  have D_lis_walk : DLisWalk l.prog w K mg base := df_of X G a28 l28 c28 k28 (fun _ _ _ _ _ _ us hl => match us, hl with | [_, _], _ => rfl) (fun F => ok_LisWalk F M D_near)
  have D_bent : DBent l.prog w K mg base := df_of X G a29 l29 c29 k29 (fun _ _ _ _ _ _ us hl => match us, hl with | [_, _, _], _ => rfl) (fun F => ok_Bent F M D_draw D_pick D_stranger)
  exact ok_Law (fun_mk l30 c30 k30) M Z_House D_pen D_draw D_pick D_yard D_house D_strolled D_is_walk D_turned D_bent D_lis_walk
end
end TT
open PySem PySem.W PyProof.Rows
set_option maxHeartbeats 0 in
theorem PySem.Challenge.cw_tautropes_k04_walks_or_not_holds : PySem.Challenge.rw_tautropes_k04_walks_or_not.Holds := by
  w_on; o_law; k_head; (case hw => w_witness2)
  k_fill
  refine TT.walk_ofG (l := PySem.Challenge.rw_tautropes_k04_walks_or_not) (n := 63) (k := 9) (x := "_law_script") (CX := fun _ => L2.CX0) (sp := fun w => TT.spLaw _) rfl (by decide) rfl ⟨rfl, by decide, by decide⟩ (fun w h Y => PySem.W.kIn_of Y) ?F (fun _ _ a ns hl _ hS => TT.law_hsp (by decide) hl hS) (fun _ _ _ _ _ h => h)
  case F =>
    intro w mg fa h KX G hmg
    refine' TT.all_mk KX G hmg ?gc_House ?pg_House ?hd_House ?po_House ?sa_House ?mi_House ?kc_House ?n1_House ?n2_House ?n3_House ?a0 ?l0 ?c0 ?k0 ?a1 ?l1 ?c1 ?k1 ?a2 ?l2 ?c2 ?k2 ?a3 ?l3 ?c3 ?k3 ?a4 ?l4 ?c4 ?k4 ?a5 ?l5 ?c5 ?k5 ?a6 ?l6 ?c6 ?k6 ?a7 ?l7 ?c7 ?k7 ?a8 ?l8 ?c8 ?k8 ?a9 ?l9 ?c9 ?k9 ?a10 ?l10 ?c10 ?k10 ?a11 ?l11 ?c11 ?k11 ?a12 ?l12 ?c12 ?k12 ?a13 ?l13 ?c13 ?k13 ?a14 ?l14 ?c14 ?k14 ?a15 ?l15 ?c15 ?k15 ?a16 ?l16 ?c16 ?k16 ?a17 ?i17 ?l17 ?c17 ?k17 ?a18 ?i18 ?l18 ?c18 ?k18 ?a19 ?l19 ?c19 ?k19 ?a20 ?l20 ?c20 ?k20 ?a21 ?l21 ?c21 ?k21 ?a22 ?l22 ?c22 ?k22 ?a23 ?l23 ?c23 ?k23 ?a24 ?i24 ?l24 ?c24 ?k24 ?a25 ?i25 ?l25 ?c25 ?k25 ?a26 ?l26 ?c26 ?k26 ?a27 ?l27 ?c27 ?k27 ?a28 ?l28 ?c28 ?k28 ?a29 ?l29 ?c29 ?k29 ?a30 ?l30 ?c30 ?k30 ?gc_LETTERS ?gc_LONGEST ?z_enumerate ?z_len ?z_range ?z_list_ ?z_tuple_ ?z_abs ?z_max ?z_min ?z_sorted ?z_isinstance ?z_int_ ?z_ValueError_ ?z_bool_ ?z_str_ ?z_dict_ ?z_repr ?z_zip ?z_any ?z_all ?z_sum ?z_set_
    (case gc_House => k_is)
    (case pg_House => k_is)
    (case hd_House => k_is)
    (case po_House => k_is)
    (case sa_House => k_is)
    (case mi_House => k_is)
    (case kc_House => k_is)
    (case n1_House => k_is)
    (case n2_House => k_is)
    (case n3_House => k_is)
    (case a0 => k_is)
    (case l0 => k_is)
    (case c0 => k_is)
    (case k0 => k_is)
    (case a1 => k_is)
    (case l1 => k_is)
    (case c1 => k_is)
    (case k1 => k_is)
    (case a2 => k_is)
    (case l2 => k_is)
    (case c2 => k_is)
    (case k2 => k_is)
    (case a3 => k_is)
    (case l3 => k_is)
    (case c3 => k_is)
    (case k3 => k_is)
    (case a4 => k_is)
    (case l4 => k_is)
    (case c4 => k_is)
    (case k4 => k_is)
    (case a5 => k_is)
    (case l5 => k_is)
    (case c5 => k_is)
    (case k5 => k_is)
    (case a6 => k_is)
    (case l6 => k_is)
    (case c6 => k_is)
    (case k6 => k_is)
    (case a7 => k_is)
    (case l7 => k_is)
    (case c7 => k_is)
    (case k7 => k_is)
    (case a8 => k_is)
    (case l8 => k_is)
    (case c8 => k_is)
    (case k8 => k_is)
    (case a9 => k_is)
    (case l9 => k_is)
    (case c9 => k_is)
    (case k9 => k_is)
    (case a10 => k_is)
    (case l10 => k_is)
    (case c10 => k_is)
    (case k10 => k_is)
    (case a11 => k_is)
    (case l11 => k_is)
    (case c11 => k_is)
    (case k11 => k_is)
    (case a12 => k_is)
    (case l12 => k_is)
    (case c12 => k_is)
    (case k12 => k_is)
    (case a13 => k_is)
    (case l13 => k_is)
    (case c13 => k_is)
    (case k13 => k_is)
    (case a14 => k_is)
    (case l14 => k_is)
    (case c14 => k_is)
    (case k14 => k_is)
    (case a15 => k_is)
    (case l15 => k_is)
    (case c15 => k_is)
    (case k15 => k_is)
    (case a16 => k_is)
    (case l16 => k_is)
    (case c16 => k_is)
    (case k16 => k_is)
    (case a17 => k_is)
    (case i17 => k_is)
    (case l17 => k_is)
    (case c17 => k_is)
    (case k17 => k_is)
    (case a18 => k_is)
    (case i18 => k_is)
    (case l18 => k_is)
    (case c18 => k_is)
    (case k18 => k_is)
    (case a19 => k_is)
    (case l19 => k_is)
    (case c19 => k_is)
    (case k19 => k_is)
    (case a20 => k_is)
    (case l20 => k_is)
    (case c20 => k_is)
    (case k20 => k_is)
    (case a21 => k_is)
    (case l21 => k_is)
    (case c21 => k_is)
    (case k21 => k_is)
    (case a22 => k_is)
    (case l22 => k_is)
    (case c22 => k_is)
    (case k22 => k_is)
    (case a23 => k_is)
    (case l23 => k_is)
    (case c23 => k_is)
    (case k23 => k_is)
    (case a24 => k_is)
    (case i24 => k_is)
    (case l24 => k_is)
    (case c24 => k_is)
    (case k24 => k_is)
    (case a25 => k_is)
    (case i25 => k_is)
    (case l25 => k_is)
    (case c25 => k_is)
    (case k25 => k_is)
    (case a26 => k_is)
    (case l26 => k_is)
    (case c26 => k_is)
    (case k26 => k_is)
    (case a27 => k_is)
    (case l27 => k_is)
    (case c27 => k_is)
    (case k27 => k_is)
    (case a28 => k_is)
    (case l28 => k_is)
    (case c28 => k_is)
    (case k28 => k_is)
    (case a29 => k_is)
    (case l29 => k_is)
    (case c29 => k_is)
    (case k29 => k_is)
    (case a30 => k_is)
    (case l30 => k_is)
    (case c30 => k_is)
    (case k30 => k_is)
    (case gc_LETTERS => k_is)
    (case gc_LONGEST => k_is)
    (case z_enumerate => k_is)
    (case z_len => k_is)
    (case z_range => k_is)
    (case z_list_ => k_is)
    (case z_tuple_ => k_is)
    (case z_abs => k_is)
    (case z_max => k_is)
    (case z_min => k_is)
    (case z_sorted => k_is)
    (case z_isinstance => k_is)
    (case z_int_ => k_is)
    (case z_ValueError_ => k_is)
    (case z_bool_ => k_is)
    (case z_str_ => k_is)
    (case z_dict_ => k_is)
    (case z_repr => k_is)
    (case z_zip => k_is)
    (case z_any => k_is)
    (case z_all => k_is)
    (case z_sum => k_is)
    (case z_set_ => k_is)
