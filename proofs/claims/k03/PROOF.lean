import PyProof.Rows.All
import Wide.All
import OpenK.AllK
import Wide.FinOn
import HandS.ForMost
import HandS.More
import HandS.Flow
import HandS.Style
import HandS.TupAny
import HandS.TupMul
import HandS.Deep
import HandS.IsInst
import HandS.Strs
import HandS.Walk
import HandS.Exc
import HandS.ExcOwn
import HandS.TryOnly
import HandS.WordsExc
import HandS.ExcIs
import HandS.TryMany
import HandS.Ends
import KE.DataMinMax
import HandS.RaiseMore
import HandS.SetKeys
import HandS.TupSets
import KE.KSortTupG
import HandS.DictComp
import KE.KDictSum
import HandS.ExcValue
import PySem.Challenge.RW_tautropes_k03_parts_and_steps
set_option Elab.async false
set_option linter.all false
set_option maxRecDepth 100000
set_option maxHeartbeats 4000000
namespace TT
open PySem PySem.Spec PyProof.Rows L2
/-! own layer over HandS: what is known, steps, a def by its promise -/

/-! ### a def by its promise -/
def Df (P : Program) (w : World) (K : PySem.W.Frag) (mg : Str → Option Value) (base : Heap) (CX : CXT) (k : Nat) (x : Str) (ps : List Str) (sp : Sp) : Prop :=
  ∃ f fd, FnOk P w K mg base CX k f fd ps sp ∧ mg x = some (.ref f) ∧ PySem.W.keepIn K (.ref f) = true ∧ Binds K fd ps []
section
variable {X : Cx} {CX : CXT} {k k' : Nat} {ps : List Str} {sp : Sp} {E : XK} {x : Str} {p pos : Pos} {e : Expr} {es : List Expr} {t : TA}
theorem pe_df (F : Df X.prog X.w X.K X.mg X.base CX k x ps sp) (hr : Room k' X.A) (hg : Gl X x) (hx : Passes CX X E) (ha : PA X (e :: es) t) (hk : k ≤ k' := by decide)
    (hdb : (x == ("__debug__" : Str)) = false := by decide) (he : starEach (e :: es) X.env = (false, eval e X.env) :: starEach es X.env := by rfl) (hpl : (backTo pos (starEach es X.env)).any (·.1) = false := by rfl) :
    PE X (.Call (.Name x p) (e :: es) [] pos) (tCall sp [] E t) := by
  obtain ⟨f, fd, F, hm, hkp, hb⟩ := F
  exact pe_call F (hr.mono hk) hg hm hkp hb .nil hx ha hdb he hpl
end

/-! ### what is known -/
/-- M: what may be changed; G is known of H, G' of H' -/
structure Stp (M : Addr → Prop) (G H G' H' : Hp) : Prop where
  up : ∀ a o, ¬ M a → H a = some o → H' a = some o
  gg : Same G G'
  gh : Same G' H'
  fr : ∀ a o, H a = some o → G' a = G a
  th : ∀ a o, H a = some o → ∃ o', H' a = some o'
abbrev M0 : Addr → Prop := fun _ => False
abbrev M1 (p : Addr) : Addr → Prop := fun a => a = p
section
variable {M : Addr → Prop} {G H G' H' G1 H1 : Hp} {a p r o : Addr} {x u : HO}
theorem Stp.refl (h : Same G H) : Stp M G H G H := ⟨fun _ _ _ e => e, Same.refl G, h, fun _ _ _ => rfl, fun _ o e => ⟨o, e⟩⟩
theorem Stp.trans (s : Stp M G H G1 H1) (t : Stp M G1 H1 G' H') : Stp M G H G' H' :=
  ⟨fun a o n e => t.up a o n (s.up a o n e), s.gg.trans t.gg, t.gh, fun a o e => by
    obtain ⟨o', e'⟩ := s.th a o e
    exact (t.fr a o' e').trans (s.fr a o e), fun a o e => by
    obtain ⟨o', e'⟩ := s.th a o e
    exact t.th a o' e'⟩
theorem Stp.weak (s : Stp M0 G H G' H') : Stp M G H G' H' := ⟨fun a o _ e => s.up a o (fun z => z) e, s.gg, s.gh, s.fr, s.th⟩
/-- then a step that changes M1 alone, all of M1 being new since the first -/
theorem Stp.inner {M' : Addr → Prop} (s : Stp M G H G1 H1) (t : Stp M' G1 H1 G' H') (h : ∀ a, M' a → M a ∨ H a = none) : Stp M G H G' H' := by
  refine ⟨fun a o n e => ?_, s.gg.trans t.gg, t.gh, fun a o e => ?_, fun a o e => ?_⟩
  · refine t.up a o (fun z => ?_) (s.up a o n e)
    rcases h a z with q | q
    · exact n q
    · rw [e] at q
      cases q
  · obtain ⟨o', e'⟩ := s.th a o e
    exact (t.fr a o' e').trans (s.fr a o e)
  · obtain ⟨o', e'⟩ := s.th a o e
    exact t.th a o' e'
theorem none_of (h : Same G H) (e : H a = none) : G a = none := h.free e
theorem Stp.free (s : Stp M G H G' H') (e : H' a = none) : H a = none := by
  cases q : H a with
  | none => rfl
  | some o => obtain ⟨o', z⟩ := s.th a o q; rw [e] at z; cases z
theorem same_new {H : Hp} (h : H p = none) : Same H (upd H p x) := fun b o e => by
  rw [upd_ne (ne_of_none e h)]; exact e
/-- a new object, known -/
theorem Stp.new (h : Same G H) (n : H r = none) : Stp M G H (upd G r x) (upd H r x) :=
  ⟨fun a o _ e => same_new n a o e, same_new (none_of h n), fun a o e => by
    by_cases z : a = r
    · subst z; rw [upd_same] at e ⊢; exact e
    · rw [upd_ne z] at e ⊢; exact h a o e, fun a o e => by rw [upd_ne (ne_of_none e n)], fun a o e => ⟨o, same_new n a o e⟩⟩
/-- a new object that will change -/
theorem Stp.newM (h : Same G H) (n : H r = none) : Stp M G H G (upd H r x) :=
  ⟨fun a o _ e => same_new n a o e, Same.refl G, h.trans (same_new n), fun _ _ _ => rfl, fun a o e => ⟨o, same_new n a o e⟩⟩
/-- what is not known changes -/
theorem Stp.mut (h : Same G H) (e : H r = some u) (g : G r = none) (m : M r) : Stp M G H G (upd H r x) :=
  ⟨fun a o n z => by
    rw [upd_ne (fun q => n (by rw [q]; exact m))]; exact z, Same.refl G, fun a o z => by
    rw [upd_ne (ne_of_none z g)]; exact h a o z, fun _ _ _ => rfl, fun a o z => by
    by_cases q : a = r
    · subst q; exact ⟨x, upd_same⟩
    · exact ⟨o, by rw [upd_ne q]; exact z⟩⟩
/-- from now on it is known -/
theorem Stp.freeze (s : Stp M G H G' H') (e : H' r = some x) (n : H r = none) (g : G' r = none) : Stp M G H (upd G' r x) H' :=
  ⟨s.up, s.gg.trans (same_new g), fun a o z => by
    by_cases q : a = r
    · subst q; rw [upd_same] at z; rw [e]; exact z
    · rw [upd_ne q] at z; exact s.gh a o z, fun a o z => by rw [upd_ne (ne_of_none z n)]; exact s.fr a o z, s.th⟩
end
theorem Same.sqt {K : PySem.W.Frag} {H H' : Hp} {a : Addr} {xs : List V} (e : Same H H') (h : SqT K H a xs) : SqT K H' a xs := by
  rcases h with (h | ⟨o, h⟩) | h
  · exact .inl (.inl (e _ _ h))
  · exact .inl (.inr ⟨o, e _ _ h⟩)
  · exact .inr h
mutual
theorem Same.dp {K : PySem.W.Frag} {H H' : Hp} (e : Same H H') : ∀ {v : V} {d : PyData}, Dp K H v d → Dp K H' v d
  | _, _, .non => .non
  | _, _, .bl b => .bl b
  | _, _, .int i => .int i
  | _, _, .str x => .str x
  | _, _, .lst s a => .lst (e.seq s) (Same.dps e a)
  | _, _, .tup s a => .tup (Same.sqt e s) (Same.dps e a)
theorem Same.dps {K : PySem.W.Frag} {H H' : Hp} (e : Same H H') : ∀ {vs : List V} {ds : List PyData}, DpAll K H vs ds → DpAll K H' vs ds
  | _, _, .nil => .nil
  | _, _, .cons h t => .cons (Same.dp e h) (Same.dps e t)
end
theorem lof {K : PySem.W.Frag} {H : Hp} {a : Addr} {xs : List V} (h : H a = some (.lst xs)) : SqL K H a xs := .inl (.inl h)
theorem tof {K : PySem.W.Frag} {H : Hp} {a : Addr} {xs : List V} (h : H a = some (.tup xs)) : SqT K H a xs := .inl (.inl h)

/-! ### t[::-1] -/
theorem places_rev (n : Nat) : Builtin.Slice.slicePlaces ((n : Int) - 1) (-1) (-1) = n := by
  unfold Builtin.Slice.slicePlaces
  have h1 : ¬ ((-1 : Int) > 0) := by decide
  simp only [h1, if_false]
  split
  · rw [show (- -1 : Int) = 1 by decide, Int.ediv_one]; omega
  · omega
theorem fm_congr {α β : Type} {f g : α → Option β} : ∀ {l : List α}, (∀ x ∈ l, f x = g x) → l.filterMap f = l.filterMap g
  | [], _ => rfl
  | x :: l, h => by
    rw [List.filterMap_cons, List.filterMap_cons, h x List.mem_cons_self, fm_congr fun y hy => h y (List.mem_cons_of_mem _ hy)]
theorem pick_rev (xs : Array Value) : ((List.range xs.size).filterMap fun (k : Nat) => xs[(((xs.size : Int) - 1) + (k : Int) * (-1)).toNat]?).toArray = xs.toList.reverse.toArray := by
  have e : (fun (k : Nat) => xs[(((xs.size : Int) - 1) + (k : Int) * (-1)).toNat]?) = fun (k : Nat) => xs[(((xs.size : Int) - 1) - (k : Int)).toNat]? := by
    funext k
    rw [Int.mul_neg_one, ← Int.sub_eq_add_neg]
  have h := PySem.W.krv_pick xs
  unfold slicePick at h
  rw [PySem.W.krv_bounds] at h
  have h2 : ((sliceRange ((xs.size : Int) - 1) (-1) (-1)).filterMap (xs[·]?)).toArray = xs.toList.reverse.toArray := h
  rw [PySem.W.krv_sliceRange, List.filterMap_map] at h2
  rw [e, ← h2]
  congr 1
  refine fm_congr fun k hk => ?_
  have hk' := List.mem_range.mp hk
  show xs[(((xs.size : Int) - 1) - (k : Int)).toNat]? = xs[xs.size - 1 - k]?
  congr 1
  omega
theorem getItem_tuple_rev {prog : Program} {w : World} {A : Around} {E : Value → Shared → Prop} {s : Shared} {t sl : Addr} {items : Array Value} {vk : Value} {Q : Value → Shared → Prop} (ht : IsTup s.heap t items) (hs : s.heap.IsSliceOf sl .none .none vk) (pk : IsPart vk (some (-1)))
    (h : Q (.ref s.heap.objs.size) { s with heap := s.heap.push { cls := .type "tuple", data := .seq items.toList.reverse.toArray } }) (hsz : items.size ≤ sizeLine) : wpAny (model prog w) A (getItem (.ref t) (.ref sl)) Q E s := by
  have htake : sizeOk (.seq items.toList.reverse.toArray) := by
    show items.toList.reverse.toArray.size ≤ sizeLine
    rw [List.size_toArray, List.length_reverse, Array.length_toList]
    exact hsz
  obtain ⟨os, hos, hcs, hds⟩ := id hs
  have hTs : s.TypeIs (.ref sl) "slice" := ⟨os, hos, hcs⟩
  unfold getItem
  try with_reducible refine wpAny_holding ?_
  first | refine wpAny_bind (wpAny_pure ?_) | skip
  refine wpAny_bind (wpAny_sequenceKey ht.typeIs (by decide) ?_)
  refine wpAny_bind (wpAny_callSpecial?_slot (name := Str.ofString "__getitem__") ht.typeIs PyProof.Rows.slot_tuple_getitem
    (wpAny_call_entry PyProof.Rows.slot_tuple_getitem ht.typeIs entry_tuple_getitem ?_ (args_tuple_getitem _ _)))
  show wpAny _ _ (Builtin.Tuple.tupleItemsOf (.ref t) >>= _) _ _ s
  refine wpAny_bind (tupleItemsOf_ ht ?_)
  refine wpAny_bind (wpAny_typeOf hTs ?_)
  rw [if_pos (by decide)]
  have happ : ∀ {A' : Around} {E' : Value → Shared → Prop} {Q' : Int × Int × Nat → Shared → Prop}, Q' ((items.size : Int) - 1, -1, items.size) s → wpAny (model prog w) A' (Builtin.Slice.sliceApplied (.ref sl) (pure (items.size : Int))) Q' E' s := by
    intro A' E' Q' hq
    unfold Builtin.Slice.sliceApplied Builtin.Slice.sliceFields
    refine wpAny_bind (wpAny_bind (wpAny_field hos hds (x := .none) rfl (wpAny_bind (wpAny_field hos hds (x := .none) rfl (wpAny_bind (wpAny_field hos hds (x := vk) rfl (wpAny_pure ?_)))))))
    refine wpAny_bind (HT.slicePart_ pk ?_)
    show wpAny _ _ (if ((-1 : Int) == 0) = true then _ else _) _ _ s
    rw [if_neg (by decide)]
    refine wpAny_bind (HT.slicePart_ .none (wpAny_bind (HT.slicePart_ .none (wpAny_bind (wpAny_pure ?_)))))
    show wpAny _ _ (pure ((items.size : Int) - 1, (-1 : Int), Builtin.Slice.slicePlaces ((items.size : Int) - 1) (-1) (-1))) _ _ s
    rw [places_rev]
    exact wpAny_pure hq
  refine wpAny_bind (happ ?_)
  have hno : ¬ ((((items.size : Int) - 1) == 0 && (-1 : Int) == 1 && items.size == items.size) = true) := by
    intro q
    rw [Bool.and_eq_true, Bool.and_eq_true] at q
    have q1 := q.1.2
    revert q1
    decide
  show wpAny _ _ (if (((items.size : Int) - 1) == 0 && (-1 : Int) == 1 && items.size == items.size) = true then _ else _) _ _ s
  rw [if_neg hno, pick_rev]
  first
    | exact wpAny_bind (m := Builtin.Tuple.tupleExact _) (wpAny_newObj_type (wpAny_pure ⟨_, rfl, wpAny_pure h⟩) htake)
    | exact wpAny_bind (m := Builtin.Tuple.tupleExact _) (wpAny_newObj_type (wpAny_bind (wpAny_pure (wpAny_pure ⟨_, rfl, wpAny_pure h⟩))) htake)
    | exact wpAny_bind (wpAny_bind (m := Builtin.Tuple.tupleExact _) (wpAny_newObj_type (wpAny_pure (wpAny_pure ⟨_, rfl, wpAny_pure h⟩)) htake))
    | exact wpAny_bind (wpAny_bind (m := Builtin.Tuple.tupleExact _) (wpAny_newObj_type (wpAny_pure ⟨_, rfl, wpAny_pure h⟩) htake))
def tRevT (K : PySem.W.Frag) (te : TE) : TE := fun σ H Q => te σ H fun x H1 => ∃ a xs, x = .ref a ∧ SqT K H1 a xs ∧ ∀ p, H1 p = none → Q (.ref p) (upd H1 p (.tup xs.reverse))
theorem pe_revT {X : Cx} {e : Expr} {te : TE} {k : Nat} {p1 p2 p3 pos : Pos} (he : PE X e te) : PE X (.Subscript e (.Slice none none (some (.UnaryOp .USub (.Constant (.int 1) k p1) p2)) p3) pos) (tRevT X.K te) := by
  refine ⟨fun pins s σ H Q I h => ?_⟩
  refine Subscript_ (thn (he.run pins s σ H _ I h) fun v s1 ⟨x, H1, I1, r1, q1⟩ => ?_)
  obtain ⟨a, xs, ex, hx, q⟩ := q1
  subst ex
  cases r1
  have hst : PO X (some (.UnaryOp .USub (.Constant (.int 1) k p1) p2)) (tPart (tUn (rU fun i => .int (-i)) (tC (.int 1)))) := po_some (pe_un un_neg pe_int)
  refine wpAny_Slice (thn (po_none.run pins s1 σ H1 (fun o H2 => o = none ∧ H2 = H1) I1 ⟨rfl, rfl⟩) fun vl s2 ⟨l, H2, I2, pl, el, e2⟩ => ?_)
  subst el e2
  refine thn (po_none.run pins s2 σ H2 (fun o H3 => o = none ∧ H3 = H2) I2 ⟨rfl, rfl⟩) fun vu s3 ⟨u, H3, I3, pu, eu, e3⟩ => ?_
  subst eu e3
  refine thn (hst.run pins s3 σ H3 (fun o H4 => o = some (-1) ∧ H4 = H3) I3 ⟨1, rfl, -1, rfl, rfl, rfl⟩) fun vs s4 ⟨o, H4, I4, ps, eo, e4⟩ => ?_
  subst eo e4
  have I5 : Inv X pins σ H4 { s4 with heap := s4.heap.push { cls := .type "slice", data := .fields #[vl, vu, vs] } } := I4.kept (t' := s4.toks) fun b ob q => Heap.get?_push_of_some _ q
  obtain ⟨its, r, ht, hz⟩ := I5.tuple hx
  have hlen := r.length
  show wpAny (model X.prog X.w) X.A (subscriptTail e (.Slice none none (some (.UnaryOp .USub (.Constant (.int 1) k p1) p2)) p3) (.ref a) (.ref s4.heap.objs.size)) (EP X pins σ Q) X.xe { s4 with heap := s4.heap.push { cls := .type "slice", data := .fields #[vl, vu, vs] } }
  cases pl
  cases pu
  refine tail_any (ops := [.ref a, .ref s4.heap.objs.size]) ht.typeIs (PyProof.Rows.slot_tuple_getitem.lookup) ?_ (by with_unfolding_all rfl)
  refine getItem_tuple_rev ht (Heap.IsSliceOf.new _ .none .none vs) ps ?_ (by rw [List.size_toArray, ← hlen]; exact hz)
  refine ⟨.ref _, _, I5.laid (t' := s4.toks) (o := .tup xs.reverse) (fun b ob q => Heap.get?_push_of_some _ q) (Nat.le_refl _) ?_, rfl, q _ (I5.hok.fresh (Nat.le_refl _))⟩
  exact ⟨by rw [List.length_reverse]; exact hz, _, r.reverse, IsTup.new _ _⟩
/-! readings, one construct at a time: what has to be shown, the rest last -/
section
variable {K : PySem.W.Frag} {σ : L2.St} {H : Hp} {Q : VK} {D : Ends} {v x y z : V} {ta tb tc te td ty tv : TE} {t u : TS} {a b : TT} {tr : TA} {i j k : Int} {n m : Nat} {p q r l : Addr} {xs ys : List V} {R : Bool → Hp → Prop} {RA : List V → Hp → Prop}
/-! statements -/
theorem r_seq (h : t { D with nx := u D } σ H) : tSeq t u D σ H := h
theorem r_next (h : D.nx σ H) : tNext D σ H := h
theorem r_asg {g : TG} (h : te σ H fun x H1 => g x σ H1 D.nx) : tAsg te g D σ H := h
theorem r_gname {N : L2.St → Hp → Prop} (h : N (σ.set n (some v)) H) : gName n v σ H N := h
theorem r_ret (h : te σ H D.rt) : tRet te D σ H := h
theorem r_drop (h : te σ H fun _ H1 => D.nx σ H1) : tDrop te D σ H := h
theorem r_if (h : a σ H fun b H1 => if b = true then t D σ H1 else u D σ H1) : tIfS a t u D σ H := h
theorem r_par (h : tr σ H fun vs H1 => ∃ v w, vs = [v, w] ∧ D.nx ((σ.set n (some v)).set m (some w)) H1) : tPar n m tr D σ H := h
theorem r_par' {P : V → V → Prop} (h : P x y) : ∃ v w, [x, y] = [v, w] ∧ P v w := ⟨x, y, rfl, h⟩
theorem r_par3 {o : Nat} (h : tr σ H fun vs H1 => ∃ u v w, vs = [u, v, w] ∧ D.nx (((σ.set n (some u)).set m (some v)).set o (some w)) H1) : tPar3 n m o tr D σ H := h
theorem r_par3' {P : V → V → V → Prop} (h : P x y z) : ∃ u v w, [x, y, z] = [u, v, w] ∧ P u v w := ⟨x, y, z, rfl, h⟩
theorem r_dput (h : tv σ H fun v H1 => td σ H1 fun x H2 => ty σ H2 fun y H3 => ∃ a H4, x = .ref a ∧ DPut H3 a y v H4 ∧ D.nx σ H4) : sDPut td ty tv D σ H := h
/-! expressions -/
theorem r_var (h : σ[n]? = some (some v)) (q : Q v H) : tVar n σ H Q := ⟨v, h, q⟩
theorem r_c (q : Q v H) : tC v σ H Q := q
theorem r_op {r : R2} (h : ta σ H fun x H1 => tb σ H1 fun y H2 => r x y H2 Q) : tOp r ta tb σ H Q := h
theorem r_un {r : V → Hp → VK → Prop} (h : ta σ H fun x H1 => r x H1 Q) : tUn r ta σ H Q := h
theorem r_cb {r : List V → Hp → VK → Prop} (h : tr σ H fun vs H1 => r vs H1 Q) : tCB r tr σ H Q := h
theorem r_call {sp : Sp} {E : XK} {dvs : List V} (h : tr σ H fun vs H1 => sp (vs ++ dvs) H1 Q E) : tCall sp dvs E tr σ H Q := h
theorem r_cons (h : ta σ H fun x H1 => tr σ H1 fun xs H2 => RA (x :: xs) H2) : tCons ta tr σ H RA := h
theorem r_nil (h : RA [] H) : tNil σ H RA := h
theorem r_tup (h : tr σ H fun xs H1 => xs.length ≤ sizeLine ∧ ∀ p, H1 p = none → Q (.ref p) (upd H1 p (.tup xs))) : tTup tr σ H Q := h
theorem r_lst (h : tr σ H fun xs H1 => xs.length ≤ sizeLine ∧ ∀ p, H1 p = none → Q (.ref p) (upd H1 p (.lst xs))) : tLst tr σ H Q := h
theorem r_ifx (h : a σ H fun c H1 => if c = true then ta σ H1 Q else tb σ H1 Q) : tIf a ta tb σ H Q := h
theorem r_sl {r : V → Option Int → Option Int → Hp → VK → Prop} {tl th : TO} (h : te σ H fun x H1 => tl σ H1 fun l H2 => th σ H2 fun u H3 => r x l u H3 Q) : tSl r te tl th σ H Q := h
theorem r_nopart {RO : Option Int → Hp → Prop} (h : RO none H) : tNoPart σ H RO := h
theorem r_part {RO : Option Int → Hp → Prop} (h : te σ H fun x H1 => ∃ i, x = .int i ∧ RO (some i) H1) : tPart te σ H RO := h
theorem r_int {P : Int → Prop} (h : P i) : ∃ j, V.int i = .int j ∧ P j := ⟨i, rfl, h⟩
theorem r_bool {P : Bool → Prop} {c : Bool} (h : P c) : ∃ k, V.bl c = .bl k ∧ P k := ⟨c, rfl, h⟩
theorem r_test (h : te σ H fun x H' => ∃ k, x = .bl k ∧ R k H') : tTest te σ H R := h
theorem r_tb (h : te σ H fun x H' => ∃ k, x = .bl k ∧ R k H') : tB te σ H R := h
theorem r_and (h : a σ H fun c H1 => if c = true then b σ H1 R else R false H1) : tAnd a b σ H R := h
theorem r_or (h : a σ H fun c H1 => if c = true then R true H1 else b σ H1 R) : tOr a b σ H R := h
theorem r_not (h : a σ H fun c H1 => R (!c) H1) : tNot a σ H R := h
theorem r_andv (h : ta σ H fun x H1 => ∃ c, x = .bl c ∧ if c = true then tb σ H1 Q else Q (.bl false) H1) : tAndV ta tb σ H Q := h
theorem r_orv (h : ta σ H fun x H1 => ∃ c, x = .bl c ∧ if c = true then Q (.bl true) H1 else tb σ H1 Q) : tOrV ta tb σ H Q := h
theorem r_notv (h : ta σ H fun x H1 => ∃ c, x = .bl c ∧ Q (.bl (!c)) H1) : tNotV ta σ H Q := h
theorem r_yes (h : R true H) : tYes σ H R := h
theorem r_dget (h : td σ H fun x H1 => ty σ H1 fun y H2 => ∃ a v, x = .ref a ∧ DGet H2 a y (some v) ∧ Q v H2) : tDGet td ty σ H Q := h
theorem r_dget' {P : V → Prop} (h : DGet H p y (some v)) (q : P v) : ∃ a v, V.ref p = .ref a ∧ DGet H a y (some v) ∧ P v := ⟨p, v, rfl, h, q⟩
theorem r_bm0 {T : String} {r : V → List V → Hp → VK → Prop} (h : te σ H fun x H1 => tyV K T x H1 ∧ r x [] H1 Q) : tBM0 K T r te σ H Q := h
theorem r_bm {T : String} {r : V → List V → Hp → VK → Prop} (h : te σ H fun x H1 => tyV K T x H1 ∧ tr σ H1 fun xs H2 => r x xs H2 Q) : tBM K T r te tr σ H Q := h
theorem r_revT (h : te σ H fun x H1 => ∃ a xs, x = .ref a ∧ SqT K H1 a xs ∧ ∀ p, H1 p = none → Q (.ref p) (upd H1 p (.tup xs.reverse))) : tRevT K te σ H Q := h
theorem r_gtup {N : L2.St → Hp → Prop} {g : TGs} (h : SqT K H p xs) (hl : xs.length = n) (q : g xs σ H N) : gTup K n g (.ref p) σ H N := ⟨p, xs, rfl, h, hl, q⟩
theorem r_gcons {N : L2.St → Hp → Prop} {g : TG} {gs : TGs} (h : g x σ H fun σ' H' => gs xs σ' H' N) : gCons g gs (x :: xs) σ H N := ⟨x, xs, rfl, h⟩
theorem r_gnil {N : L2.St → Hp → Prop} (h : N σ H) : gNil [] σ H N := ⟨rfl, h⟩
/-! operators -/
theorem r_I {C : Int → Int → Prop} {g : Int → Int → V} (c : C i j) (q : Q (g i j) H) : rI C g (.int i) (.int j) H Q := ⟨i, j, rfl, rfl, c, q⟩
theorem r_I0 {g : Int → Int → V} (q : Q (g i j) H) : rI0 g (.int i) (.int j) H Q := ⟨i, j, rfl, rfl, q⟩
theorem r_U {g : Int → V} (q : Q (g i) H) : rU g (.int i) H Q := ⟨i, rfl, q⟩
theorem r_eq (c : scal x y = true) (q : Q (.bl (decide (x = y))) H) : rEq x y H Q := ⟨c, q⟩
theorem r_ne (c : scal x y = true) (q : Q (.bl (!decide (x = y))) H) : rNe x y H Q := ⟨c, q⟩
theorem r_ixL (h : SqL K H p xs) (c : atI xs i = some v) (q : Q v H) : rIxL K (.ref p) (.int i) H Q := ⟨p, xs, i, v, rfl, rfl, h, c, q⟩
theorem r_ixT (h : SqT K H p xs) (c : atI xs i = some v) (q : Q v H) : rIxT K (.ref p) (.int i) H Q := ⟨p, xs, i, v, rfl, rfl, h, c, q⟩
end
/-! loops and comprehensions by one invariant -/
/-- what a for asks, once its iterator stands -/
def LoopJ (g : TG) (tb : TS) (D : Ends) (σ : L2.St) (J : It) (H : Hp) : Prop :=
  ∃ W : Nat → Nat → L2.St → Hp → Prop, (∃ m, W 0 m σ H) ∧ ∀ i m σ H, W i m σ H →
    (J.stop i H ∧ D.nx σ H) ∨ (J.go i H ∧ ∃ N : L2.St → Hp → Prop, (∀ σ' H', N σ' H' → ∃ m', m' < m ∧ W (i + 1) m' σ' H') ∧ ∀ x H', J.yld i H x H' → g x σ H' fun σ2 H2 => tb { D with nx := N, ct := N, bk := D.nx } σ2 H2)
/-- what a comprehension asks, once its iterator stands -/
def LcJ (g : TG) (tt : TT) (te : TE) (vs : List Nat) (σ : L2.St) (Q : VK) (J : It) (H1 : Hp) : Prop :=
  ∀ D, H1 D = none → ∃ W : Nat → Nat → Hp → Prop, (∃ m, W 0 m (upd H1 D (.lst []))) ∧ ∀ i m H, W i m H →
    (J.stop i H ∧ Q (.ref D) H) ∨ (J.go i H ∧ ∃ Nx : Hp → Prop, (∀ H', Nx H' → ∃ m', m' < m ∧ W (i + 1) m' H') ∧ ∀ x H', J.yld i H x H' → g x (wipe σ vs) H' fun σ2 H2 => wipe σ2 vs = wipe σ vs ∧ tt σ2 H2 fun b H3 =>
      if b = true then te σ2 H3 fun y H4 => ∃ acc, H4 D = some (.lst acc) ∧ acc.length < sizeLine ∧ Nx (upd H4 D (.lst (acc ++ [y]))) else Nx H3)
section
variable {K : PySem.W.Frag} {σ : L2.St} {G H : Hp} {Q : VK} {D : Ends} {te tl : TE} {tb : TS} {g : TG} {tt : TT} {tr : TA} {p : Addr} {xs : List V} {vs : List Nat} {lo hi : Int} {n : Nat}
theorem r_forT (h : tl σ H fun x H1 => ∃ a, x = .ref a ∧ (∃ xs, SqT K H1 a xs) ∧ LoopJ g tb D σ (Itt K a) H1) : tFor (iTup K tl) g tb D σ H := h
theorem r_forL (h : tl σ H fun x H1 => ∃ a, x = .ref a ∧ (∃ xs, SqL K H1 a xs) ∧ LoopJ g tb D σ (Itl K a) H1) : tFor (iList K tl) g tb D σ H := h
theorem r_forR1 (h : tr σ H fun vs H1 => ∃ j : Int, vs = [.int j] ∧ -(2 ^ 62) ≤ j ∧ j < 2 ^ 62 ∧ LoopJ g tb D σ (Itr 0 j.toNat) H1) : tFor (iRng1 tr) g tb D σ H := h
theorem r_forR2 (h : tr σ H fun vs H1 => ∃ i j : Int, vs = [.int i, .int j] ∧ (-(2 ^ 62) ≤ i ∧ i < 2 ^ 62 ∧ -(2 ^ 62) ≤ j ∧ j < 2 ^ 62) ∧ LoopJ g tb D σ (Itr i (j - i).toNat) H1) : tFor (iRng2 tr) g tb D σ H := h
theorem r_lcT (h : tl σ H fun x H1 => ∃ a, x = .ref a ∧ (∃ xs, SqT K H1 a xs) ∧ LcJ g tt te vs σ Q (Itt K a) H1) : tLc (iTup K tl) g tt te vs σ H Q := h
theorem r_lcL (h : tl σ H fun x H1 => ∃ a, x = .ref a ∧ (∃ xs, SqL K H1 a xs) ∧ LcJ g tt te vs σ Q (Itl K a) H1) : tLc (iList K tl) g tt te vs σ H Q := h
theorem r_lcR1 (h : tr σ H fun ws H1 => ∃ j : Int, ws = [.int j] ∧ -(2 ^ 62) ≤ j ∧ j < 2 ^ 62 ∧ LcJ g tt te vs σ Q (Itr 0 j.toNat) H1) : tLc (iRng1 tr) g tt te vs σ H Q := h
theorem r_lcR2 (h : tr σ H fun ws H1 => ∃ i j : Int, ws = [.int i, .int j] ∧ (-(2 ^ 62) ≤ i ∧ i < 2 ^ 62 ∧ -(2 ^ 62) ≤ j ∧ j < 2 ^ 62) ∧ LcJ g tt te vs σ Q (Itr i (j - i).toNat) H1) : tLc (iRng2 tr) g tt te vs σ H Q := h

theorem loop_it {J : It} {Gd : Hp → Prop} {Y : Nat → Hp → V → Hp → Prop} (w : Walk J n Gd Y) (Pv : Nat → L2.St → Hp → Prop) (h0 : Pv 0 σ H) (hG : ∀ i σ H, i ≤ n → Pv i σ H → Gd H)
    (hs : ∀ i x σ H H', i < n → Pv i σ H → Y i H x H' → g x σ H' fun σ2 H2 => tb { D with nx := Pv (i + 1), ct := Pv (i + 1), bk := D.nx } σ2 H2) (hd : ∀ σ H, Pv n σ H → D.nx σ H) : LoopJ g tb D σ J H :=
  for_it w Pv h0 hG hs hd
/-- a for over a tuple (over a list that stands) -/
theorem loopT (hs : SqT K H p xs) (Pv : Nat → L2.St → Hp → Prop) (h0 : Pv 0 σ H) (hG : ∀ i σ H, i ≤ xs.length → Pv i σ H → SqT K H p xs)
    (hst : ∀ i x σ H, i < xs.length → xs[i]? = some x → Pv i σ H → g x σ H fun σ2 H2 => tb { D with nx := Pv (i + 1), ct := Pv (i + 1), bk := D.nx } σ2 H2) (hd : ∀ σ H, Pv xs.length σ H → D.nx σ H) :
    ∃ a, V.ref p = .ref a ∧ (∃ xs, SqT K H a xs) ∧ LoopJ g tb D σ (Itt K a) H :=
  ⟨p, rfl, ⟨xs, hs⟩, loop_it walk_tup Pv h0 hG (fun i x σ H H' hi hp hy => by obtain ⟨e, hx⟩ := hy; subst e; exact hst i x σ _ hi hx hp) hd⟩
theorem loopL (hs : SqL K H p xs) (Pv : Nat → L2.St → Hp → Prop) (h0 : Pv 0 σ H) (hG : ∀ i σ H, i ≤ xs.length → Pv i σ H → SqL K H p xs)
    (hst : ∀ i x σ H, i < xs.length → xs[i]? = some x → Pv i σ H → g x σ H fun σ2 H2 => tb { D with nx := Pv (i + 1), ct := Pv (i + 1), bk := D.nx } σ2 H2) (hd : ∀ σ H, Pv xs.length σ H → D.nx σ H) :
    ∃ a, V.ref p = .ref a ∧ (∃ xs, SqL K H a xs) ∧ LoopJ g tb D σ (Itl K a) H :=
  ⟨p, rfl, ⟨xs, hs⟩, loop_it walk_list Pv h0 hG (fun i x σ H H' hi hp hy => by obtain ⟨e, hx⟩ := hy; subst e; exact hst i x σ _ hi hx hp) hd⟩
theorem loopR1 {j : Int} {n : Nat} (e : j = (n : Int)) (hn : n < 2 ^ 62) (Pv : Nat → L2.St → Hp → Prop) (h0 : Pv 0 σ H)
    (hst : ∀ (i : Nat) σ H, i < n → Pv i σ H → g (.int (i : Int)) σ H fun σ2 H2 => tb { D with nx := Pv (i + 1), ct := Pv (i + 1), bk := D.nx } σ2 H2) (hd : ∀ σ H, Pv n σ H → D.nx σ H) :
    ∃ j' : Int, [V.int j] = [.int j'] ∧ -(2 ^ 62) ≤ j' ∧ j' < 2 ^ 62 ∧ LoopJ g tb D σ (Itr 0 j'.toNat) H := by
  subst e
  refine ⟨n, rfl, by omega, by omega, ?_⟩
  rw [Int.toNat_natCast]
  refine loop_it walk_range Pv h0 (fun _ _ _ _ _ => trivial) (fun i x σ H H' hi hp hy => ?_) hd
  obtain ⟨e, hx⟩ := hy
  subst e hx
  dsimp only
  rw [Int.zero_add]
  exact hst i σ _ hi hp
theorem loopR2 {lo hi : Int} {n : Nat} (e : (hi - lo).toNat = n) (hb : -(2 ^ 62) ≤ lo ∧ lo < 2 ^ 62 ∧ -(2 ^ 62) ≤ hi ∧ hi < 2 ^ 62) (Pv : Nat → L2.St → Hp → Prop) (h0 : Pv 0 σ H)
    (hst : ∀ (i : Nat) σ H, i < n → Pv i σ H → g (.int (lo + (i : Int))) σ H fun σ2 H2 => tb { D with nx := Pv (i + 1), ct := Pv (i + 1), bk := D.nx } σ2 H2) (hd : ∀ σ H, Pv n σ H → D.nx σ H) :
    ∃ i j : Int, [V.int lo, V.int hi] = [.int i, .int j] ∧ (-(2 ^ 62) ≤ i ∧ i < 2 ^ 62 ∧ -(2 ^ 62) ≤ j ∧ j < 2 ^ 62) ∧ LoopJ g tb D σ (Itr i (j - i).toNat) H := by
  subst e
  refine ⟨lo, hi, rfl, hb, ?_⟩
  refine loop_it walk_range Pv h0 (fun _ _ _ _ _ => trivial) (fun i x σ H H' hi hp hy => ?_) hd
  obtain ⟨e, hx⟩ := hy
  subst e hx
  exact hst i σ _ hi hp

/-- a comprehension: Pv of the turn, what is made so far, what is known, the heap; its own list at L is not known meanwhile -/
theorem lc_by {J : It} {M : Addr → Prop} {Gd : Hp → Prop} {Y : Nat → V → Prop} (w : Walk J n Gd (fun i H x H' => H' = H ∧ Y i x)) (hn : n < 2 ^ 20) (g0 : Same G H) (Pv : Nat → List V → Hp → Hp → Prop)
    (h0 : ∀ L, H L = none → Pv 0 [] G (upd H L (.lst []))) (hG : ∀ i acc G' H', i ≤ n → Stp M G H G' H' → Pv i acc G' H' → Gd H')
    (hs : ∀ L i x acc G' H' (Em : V → Hp → Prop) (Sk : Hp → Prop), i < n → H L = none → H' L = some (.lst acc) → G' L = none → acc.length ≤ i → Stp M G H G' H' → Pv i acc G' H' → Y i x →
      (∀ y G2 H2, Stp M G H G2 H2 → H2 L = some (.lst acc) → G2 L = none → Pv (i + 1) (acc ++ [y]) G2 (upd H2 L (.lst (acc ++ [y]))) → Em y H2) →
      (∀ G2 H2, Stp M G H G2 H2 → H2 L = some (.lst acc) → G2 L = none → Pv (i + 1) acc G2 H2 → Sk H2) →
      g x (wipe σ vs) H' fun σ2 H2 => wipe σ2 vs = wipe σ vs ∧ tt σ2 H2 fun b H3 => if b = true then te σ2 H3 Em else Sk H3)
    (hd : ∀ L acc G' H', H L = none → acc.length ≤ n → Stp M G H G' H' → H' L = some (.lst acc) → G' L = none → Pv n acc G' H' → Q (.ref L) H') : LcJ g tt te vs σ Q J H := by
  intro L hL
  have gL : G L = none := none_of g0 hL
  refine lc_it w (fun i H' => ∃ acc G', H' L = some (.lst acc) ∧ G' L = none ∧ acc.length ≤ i ∧ Stp M G H G' H' ∧ Pv i acc G' H') ?_ (fun i H' hi hP => ?_) (fun i x H' H'' hi hP hy => ?_) (fun H' hP => ?_)
  · exact ⟨[], G, upd_same, gL, Nat.zero_le _, Stp.newM g0 hL, h0 L hL⟩
  · obtain ⟨acc, G', _, _, _, st, pv⟩ := hP
    exact hG i acc G' H' hi st pv
  · obtain ⟨acc, G', e1, e2, e3, st, pv⟩ := hP
    obtain ⟨rfl, hy⟩ := hy
    refine hs L i x acc G' H'' _ _ hi hL e1 e2 e3 st pv hy (fun y G2 H2 st2 a1 a2 a3 => ?_) (fun G2 H2 st2 a1 a2 a3 => ?_)
    · refine ⟨acc, a1, Nat.lt_of_le_of_lt e3 (Nat.lt_trans hi (Nat.lt_of_lt_of_le hn (by decide))), _, G2, upd_same, a2, by rw [List.length_append]; simp; omega, ?_, a3⟩
      exact ⟨fun a o m z => by rw [upd_ne (ne_of_none z hL)]; exact st2.up a o m z, st2.gg, fun a o z => by rw [upd_ne (ne_of_none z a2)]; exact st2.gh a o z, st2.fr, fun a o z => by rw [upd_ne (ne_of_none z hL)]; exact st2.th a o z⟩
    · exact ⟨acc, G2, a1, a2, Nat.le_succ_of_le e3, st2, a3⟩
  · obtain ⟨acc, G', e1, e2, e3, st, pv⟩ := hP
    exact hd L acc G' H' hL e3 st e1 e2 pv
theorem lcL {M : Addr → Prop} (hs : SqL K G p xs) (hn : xs.length < 2 ^ 20) (g0 : Same G H) (Pv : Nat → List V → Hp → Hp → Prop)
    (h0 : ∀ L, H L = none → Pv 0 [] G (upd H L (.lst [])))
    (hst : ∀ L i x acc G' H' (Em : V → Hp → Prop) (Sk : Hp → Prop), i < xs.length → H L = none → H' L = some (.lst acc) → G' L = none → acc.length ≤ i → Stp M G H G' H' → Pv i acc G' H' → xs[i]? = some x →
      (∀ y G2 H2, Stp M G H G2 H2 → H2 L = some (.lst acc) → G2 L = none → Pv (i + 1) (acc ++ [y]) G2 (upd H2 L (.lst (acc ++ [y]))) → Em y H2) →
      (∀ G2 H2, Stp M G H G2 H2 → H2 L = some (.lst acc) → G2 L = none → Pv (i + 1) acc G2 H2 → Sk H2) →
      g x (wipe σ vs) H' fun σ2 H2 => wipe σ2 vs = wipe σ vs ∧ tt σ2 H2 fun b H3 => if b = true then te σ2 H3 Em else Sk H3)
    (hd : ∀ L acc G' H', H L = none → acc.length ≤ xs.length → Stp M G H G' H' → H' L = some (.lst acc) → G' L = none → Pv xs.length acc G' H' → Q (.ref L) H') :
    ∃ a, V.ref p = .ref a ∧ (∃ xs, SqL K H a xs) ∧ LcJ g tt te vs σ Q (Itl K a) H :=
  ⟨p, rfl, ⟨xs, g0.seq hs⟩, lc_by (M := M) walk_list hn g0 Pv h0 (fun i acc G' H' _ st _ => (st.gg.trans st.gh).seq hs) (fun L i x acc G' H' Em Sk => hst L i x acc G' H' Em Sk) hd⟩
theorem lcR1 {M : Addr → Prop} {j : Int} {n : Nat} (e : j = (n : Int)) (hn : n < 2 ^ 20) (g0 : Same G H) (Pv : Nat → List V → Hp → Hp → Prop)
    (h0 : ∀ L, H L = none → Pv 0 [] G (upd H L (.lst [])))
    (hst : ∀ L (i : Nat) acc G' H' (Em : V → Hp → Prop) (Sk : Hp → Prop), i < n → H L = none → H' L = some (.lst acc) → G' L = none → acc.length ≤ i → Stp M G H G' H' → Pv i acc G' H' →
      (∀ y G2 H2, Stp M G H G2 H2 → H2 L = some (.lst acc) → G2 L = none → Pv (i + 1) (acc ++ [y]) G2 (upd H2 L (.lst (acc ++ [y]))) → Em y H2) →
      (∀ G2 H2, Stp M G H G2 H2 → H2 L = some (.lst acc) → G2 L = none → Pv (i + 1) acc G2 H2 → Sk H2) →
      g (.int (i : Int)) (wipe σ vs) H' fun σ2 H2 => wipe σ2 vs = wipe σ vs ∧ tt σ2 H2 fun b H3 => if b = true then te σ2 H3 Em else Sk H3)
    (hd : ∀ L acc G' H', H L = none → acc.length ≤ n → Stp M G H G' H' → H' L = some (.lst acc) → G' L = none → Pv n acc G' H' → Q (.ref L) H') :
    ∃ j' : Int, [V.int j] = [.int j'] ∧ -(2 ^ 62) ≤ j' ∧ j' < 2 ^ 62 ∧ LcJ g tt te vs σ Q (Itr 0 j'.toNat) H := by
  subst e
  refine ⟨n, rfl, by omega, by omega, ?_⟩
  rw [Int.toNat_natCast]
  refine lc_by (M := M) (Y := fun i x => x = .int (0 + (i : Int))) walk_range hn g0 Pv h0 (fun _ _ _ _ _ _ _ => trivial) (fun L i x acc G' H' Em Sk h1 h2 h3 h4 h5 h6 h7 h8 h9 h10 => ?_) hd
  subst h8
  rw [Int.zero_add]
  exact hst L i acc G' H' Em Sk h1 h2 h3 h4 h5 h6 h7 h9 h10
theorem lcR2 {M : Addr → Prop} {lo hi : Int} {n : Nat} (e : (hi - lo).toNat = n) (hb : -(2 ^ 62) ≤ lo ∧ lo < 2 ^ 62 ∧ -(2 ^ 62) ≤ hi ∧ hi < 2 ^ 62) (hn : n < 2 ^ 20) (g0 : Same G H) (Pv : Nat → List V → Hp → Hp → Prop)
    (h0 : ∀ L, H L = none → Pv 0 [] G (upd H L (.lst [])))
    (hst : ∀ L (i : Nat) acc G' H' (Em : V → Hp → Prop) (Sk : Hp → Prop), i < n → H L = none → H' L = some (.lst acc) → G' L = none → acc.length ≤ i → Stp M G H G' H' → Pv i acc G' H' →
      (∀ y G2 H2, Stp M G H G2 H2 → H2 L = some (.lst acc) → G2 L = none → Pv (i + 1) (acc ++ [y]) G2 (upd H2 L (.lst (acc ++ [y]))) → Em y H2) →
      (∀ G2 H2, Stp M G H G2 H2 → H2 L = some (.lst acc) → G2 L = none → Pv (i + 1) acc G2 H2 → Sk H2) →
      g (.int (lo + (i : Int))) (wipe σ vs) H' fun σ2 H2 => wipe σ2 vs = wipe σ vs ∧ tt σ2 H2 fun b H3 => if b = true then te σ2 H3 Em else Sk H3)
    (hd : ∀ L acc G' H', H L = none → acc.length ≤ n → Stp M G H G' H' → H' L = some (.lst acc) → G' L = none → Pv n acc G' H' → Q (.ref L) H') :
    ∃ i j : Int, [V.int lo, V.int hi] = [.int i, .int j] ∧ (-(2 ^ 62) ≤ i ∧ i < 2 ^ 62 ∧ -(2 ^ 62) ≤ j ∧ j < 2 ^ 62) ∧ LcJ g tt te vs σ Q (Itr i (j - i).toNat) H := by
  subst e
  refine ⟨lo, hi, rfl, hb, ?_⟩
  refine lc_by (M := M) (Y := fun i x => x = .int (lo + (i : Int))) walk_range hn g0 Pv h0 (fun _ _ _ _ _ _ _ => trivial) (fun L i x acc G' H' Em Sk h1 h2 h3 h4 h5 h6 h7 h8 h9 h10 => ?_) hd
  subst h8
  exact hst L i acc G' H' Em Sk h1 h2 h3 h4 h5 h6 h7 h9 h10
end

/-! ### tuples whose object is known to bear no dict: their methods -/
def tTupF (t : TA) : TE := fun σ H Q => t σ H fun xs H1 => xs.length ≤ sizeLine ∧ ∀ p o, H1 p = none → o.dict = none → Q (.ref p) (upd H1 p (.frz o (.tup xs)))
def tyF (x : V) (H : Hp) : Prop := ∃ (p : Addr) (o : Obj) (xs : List V), x = .ref p ∧ H p = some (.frz o (.tup xs)) ∧ o.dict = none
def tBMF (r : V → List V → Hp → VK → Prop) (to : TE) (t : TA) : TE := fun σ H Q => to σ H fun x H1 => tyF x H1 ∧ t σ H1 fun xs H2 => r x xs H2 Q
section
variable {X : Cx} {es : List Expr} {t : TA} {pos : Pos}
theorem pe_tupF {x1} (h : PA X es t) : PE X (.Tuple es x1 pos) (tTupF t) := by
  refine ⟨fun pins s σ H Q I hq => ?_⟩
  refine wpAny_Tuple_spliced (thn (h.run pos pins s σ H _ I hq) fun us s1 ⟨xs, H1, I1, r, z, q⟩ => ⟨by rw [← r.length]; exact z, ?_⟩)
  have hf : H1 s1.heap.objs.size = none := I1.hok.fresh (Nat.le_refl _)
  refine ⟨.ref s1.heap.objs.size, upd H1 s1.heap.objs.size (.frz { cls := .type "tuple", data := .seq us.toArray } (.tup xs)), I1.laid (t' := s1.toks) (fun b u e => Heap.get?_push_of_some _ e) (Nat.le_refl _) ?_, rfl, q _ _ hf rfl⟩
  exact ⟨Heap.get?_push_size _ rfl, z, us, r, ⟨_, Heap.get?_push_size _ rfl, rfl, _, rfl⟩⟩
variable {o e : Expr} {to : TE} {name : Str} {apos cpos : Pos} {id : String} {r : V → List V → Hp → VK → Prop}
theorem pe_bmF (pa : PlainAttrs "tuple") (slot : Slot "tuple" name id) (hty : typeOf (.builtin id) = pure (.type "method_descriptor")) (hm : MtR X id r) (ho : PE X o to) (ha : PA X (e :: es) t)
    (hbase : attributeBase o name X.env (eval o X.env) = eval o X.env := by rfl)
    (hfew : ((backTo cpos (starEach (e :: es) X.env)).all (fun x => !x.1) && (backToKw cpos (keywordEach [] X.env)).all (fun x => x.1.isSome)
      && decide ((e :: es).length + ([] : List Keyword).length + (if ([] : List Keyword).isEmpty then 0 else 1) < 30)) = true := by rfl)
    (hline : (apos.endLine == cpos.line) = true := by rfl) (hs : starEach (e :: es) X.env = (false, eval e X.env) :: starEach es X.env := by rfl) (hplain : (backTo cpos (starEach es X.env)).any (·.1) = false := by rfl) :
    PE X (.Call (.Attribute o name apos) (e :: es) [] cpos) (tBMF r to t) := by
  refine ⟨fun pins s σ H Q I h => ?_⟩
  refine wpAny_Call_method_late hbase hfew hline rfl (thn (ho.run pins s σ H _ I h) fun v s1 ⟨x, H1, I1, r1, ty, q1⟩ => ?_)
  obtain ⟨p, ob, xs, rfl, hp, hd⟩ := ty
  cases r1
  obtain ⟨g1, g2⟩ := I1.hok p _ hp
  obtain ⟨_, its, _, o2, h1, h2, _⟩ := g2
  refine ⟨"tuple", id, pa, slot, hty, ⟨o2, h1, h2⟩, fun a ea => ?_, ?_⟩
  · cases ea
    exact ⟨ob, g1, hd⟩
  have hA := ha.run cpos pins s1 σ H1 _ I1 q1
  rw [hs] at hA ⊢
  refine Calls.callWith_builtin (by show (false || (backTo cpos (starEach es X.env)).any (·.1)) = false; rw [hplain] <;> rfl) (Calls.evalArgs_plain ?_)
  exact thn hA fun us s2 ⟨vs, H2, I2, r2, q2⟩ => hm pins s2 σ H2 (.ref p) vs _ us Q I2 rfl r2 q2
variable {σ : L2.St} {H : Hp} {Q : VK}
theorem r_tupF (h : t σ H fun xs H1 => xs.length ≤ sizeLine ∧ ∀ p o, H1 p = none → o.dict = none → Q (.ref p) (upd H1 p (.frz o (.tup xs)))) : tTupF t σ H Q := h
theorem r_bmF (h : to σ H fun x H1 => tyF x H1 ∧ t σ H1 fun xs H2 => r x xs H2 Q) : tBMF r to t σ H Q := h
end
/-! ### what is called, given to the reading -/
section
variable {X : Cx} {K : PySem.W.Frag} {H : Hp} {Q : VK} {p : Addr} {xs : List V} {x y : V} {i j : Int} {z : Str}
def kLen (K : PySem.W.Frag) : List V → Hp → VK → Prop := fun xs H Q => ∃ p ys, xs = [.ref p] ∧ (SqL K H p ys ∨ SqT K H p ys) ∧ Q (.int ys.length) H
theorem call_lenK : CallR X (.builtin "len") (kLen X.K) := call_len_seq
theorem c_len (h : SqL K H p xs ∨ SqT K H p xs) (q : Q (.int (xs.length : Int)) H) : kLen K [.ref p] H Q := ⟨p, xs, rfl, h, q⟩
def kLenS : List V → Hp → VK → Prop := fun xs H Q => ∃ z, xs = [.str z] ∧ z.length ≤ sizeLine ∧ Q (.int z.length) H
theorem call_lenS : CallR X (.builtin "len") kLenS := call_len_str
theorem c_lenS (h : z.length ≤ sizeLine) (q : Q (.int z.length) H) : kLenS [.str z] H Q := ⟨z, rfl, h, q⟩
def kList (K : PySem.W.Frag) : List V → Hp → VK → Prop := fun xs H Q => ∃ p ys, xs = [.ref p] ∧ (SqL K H p ys ∨ SqT K H p ys) ∧ ∀ l, H l = none → Q (.ref l) (upd H l (.lst ys))
theorem call_listK : CallR X (.type "list") (kList X.K) := call_list_of
theorem c_list (h : SqL K H p xs ∨ SqT K H p xs) (q : ∀ l, H l = none → Q (.ref l) (upd H l (.lst xs))) : kList K [.ref p] H Q := ⟨p, xs, rfl, h, q⟩
def kTuple (K : PySem.W.Frag) : List V → Hp → VK → Prop := fun xs H Q => ∃ p ys, xs = [.ref p] ∧ ((SqL K H p ys ∧ ∀ l, H l = none → Q (.ref l) (upd H l (.tup ys))) ∨ (SqT K H p ys ∧ Q (.ref p) H))
theorem call_tupleK : CallR X (.type "tuple") (kTuple X.K) := call_tuple_of
theorem c_tupleL (h : SqL K H p xs) (q : ∀ l, H l = none → Q (.ref l) (upd H l (.tup xs))) : kTuple K [.ref p] H Q := ⟨p, xs, rfl, .inl ⟨h, q⟩⟩
theorem c_tupleT (h : SqT K H p xs) (q : Q (.ref p) H) : kTuple K [.ref p] H Q := ⟨p, xs, rfl, .inr ⟨h, q⟩⟩
def kAbs : List V → Hp → VK → Prop := fun xs H Q => ∃ i, xs = [.int i] ∧ Q (.int (if i < 0 then -i else i)) H
theorem call_absK : CallR X (.builtin "abs") kAbs := call_abs
theorem c_abs (q : Q (.int (if i < 0 then -i else i)) H) : kAbs [.int i] H Q := ⟨i, rfl, q⟩
def kMax : List V → Hp → VK → Prop := fun xs H Q => ∃ i j, xs = [.int i, .int j] ∧ Q (.int (if j > i then j else i)) H
theorem call_maxK (hc : X.calm = true) : CallR X (.builtin "max") kMax := call_max2 hc
theorem c_max (q : Q (.int (if j > i then j else i)) H) : kMax [.int i, .int j] H Q := ⟨i, j, rfl, q⟩
def kMin : List V → Hp → VK → Prop := fun xs H Q => ∃ i j, xs = [.int i, .int j] ∧ Q (.int (if j < i then j else i)) H
theorem call_minK (hc : X.calm = true) : CallR X (.builtin "min") kMin := call_min2 hc
theorem c_min (q : Q (.int (if j < i then j else i)) H) : kMin [.int i, .int j] H Q := ⟨i, j, rfl, q⟩
def kInt : List V → Hp → VK → Prop := fun xs H Q => (∃ i, xs = [.int i] ∧ Q (.int i) H) ∨ ∃ k, xs = [.bl k] ∧ Q (.int (if k then 1 else 0)) H
theorem call_intK : CallR X (.type "int") kInt := call_int1
theorem c_intI (q : Q (.int i) H) : kInt [.int i] H Q := .inl ⟨i, rfl, q⟩
theorem c_intB {k : Bool} (q : Q (.int (if k then 1 else 0)) H) : kInt [.bl k] H Q := .inr ⟨k, rfl, q⟩
def kTupIndex (K : PySem.W.Frag) : V → List V → Hp → VK → Prop := fun x xs H Q => ∃ p, ∃ ys : List Str, ∃ z j, x = .ref p ∧ xs = [.str z] ∧ SqT K H p (ys.map V.str) ∧ ys[j]? = some z ∧ (∀ m, m < j → ys[m]? ≠ some z) ∧ Q (.int (j : Nat)) H
theorem mt_tupIndexK : MtR X "tuple.index" (kTupIndex X.K) := mt_tup_index
theorem c_methF {R : Prop} {o : Obj} (h : H p = some (.frz o (.tup xs))) (hd : o.dict = none) (q : R) : tyF (.ref p) H ∧ R := ⟨⟨p, o, _, rfl, h, hd⟩, q⟩
theorem c_tupIndex {ys : List Str} {j : Nat} {o : Obj} (h : H p = some (.frz o (.tup (ys.map V.str)))) (e : ys[j]? = some z) (n : ∀ m, m < j → ys[m]? ≠ some z) (q : Q (.int (j : Nat)) H) : kTupIndex K (.ref p) [.str z] H Q :=
  ⟨p, ys, z, j, rfl, rfl, .inl (.inr ⟨o, h⟩), e, n, q⟩
theorem c_meth {R : Prop} (h : H p = some (.lst xs)) (q : R) : tyV K "list" (.ref p) H ∧ R := ⟨.inl ⟨rfl, _, lof h⟩, q⟩
theorem c_append (h : H p = some (.lst xs)) (hl : xs.length < sizeLine) (q : Q .non (upd H p (.lst (xs ++ [y])))) : rAppend (.ref p) [y] H Q := ⟨p, xs, y, rfl, rfl, h, hl, q⟩
theorem c_pop (h : H p = some (.lst xs)) (e : xs[xs.length - 1]? = some y) (q : Q y (upd H p (.lst xs.dropLast))) : rPop (.ref p) [] H Q := ⟨p, xs, y, rfl, rfl, h, e, q⟩
end
theorem ifD {p A B : Prop} [Decidable p] (h1 : p → A) (h2 : ¬ p → B) : if decide p = true then A else B := by
  by_cases h : p
  · rw [decide_eq_true h]; exact h1 h
  · rw [decide_eq_false h]; exact h2 h
theorem ifND {p A B : Prop} [Decidable p] (h1 : ¬ p → A) (h2 : p → B) : if (!decide p) = true then A else B := by
  by_cases h : p
  · rw [decide_eq_true h]; exact h2 h
  · rw [decide_eq_false h]; exact h1 h
theorem map_get {α β : Type} {f : α → β} {l : List α} {i : Nat} {y : β} (h : (l.map f)[i]? = some y) : ∃ x, l[i]? = some x ∧ y = f x := by
  rw [List.getElem?_map] at h
  cases e : l[i]? with
  | none => rw [e] at h; cases h
  | some x => rw [e] at h; exact ⟨x, rfl, (Option.some.inj h).symm⟩
theorem take_succ_get {α : Type} {l : List α} {i : Nat} {x : α} (h : l[i]? = some x) : l.take (i + 1) = l.take i ++ [x] := by
  rw [List.take_add_one, h]; rfl
theorem at_last2 {α : Type} {xs : List α} {v : α} (h : xs.length > 1) (e : xs[xs.length - 2]? = some v) : atI xs (-2) = some v := by
  unfold atI ixN
  rw [if_neg (by omega), if_pos (by omega)]
  show xs[((xs.length : Int) + -2).toNat]? = some v
  rw [← e]
  congr 1
  omega
theorem small5 {n : Nat} (h : n ≤ 1000000) : n < sizeLine := Nat.lt_of_le_of_lt h (by decide)
/-! the pen that a law draws by: a dict of three -/
abbrev penO (c : Addr) (a : Nat) (l : Int) : HO := .dK [(.inr "cells", .ref c), (.inr "at", .int (a : Int)), (.inr "left", .int l)]
/-- the pen at p has drawn n times at most -/
def Pen (K : PySem.W.Frag) (G : Hp) (p : Addr) (n : Nat) (H : Hp) : Prop :=
  G p = none ∧ ∃ (c : Addr) (ns : List Int) (a : Nat) (l : Int), SqL K G c (ns.map V.int) ∧ ns.length ≤ 63 ∧ a ≤ n ∧ H p = some (penO c a l)
theorem kne {x y : Str} (h : x ≠ y) : ¬ (Sum.inr x : Key) = Sum.inr y := fun e => h (Sum.inr.inj e)
theorem vv0 {x : Str} {v : V} {r : List (Key × V)} : valV ((.inr x, v) :: r) (.inr x : Key) = some v := valV_pos rfl
theorem vv1 {x y : Str} {v : V} {r : List (Key × V)} (h : x ≠ y) : valV ((.inr x, v) :: r) (.inr y : Key) = valV r (.inr y) := valV_neg (kne h)
theorem dk {H : Hp} {a : Addr} {kvs : List (Key × V)} {x : Str} {v : V} (h : H a = some (.dK kvs)) (e : valV kvs (.inr x) = some v) : DGet H a (.str x) (some v) := by
  have q := DGet.k (k := .inr x) h
  rw [e] at q
  exact q
section
variable {K : PySem.W.Frag} {G G' H H' : Hp} {p o c : Addr} {n m a : Nat} {l i : Int} {M : Addr → Prop} {x : HO}
theorem pen_cells (h : H p = some (penO c a l)) : DGet H p (.str "cells") (some (.ref c)) := dk h vv0
theorem pen_at (h : H p = some (penO c a l)) : DGet H p (.str "at") (some (.int (a : Int))) := dk h ((vv1 (by decide +kernel)).trans vv0)
theorem pen_left (h : H p = some (penO c a l)) : DGet H p (.str "left") (some (.int l)) := dk h ((vv1 (by decide +kernel)).trans ((vv1 (by decide +kernel)).trans vv0))
theorem putK_here {x : Str} {v w : V} {r : List (Key × V)} (h : ∀ kv ∈ r, kv.1 ≠ (.inr x : Key)) : putK ((.inr x, v) :: r) (.inr x : Key) w = (.inr x, w) :: r := by
  unfold putK
  rw [if_pos (by simp), List.map_cons, if_pos rfl]
  congr 1
  induction r with
  | nil => rfl
  | cons kv r ih => rw [List.map_cons, if_neg (h kv List.mem_cons_self), ih fun z hz => h z (List.mem_cons_of_mem _ hz)]
theorem putK_next {x y : Str} {v w : V} {r : List (Key × V)} (h : x ≠ y) (e : (r.any fun kv => decide (kv.1 = (.inr y : Key))) = true) : putK ((.inr x, v) :: r) (.inr y : Key) w = (.inr x, v) :: putK r (.inr y) w := by
  unfold putK
  rw [if_pos (by rw [List.any_cons, e, Bool.or_true]), if_pos e, List.map_cons, if_neg (kne h)]
theorem dput {H : Hp} {a : Addr} {kvs kvs' : List (Key × V)} {x : Str} {v : V} (h : H a = some (.dK kvs)) (hl : kvs.length < sizeLine) (e : putK kvs (.inr x) v = kvs') : DPut H a (.str x) v (upd H a (.dK kvs')) := by
  have q := DPut.k (k := .inr x) (v := v) h hl
  rw [e] at q
  exact q
theorem pen_putAt (h : H p = some (penO c a l)) (m : Nat) : DPut H p (.str "at") (.int (m : Int)) (upd H p (penO c m l)) :=
  dput h (by show 3 < sizeLine; decide) (by
    rw [putK_next (by decide +kernel) (by simp), putK_here (fun kv hk => by
      rw [List.mem_singleton] at hk
      rw [hk]
      exact kne (by decide +kernel))])
theorem pen_putLeft (h : H p = some (penO c a l)) (m : Int) : DPut H p (.str "left") (.int m) (upd H p (penO c a m)) :=
  dput h (by show 3 < sizeLine; decide) (by
    rw [putK_next (by decide +kernel) (by simp), putK_next (by decide +kernel) (by simp), putK_here (fun kv hk => by cases hk)])
theorem Pen.is (h : Pen K G p n H) : ∃ c a l, H p = some (penO c a l) := by
  obtain ⟨_, c, _, a, l, _, _, _, h⟩ := h
  exact ⟨c, a, l, h⟩
theorem Pen.mono (h : Pen K G p n H) (e : n ≤ m) : Pen K G p m H := by
  obtain ⟨g, c, ns, a, l, h1, h2, h3, h4⟩ := h
  exact ⟨g, c, ns, a, l, h1, h2, Nat.le_trans h3 e, h4⟩
theorem Pen.stp (h : Pen K G p n H) (s : Stp M G H G' H') (hM : ¬ M p) : Pen K G' p n H' := by
  obtain ⟨g, c, ns, a, l, h1, h2, h3, h4⟩ := h
  exact ⟨(s.fr _ _ h4).trans g, c, ns, a, l, s.gg.seq h1, h2, h3, s.up _ _ hM h4⟩
theorem Pen.stp0 (h : Pen K G p n H) (s : Stp M0 G H G' H') : Pen K G' p n H' := h.stp s (fun z => z)
theorem Pen.ne (h : Pen K G p n H) (e : H o = some (.lst xs)) : o ≠ p := by
  obtain ⟨c, a, l, q⟩ := h.is
  exact ne_of e q (fun z => nomatch z)
theorem Pen.new (h : Pen K G p n H) (e : H o = none) : o ≠ p := by
  obtain ⟨c, a, l, q⟩ := h.is
  exact (ne_of_none q e).symm
theorem Pen.upd (h : Pen K G p n H) (e : o ≠ p) : Pen K G p n (L2.upd H o x) := by
  obtain ⟨g, c, ns, a, l, h1, h2, h3, h4⟩ := h
  exact ⟨g, c, ns, a, l, h1, h2, h3, by rw [upd_ne e.symm]; exact h4⟩
/-- known besides: something that stands, not the pen -/
theorem Pen.know (h : Pen K G p n H) (s : Same G G') (e : G' p = none) : Pen K G' p n H := by
  obtain ⟨g, c, ns, a, l, h1, h2, h3, h4⟩ := h
  exact ⟨e, c, ns, a, l, s.seq h1, h2, h3, h4⟩
theorem Stp.forget {G1 G1' : Hp} (s : Stp M G1 H G1' H') (g : Same G H) (hM : ∀ a, M a → G a = none) : Stp M G H G H' :=
  ⟨s.up, Same.refl G, fun a o e => s.up a o (fun m => by rw [hM a m] at e; cases e) (g a o e), fun _ _ _ => rfl, s.th⟩
theorem r_put {y v : V} {R : Hp → Prop} (h : DPut H p y v H') (q : R H') : ∃ a H4, V.ref p = .ref a ∧ DPut H a y v H4 ∧ R H4 := ⟨p, H', rfl, h, q⟩
theorem hu64_of {k : Nat} {A : Around} (hr : Room k A) : A.units + 64 < cLine := by have := hr.un; omega
theorem r_ixL' {K : PySem.W.Frag} {xs : List V} {v : V} {Q : VK} (h : SqL K H p xs) (e : i = (n : Int)) (c : xs[n]? = some v) (q : Q v H) : rIxL K (.ref p) (.int i) H Q := ⟨p, xs, i, v, rfl, rfl, h, at_of e c, q⟩
theorem r_ixT' {K : PySem.W.Frag} {xs : List V} {v : V} {Q : VK} (h : SqT K H p xs) (e : i = (n : Int)) (c : xs[n]? = some v) (q : Q v H) : rIxT K (.ref p) (.int i) H Q := ⟨p, xs, i, v, rfl, rfl, h, at_of e c, q⟩
theorem dp_ints {K : PySem.W.Frag} {H : Hp} : ∀ ns : List Int, DpAll K H (ns.map V.int) (ns.map PyData.int)
  | [] => .nil
  | n :: r => .cons (.int n) (dp_ints r)
theorem dp_strs {K : PySem.W.Frag} {H : Hp} : ∀ ns : List Str, DpAll K H (ns.map V.str) (ns.map PyData.str)
  | [] => .nil
  | n :: r => .cons (.str n) (dp_strs r)
theorem mod_nat {i : Int} {m : Nat} (h : 1 ≤ m) : ∃ d : Nat, i % (m : Int) = (d : Int) ∧ d < m := by
  have h1 := Int.emod_nonneg i (b := (m : Int)) (by omega)
  have h2 := Int.emod_lt_of_pos i (b := (m : Int)) (by omega)
  exact ⟨(i % (m : Int)).toNat, by omega, by omega⟩
end
theorem mod_q {i : Int} {m : Nat} {Q : V → Prop} (h : 1 ≤ m) (q : ∀ d : Nat, d < m → Q (.int (d : Int))) : Q (.int (i % (m : Int))) := by
  obtain ⟨d, e, hd⟩ := mod_nat (i := i) h
  rw [e]
  exact q d hd
/-! data: texts and whole numbers in a row -/
abbrev SOk (z : Str) : Prop := PyData.strOk z = true
theorem lay_strs : ∀ ns : List Str, (∀ z ∈ ns, SOk z) → PyData.canLayAll0 (ns.map PyData.str) = true
  | [], _ => rfl
  | z :: r, h => by
    have h1 := h z List.mem_cons_self
    have h2 := lay_strs r fun y hy => h y (List.mem_cons_of_mem _ hy)
    simp only [List.map_cons, PyData.canLayAll0, PyData.canLay0, h2, Bool.and_true]
    exact h1
theorem deep_strs : ∀ ns : List Str, PyData.depthAll (ns.map PyData.str) = 0
  | [] => rfl
  | _ :: r => by simp [PyData.depthAll, PyData.depth, deep_strs r]
theorem sh_list {ns : List Str} (h : ∀ z ∈ ns, SOk z) : SeqAt.shaped (.list (ns.map PyData.str)) = true := by
  simp [SeqAt.shaped, PyData.canLay0, PyData.depth, lay_strs ns h, deep_strs]
theorem sh_tup {ns : List Str} (h : ∀ z ∈ ns, SOk z) : SeqAt.shaped (.tuple (ns.map PyData.str)) = true := by
  simp [SeqAt.shaped, PyData.canLay0, PyData.depth, lay_strs ns h, deep_strs]
theorem sh_ints (ns : List Int) : SeqAt.shaped (.list (ns.map PyData.int)) = true := PySem.W.ke_shaped_ints ns
theorem eqv_strs : ∀ ns ms : List Str, PyData.eqvAll (ns.map PyData.str) (ms.map PyData.str) = decide (ns = ms)
  | [], [] => by simp [PyData.eqvAll]
  | [], _ :: _ => by simp [PyData.eqvAll]
  | _ :: _, [] => by simp [PyData.eqvAll]
  | a :: r, b :: t => by
    simp only [List.map_cons, PyData.eqvAll, PyData.eqv, eqv_strs r t]
    by_cases h : a = b <;> by_cases h' : r = t <;> simp [h, h']
theorem eqv_ints : ∀ ns ms : List Int, PyData.eqvAll (ns.map PyData.int) (ms.map PyData.int) = decide (ns = ms)
  | [], [] => by simp [PyData.eqvAll]
  | [], _ :: _ => by simp [PyData.eqvAll]
  | _ :: _, [] => by simp [PyData.eqvAll]
  | a :: r, b :: t => by
    simp only [List.map_cons, PyData.eqvAll, PyData.eqv, eqv_ints r t]
    by_cases h : a = b <;> by_cases h' : r = t <;> simp [h, h']
section
variable {K : PySem.W.Frag} {H : Hp} {Q : VK} {p q : Addr} {ns ms : List Str} {is js : List Int}
theorem r_eqTT (h : SqT K H p (ns.map V.str)) (h' : SqT K H q (ms.map V.str)) (a : ∀ z ∈ ns, SOk z) (b : ∀ z ∈ ms, SOk z) (k : Q (.bl (decide (ns = ms))) H) : rEqD K (.ref p) (.ref q) H Q :=
  ⟨_, _, .tup h (dp_strs _), .tup h' (dp_strs _), sh_tup a, sh_tup b, by rw [PyData.eqv, eqv_strs]; exact k⟩
theorem r_neTT (h : SqT K H p (ns.map V.str)) (h' : SqT K H q (ms.map V.str)) (a : ∀ z ∈ ns, SOk z) (b : ∀ z ∈ ms, SOk z) (k : Q (.bl (!decide (ns = ms))) H) : rNeD K (.ref p) (.ref q) H Q :=
  ⟨_, _, .tup h (dp_strs _), .tup h' (dp_strs _), sh_tup a, sh_tup b, by rw [PyData.eqv, eqv_strs]; exact k⟩
theorem r_eqLL (h : SqL K H p (ns.map V.str)) (h' : SqL K H q (ms.map V.str)) (a : ∀ z ∈ ns, SOk z) (b : ∀ z ∈ ms, SOk z) (k : Q (.bl (decide (ns = ms))) H) : rEqD K (.ref p) (.ref q) H Q :=
  ⟨_, _, .lst h (dp_strs _), .lst h' (dp_strs _), sh_list a, sh_list b, by rw [PyData.eqv, eqv_strs]; exact k⟩
theorem r_neLL (h : SqL K H p (ns.map V.str)) (h' : SqL K H q (ms.map V.str)) (a : ∀ z ∈ ns, SOk z) (b : ∀ z ∈ ms, SOk z) (k : Q (.bl (!decide (ns = ms))) H) : rNeD K (.ref p) (.ref q) H Q :=
  ⟨_, _, .lst h (dp_strs _), .lst h' (dp_strs _), sh_list a, sh_list b, by rw [PyData.eqv, eqv_strs]; exact k⟩
theorem r_eqII (h : SqL K H p (is.map V.int)) (h' : SqL K H q (js.map V.int)) (k : Q (.bl (decide (is = js))) H) : rEqD K (.ref p) (.ref q) H Q :=
  ⟨_, _, .lst h (dp_ints _), .lst h' (dp_ints _), sh_ints _, sh_ints _, by rw [PyData.eqv, eqv_ints]; exact k⟩
theorem r_neII (h : SqL K H p (is.map V.int)) (h' : SqL K H q (js.map V.int)) (k : Q (.bl (!decide (is = js))) H) : rNeD K (.ref p) (.ref q) H Q :=
  ⟨_, _, .lst h (dp_ints _), .lst h' (dp_ints _), sh_ints _, sh_ints _, by rw [PyData.eqv, eqv_ints]; exact k⟩
end
/-! texts; what a pen picks from -/
section
variable {X : Cx} {K : PySem.W.Frag} {H : Hp} {Q : VK} {p : Addr} {xs : List V} {x y v : V} {i j : Int} {z z' : Str} {to te : TE} {σ : L2.St} {c n : Nat}
def kLenQ (K : PySem.W.Frag) : List V → Hp → VK → Prop := fun xs H Q => ∃ x n, xs = [x] ∧ LenV K x H n ∧ Q (.int n) H
theorem call_lenQ : CallR X (.builtin "len") (kLenQ X.K) := call_len
theorem c_lenQ {n : Nat} (h : LenV K x H n) (q : Q (.int (n : Int)) H) : kLenQ K [x] H Q := ⟨x, n, rfl, h, q⟩
def kJoin (K : PySem.W.Frag) : V → List V → Hp → VK → Prop := fun x xs H Q => ∃ a p, ∃ ys : List Str, x = .str a ∧ xs = [.ref p] ∧ (SqL K H p (ys.map V.str) ∨ SqT K H p (ys.map V.str)) ∧
      (ys.map (·.length)).sum + ys.length * a.length ≤ 16777216 ∧ Q (.str (Txt.join a ys)) H
theorem pe_joinK {o e : Expr} {apos pos : Pos} (ho : PE X o to) (he : PE X e te) (hs : starEach [e] X.env = [(false, eval e X.env)] := by rfl) (hbase : attributeBase o "join" X.env (eval o X.env) = eval o X.env := by rfl) (hline : (apos.endLine == pos.line) = true := by rfl) :
    PE X (.Call (.Attribute o "join" apos) [e] [] pos) (tM1 (kJoin X.K) to te) := pe_join ho he hs hbase hline
def kSplit : V → List V → Hp → VK → Prop := fun x xs H Q => ∃ a b, x = .str a ∧ xs = [.str b] ∧ (b.length == 0) = false ∧ a.length + 2 ≤ sizeLine ∧ rNewStrs (Txt.split a b) H Q
theorem pe_splitK {o e : Expr} {apos pos : Pos} (ho : PE X o to) (he : PE X e te) (hs : starEach [e] X.env = [(false, eval e X.env)] := by rfl) (hbase : attributeBase o "split" X.env (eval o X.env) = eval o X.env := by rfl) (hline : (apos.endLine == pos.line) = true := by rfl) :
    PE X (.Call (.Attribute o "split" apos) [e] [] pos) (tM1 kSplit to te) := pe_split ho he hs hbase hline
theorem r_m1 {r : V → List V → Hp → VK → Prop} (h : to σ H fun x H1 => (∃ a, x = .str a) ∧ te σ H1 fun y H2 => r x [y] H2 Q) : tM1 r to te σ H Q := h
theorem r_m1s {R : Prop} (q : R) : (∃ a, V.str z = .str a) ∧ R := ⟨⟨z, rfl⟩, q⟩
theorem c_join {ys : List Str} (h : SqL K H p (ys.map V.str)) (hs : (ys.map (·.length)).sum + ys.length * z.length ≤ 16777216) (q : Q (.str (Txt.join z ys)) H) : kJoin K (.str z) [.ref p] H Q := ⟨z, p, ys, rfl, rfl, .inl h, hs, q⟩
theorem c_split (h : (z'.length == 0) = false) (hs : z.length + 2 ≤ sizeLine) (q : ∀ p, H p = none → Q (.ref p) (upd H p (.lst ((Txt.split z z').map V.str)))) : kSplit (.str z) [.str z'] H Q := ⟨z, z', rfl, rfl, h, hs, q⟩
theorem r_ixS' (hz : z.length ≤ sizeLine) (e : i = (n : Int)) (h : z.cps.toList[n]? = some c) (q : Q (.str ⟨#[c]⟩) H) : rIxS (.str z) (.int i) H Q := ⟨z, i, c, rfl, rfl, hz, at_ofS e h, q⟩
where at_ofS {z : List Nat} {i : Int} {n c : Nat} (e : i = (n : Int)) (h : z[n]? = some c) : atI z i = some c := by rw [e]; exact atI_nat h
theorem r_addS {r : V} (hz : z.length + z'.length ≤ sizeLine) (q : Q (.str (z ++ z')) H) : (fun x y H Q => ∃ i j, x = V.str i ∧ y = V.str j ∧ i.length + j.length ≤ sizeLine ∧ Q (.str (i ++ j)) H : R2) (.str z) (.str z') H Q := ⟨z, z', rfl, rfl, hz, q⟩
def kAddS : R2 := fun x y H Q => ∃ i j, x = .str i ∧ y = .str j ∧ i.length + j.length ≤ sizeLine ∧ Q (.str (i ++ j)) H
theorem op_addS : OpR X (binaryOp .Add) kAddS := op_add_str
theorem c_addS (hz : z.length + z'.length ≤ sizeLine) (q : Q (.str (z ++ z')) H) : kAddS (.str z) (.str z') H Q := ⟨z, z', rfl, rfl, hz, q⟩
theorem r_slS {lo hi : Option Int} (hz : z.length ≤ sizeLine) (q : Q (.str (cutS z lo hi)) H) : rSlS (.str z) lo hi H Q := ⟨z, rfl, hz, q⟩
/-- what is picked from: a list, a tuple, a text -/
def Src (K : PySem.W.Frag) (G : Hp) (s : V) (items : List V) : Prop :=
  (∃ a, s = .ref a ∧ SqL K G a items) ∨ (∃ a, s = .ref a ∧ SqT K G a items) ∨ ∃ z : Str, s = .str z ∧ z.length ≤ sizeLine ∧ items = z.cps.toList.map fun c => V.str ⟨#[c]⟩
theorem Src.len {s : V} {items : List V} (h : Src K H s items) : LenV K s H items.length := by
  rcases h with ⟨a, rfl, h⟩ | ⟨a, rfl, h⟩ | ⟨z, rfl, h, rfl⟩
  · exact .inl ⟨_, h, rfl⟩
  · exact .inr ⟨_, h, rfl⟩
  · exact ⟨h, by rw [List.length_map]; rfl⟩
theorem Src.at {s : V} {items : List V} {d : Nat} (h : Src K H s items) (e : items[d]? = some v) (q : Q v H) : rIx K s (.int (d : Int)) H Q := by
  rcases h with ⟨a, rfl, h⟩ | ⟨a, rfl, h⟩ | ⟨z, rfl, h, rfl⟩
  · exact .inl ⟨a, items, _, v, rfl, rfl, h, at_of rfl e, q⟩
  · exact .inr (.inl ⟨a, items, _, v, rfl, rfl, h, at_of rfl e, q⟩)
  · obtain ⟨c, hc, rfl⟩ := map_get e
    exact .inr (.inr ⟨z, _, c, rfl, rfl, h, r_ixS'.at_ofS rfl hc, q⟩)
theorem Src.same {G : Hp} {s : V} {items : List V} (e : Same G H) (h : Src K G s items) : Src K H s items := by
  rcases h with ⟨a, r, h⟩ | ⟨a, r, h⟩ | h
  · exact .inl ⟨a, r, e.seq h⟩
  · exact .inr (.inl ⟨a, r, Same.sqt e h⟩)
  · exact .inr (.inr h)
end
theorem app_list (a y : Str) : (a ++ y).cps.toList = a.cps.toList ++ y.cps.toList := by
  show (a.cps ++ y.cps).toList = _
  exact Array.toList_append ..
theorem join_empty : ∀ ps : List Str, (Str.join ⟨#[]⟩ ps).cps.toList = (ps.map fun z => z.cps.toList).flatten
  | [] => rfl
  | [x] => by simp [Str.join]
  | x :: y :: r => by
    have h : Str.join ⟨#[]⟩ (x :: y :: r) = x ++ ⟨#[]⟩ ++ Str.join ⟨#[]⟩ (y :: r) := rfl
    rw [h, app_list, app_list, join_empty (y :: r)]
    simp
theorem join_signs (zs : List Nat) : Txt.join ⟨#[]⟩ (zs.map fun c => (⟨#[c]⟩ : Str)) = ⟨zs.toArray⟩ := by
  rw [TL.join_eq]
  apply ext_toList
  rw [join_empty, List.map_map]
  induction zs with
  | nil => rfl
  | cons z r ih => rw [List.map_cons, List.flatten_cons, ih]; rfl
/-! dicts written out -/
section
variable {K : PySem.W.Frag} {H : Hp} {Q : VK} {σ : L2.St} {p : Addr} {xs : List V}
theorem r_disp {trs : List (TE × TE)} (h : ∀ p, H p = none → tPairs trs σ (upd H p (.dK [])) fun ps H2 => H2 p = some (.dK []) ∧ ∃ kvs : List (Key × V), ps = kvs.map (fun kv => (kV kv.1, kv.2)) ∧ kvs.length ≤ 15 ∧ Q (.ref p) (upd H2 p (.dK (mergeK [] kvs)))) : tDisp trs σ H Q := h
theorem r_pcons {tk tv : TE} {r : List (TE × TE)} {R : List (V × V) → Hp → Prop} (h : tk σ H fun x H1 => tv σ H1 fun y H2 => tPairs r σ H2 fun ps H3 => R ((x, y) :: ps) H3) : tPairs ((tk, tv) :: r) σ H R := h
theorem r_pnil {R : List (V × V) → Hp → Prop} (h : R [] H) : tPairs [] σ H R := h
theorem r_slL {lo hi : Option Int} (h : SqL K H p xs) (q : ∀ l, H l = none → Q (.ref l) (upd H l (.lst (cutV xs lo hi)))) : rSlL K (.ref p) lo hi H Q := ⟨p, xs, rfl, h, q⟩
theorem putK_new {x : Str} {v : V} {kvs : List (Key × V)} (h : (kvs.any fun kv => decide (kv.1 = (.inr x : Key))) = false) : putK kvs (.inr x : Key) v = kvs ++ [(.inr x, v)] := by
  unfold putK
  rw [if_neg (by rw [h]; exact Bool.false_ne_true)]
theorem merge2 {a b : Str} {x y : V} (h : a ≠ b) : mergeK [] [((.inr a : Key), x), (.inr b, y)] = [(.inr a, x), (.inr b, y)] := by
  have e2 : putK [((Sum.inr a : Key), x)] (Sum.inr b) y = [(Sum.inr a, x), (Sum.inr b, y)] := (putK_new (by simp [h])).trans rfl
  show putK (putK [] (Sum.inr a : Key) x) (Sum.inr b) y = _
  rw [show putK ([] : List (Key × V)) (Sum.inr a) x = [(Sum.inr a, x)] from rfl, e2]
theorem merge3 {a b c : Str} {x y z : V} (h : a ≠ b) (h1 : a ≠ c) (h2 : b ≠ c) : mergeK [] [((.inr a : Key), x), (.inr b, y), (.inr c, z)] = [(.inr a, x), (.inr b, y), (.inr c, z)] := by
  have e2 : putK [((Sum.inr a : Key), x)] (Sum.inr b) y = [(Sum.inr a, x), (Sum.inr b, y)] := (putK_new (by simp [h])).trans rfl
  have e3 : putK [((Sum.inr a : Key), x), (Sum.inr b, y)] (Sum.inr c) z = [(Sum.inr a, x), (Sum.inr b, y), (Sum.inr c, z)] := (putK_new (by simp [h1, h2])).trans rfl
  show putK (putK (putK [] (Sum.inr a : Key) x) (Sum.inr b) y) (Sum.inr c) z = _
  rw [show putK ([] : List (Key × V)) (Sum.inr a) x = [(Sum.inr a, x)] from rfl, e2, e3]
end
/-- a name: one to eight small letters -/
def NmOk (z : Str) : Prop := 1 ≤ z.length ∧ z.length ≤ 8 ∧ ∀ c ∈ z.cps.toList, 97 ≤ c ∧ c ≤ 122
theorem NmOk.sok {z : Str} (h : NmOk z) : SOk z := by
  show z.cps.all (· < 0x110000) = true
  rw [← Array.all_toList, List.all_eq_true]
  intro c hc
  have := h.2.2 c hc
  exact decide_eq_true (by omega)
/-! the rules, the written part named -/
section
variable {X : Cx} {K : PySem.W.Frag}
theorem k_ix_list (h : X.K = K) : IxR X (rIxL K) := h ▸ ix_list
theorem k_ix_tup (h : X.K = K) : IxR X (rIxT K) := h ▸ ix_tup
theorem k_ix_seq (h : X.K = K) : IxR X (rIx K) := h ▸ ix_seq
theorem k_sl_list (h : X.K = K) : SlR X (rSlL K) := h ▸ sl_list
theorem k_sl_tupA (h : X.K = K) : SlR X (rSlA K) := h ▸ sl_tupA
theorem k_op_eqD (h : X.K = K) (hu : X.A.units + 64 < cLine) : OpR X (compareOp .Eq) (rEqD K) := h ▸ op_eqD hu
theorem k_op_neD (h : X.K = K) (hu : X.A.units + 64 < cLine) : OpR X (compareOp .NotEq) (rNeD K) := h ▸ op_neD hu
theorem k_op_in (h : X.K = K) : OpR X (compareOp .In) (rIn K false) := h ▸ op_in_seq
theorem k_op_notIn (h : X.K = K) : OpR X (compareOp .NotIn) (rIn K true) := h ▸ op_notIn_seq
theorem k_op_catA (h : X.K = K) : OpR X (binaryOp .Add) (rCatA K) := h ▸ op_catA
theorem k_len (h : X.K = K) : CallR X (.builtin "len") (kLen K) := h ▸ call_lenK
theorem k_lenQ (h : X.K = K) : CallR X (.builtin "len") (kLenQ K) := h ▸ call_lenQ
theorem k_list (h : X.K = K) : CallR X (.type "list") (kList K) := h ▸ call_listK
theorem k_tuple (h : X.K = K) : CallR X (.type "tuple") (kTuple K) := h ▸ call_tupleK
theorem k_sortedS (h : X.K = K) : CallR X (.builtin "sorted") (rSortedS K) := h ▸ cr_sortedS
theorem k_isi (h : X.K = K) : CallR X (.builtin "isinstance") (rIsi K) := h ▸ call_isi
theorem k_tupIndex (h : X.K = K) : MtR X "tuple.index" (kTupIndex K) := h ▸ mt_tupIndexK
theorem k_index (h : X.K = K) : MtR X "list.index" (rIndex K) := h ▸ mt_index
variable {e o : Expr} {es : List Expr} {te to ta : TE} {t : TA} {name : Str} {apos cpos pos p1 p2 p3 : Pos} {T id : String} {r : V → List V → Hp → VK → Prop} {k : Nat}
theorem k_bm0 (h : X.K = K) (pa : PlainAttrs T) (slot : Slot T name id) (hty : typeOf (.builtin id) = pure (.type "method_descriptor")) (hm : MtR X id r) (ho : PE X o to)
    (hbase : attributeBase o name X.env (eval o X.env) = eval o X.env := by rfl) (hline : (apos.endLine == cpos.line) = true := by rfl) : PE X (.Call (.Attribute o name apos) [] [] cpos) (tBM0 K T r to) := h ▸ pe_bm0 pa slot hty hm ho hbase hline
theorem k_bm (h : X.K = K) (pa : PlainAttrs T) (slot : Slot T name id) (hty : typeOf (.builtin id) = pure (.type "method_descriptor")) (hm : MtR X id r) (ho : PE X o to) (ha : PA X (e :: es) t)
    (hbase : attributeBase o name X.env (eval o X.env) = eval o X.env := by rfl)
    (hfew : ((backTo cpos (starEach (e :: es) X.env)).all (fun x => !x.1) && (backToKw cpos (keywordEach [] X.env)).all (fun x => x.1.isSome)
      && decide ((e :: es).length + ([] : List Keyword).length + (if ([] : List Keyword).isEmpty then 0 else 1) < 30)) = true := by rfl)
    (hline : (apos.endLine == cpos.line) = true := by rfl) (hs : starEach (e :: es) X.env = (false, eval e X.env) :: starEach es X.env := by rfl) (hplain : (backTo cpos (starEach es X.env)).any (·.1) = false := by rfl) :
    PE X (.Call (.Attribute o name apos) (e :: es) [] cpos) (tBM K T r to t) := h ▸ pe_bm pa slot hty hm ho ha hbase hfew hline hs hplain
theorem k_join {apos pos : Pos} (h : X.K = K) (ho : PE X o to) (he : PE X e te) (hs : starEach [e] X.env = [(false, eval e X.env)] := by rfl) (hbase : attributeBase o "join" X.env (eval o X.env) = eval o X.env := by rfl) (hline : (apos.endLine == pos.line) = true := by rfl) :
    PE X (.Call (.Attribute o "join" apos) [e] [] pos) (tM1 (kJoin K) to te) := h ▸ pe_joinK ho he hs hbase hline
theorem k_revT {k : Nat} (h : X.K = K) (he : PE X e te) : PE X (.Subscript e (.Slice none none (some (.UnaryOp .USub (.Constant (.int 1) k p1) p2)) p3) pos) (tRevT K te) := h ▸ pe_revT he
theorem k_revL {k : Nat} (h : X.K = K) (he : PE X e te) : PE X (.Subscript e (.Slice none none (some (.UnaryOp .USub (.Constant (.int 1) k p1) p2)) p3) pos) (tRevL K te) := h ▸ pe_revL he
variable {tg l : Expr} {n : Nat} {gs : TGs}
theorem k_pi_list (h : X.K = K) (he : PE X l te) : PI X tg l (iList K te) := h ▸ pi_list he
theorem k_pi_tup (h : X.K = K) (he : PE X l te) : PI X tg l (iTup K te) := h ▸ pi_tup he
theorem k_pg_tup {es : List Expr} {k : Nat} (h : X.K = K) (hc : X.calm = true) (hg : PGs X es gs)
    (hn : (assignEach es X.env).length = n := by rfl) (hst : (assignEach es X.env).findIdx? (·.1) = none := by rfl) : PG X (.Tuple es k pos) (gTup K n gs) := h ▸ pg_tup hc hg hn hst
theorem k_truth {a : Expr} (h : X.K = K) (ha : PE X a ta) (he : ∀ whole, isTrue a X.env whole = (do let v ← whole; standAt a.pos; holding [v] (truthy v))) :
    PT X a (fun σ H Q => ta σ H fun x H' => ∃ k, TruV K x H' k ∧ Q k H') := h ▸ pt_truth ha he
end
/-! texts cut -/
theorem cutS_mem {z : Str} {lo hi : Option Int} {c : Nat} (h : c ∈ (cutS z lo hi).cps.toList) : c ∈ z.cps.toList := by
  have h' : c ∈ ((z.cps.toList.drop (HT.sIx z.length 0 lo)).take (HT.sIx z.length z.length hi - HT.sIx z.length 0 lo)) := h
  exact List.mem_of_mem_drop (List.mem_of_mem_take h')
theorem cutS_len (z : Str) (lo hi : Option Int) : (cutS z lo hi).length = min (HT.sIx z.length z.length hi - HT.sIx z.length 0 lo) (z.length - HT.sIx z.length 0 lo) := by
  show (((z.cps.toList.drop (HT.sIx z.length 0 lo)).take (HT.sIx z.length z.length hi - HT.sIx z.length 0 lo)).toArray).size = _
  rw [List.size_toArray, List.length_take, List.length_drop, Array.length_toList]
  rfl
theorem cutS_to (z : Str) (a : Nat) : (cutS z none (some ((a : Nat) : Int))).length = min a z.length := by
  rw [cutS_len, HT.sIx_nat, HT.sIx_none]
  omega
theorem cutS_from (z : Str) (a : Nat) : (cutS z (some ((a : Nat) : Int)) none).length = z.length - a := by
  rw [cutS_len, HT.sIx_nat, HT.sIx_none]
  omega
theorem cutS_le (z : Str) (lo hi : Option Int) : (cutS z lo hi).length ≤ z.length := by
  rw [cutS_len]
  omega
theorem nm_cat {u v w : Str} {b : Str} (hb : b.length ≤ 8) (hc : ∀ c ∈ b.cps.toList, 97 ≤ c ∧ c ≤ 122) (h1 : ∀ c ∈ u.cps.toList, c ∈ b.cps.toList) (h2 : ∀ c ∈ v.cps.toList, 97 ≤ c ∧ c ≤ 122) (h3 : ∀ c ∈ w.cps.toList, c ∈ b.cps.toList)
    (hv : v.length = 1) (hl : u.length + 1 + w.length ≤ b.length) : NmOk (u ++ v ++ w) := by
  have e : (u ++ v ++ w).cps.toList = u.cps.toList ++ v.cps.toList ++ w.cps.toList := by rw [app_list, app_list]
  have el : (u ++ v ++ w).length = u.length + v.length + w.length := by
    show (u ++ v ++ w).cps.size = _
    rw [← Array.length_toList, e, List.length_append, List.length_append]
    rfl
  refine ⟨by omega, by omega, fun c h => ?_⟩
  rw [e] at h
  rcases List.mem_append.mp h with h | h
  · rcases List.mem_append.mp h with h | h
    · exact hc c (h1 c h)
    · exact h2 c h
  · exact hc c (h3 c h)
/-! yards: rooms and doors as plain data -/
abbrev Dr := Str × Str
def DrAll (G : Hp) (xs : List V) (ds : List Dr) : Prop :=
  xs.length = ds.length ∧ ∀ (i : Nat) (d : Dr), ds[i]? = some d → ∃ t o, xs[i]? = some (.ref t) ∧ G t = some (.frz o (.tup ([d.1, d.2].map V.str))) ∧ o.dict = none
theorem DrAll.nil {G : Hp} : DrAll G [] [] := ⟨rfl, fun i d h => by simp at h⟩
theorem DrAll.same {G G' : Hp} {xs : List V} {ds : List Dr} (e : Same G G') (h : DrAll G xs ds) : DrAll G' xs ds :=
  ⟨h.1, fun i d hd => by obtain ⟨t, o, h1, h2, h3⟩ := h.2 i d hd; exact ⟨t, o, h1, e _ _ h2, h3⟩⟩
theorem DrAll.snoc {G : Hp} {xs : List V} {ds : List Dr} {t : Addr} {o : Obj} {d : Dr} (h : DrAll G xs ds) (e : G t = some (.frz o (.tup ([d.1, d.2].map V.str)))) (hd : o.dict = none) : DrAll G (xs ++ [.ref t]) (ds ++ [d]) := by
  refine ⟨by rw [List.length_append, List.length_append, h.1]; rfl, fun i d' hi => ?_⟩
  by_cases hl : i < ds.length
  · rw [List.getElem?_append_left hl] at hi
    obtain ⟨t', o', h1, h2, h3⟩ := h.2 i d' hi
    exact ⟨t', o', by rw [List.getElem?_append_left (by rw [h.1]; exact hl)]; exact h1, h2, h3⟩
  · rw [List.getElem?_append_right (by omega)] at hi
    have e0 : i - ds.length = 0 := by
      rcases Nat.eq_zero_or_pos (i - ds.length) with z | z
      · exact z
      · rw [List.getElem?_eq_none (by simp; omega)] at hi; cases hi
    rw [e0] at hi
    have hi' : d = d' := Option.some.inj hi
    subst hi'
    exact ⟨t, o, by rw [List.getElem?_append_right (by rw [h.1]; omega), h.1, e0]; rfl, e, hd⟩
theorem DrAll.snoc' {G : Hp} {xs : List V} {ds : List Dr} {t : Addr} {o : Obj} {a b : Str} (h : DrAll G xs ds) (e : G t = some (.frz o (.tup [.str a, .str b]))) (hd : o.dict = none) : DrAll G (xs ++ [.ref t]) (ds ++ [(a, b)]) :=
  h.snoc (d := (a, b)) e hd
/-- the yard at y: its rooms' list, its doors' list at d -/
def Yd (K : PySem.W.Frag) (G : Hp) (y : Addr) (rs : List Str) (d : Addr) : Prop :=
  ∃ r, G y = some (.dK [(.inr "rooms", .ref r), (.inr "doors", .ref d)]) ∧ SqL K G r (rs.map V.str)
def Yard (K : PySem.W.Frag) (G : Hp) (y : Addr) (rs : List Str) (ds : List Dr) : Prop :=
  ∃ d xs, Yd K G y rs d ∧ SqL K G d xs ∧ DrAll G xs ds
theorem Yd.same {K : PySem.W.Frag} {G G' : Hp} {y d : Addr} {rs : List Str} (e : Same G G') (h : Yd K G y rs d) : Yd K G' y rs d := by
  obtain ⟨r, h1, h2⟩ := h
  exact ⟨r, e _ _ h1, e.seq h2⟩
theorem Yard.same {K : PySem.W.Frag} {G G' : Hp} {y : Addr} {rs : List Str} {ds : List Dr} (e : Same G G') (h : Yard K G y rs ds) : Yard K G' y rs ds := by
  obtain ⟨d, xs, h1, h2, h3⟩ := h
  exact ⟨d, xs, h1.same e, e.seq h2, h3.same e⟩
theorem Yd.rooms {K : PySem.W.Frag} {G : Hp} {y d : Addr} {rs : List Str} (h : Yd K G y rs d) : ∃ r, DGet G y (.str "rooms") (some (.ref r)) ∧ SqL K G r (rs.map V.str) := by
  obtain ⟨r, h1, h2⟩ := h
  exact ⟨r, dk h1 vv0, h2⟩
theorem Yd.doors {K : PySem.W.Frag} {G : Hp} {y d : Addr} {rs : List Str} (h : Yd K G y rs d) : DGet G y (.str "doors") (some (.ref d)) := by
  obtain ⟨r, h1, h2⟩ := h
  exact dk h1 ((vv1 (by decide +kernel)).trans vv0)
theorem filt_yes {α : Type} {p : α → Bool} {l : List α} {x : α} (h : p x = true) : (l ++ [x]).filter p = l.filter p ++ [x] := by
  rw [List.filter_append, List.filter_cons_of_pos h, List.filter_nil]
theorem filt_no {α : Type} {p : α → Bool} {l : List α} {x : α} (h : p x = false) : (l ++ [x]).filter p = l.filter p := by
  rw [List.filter_append, List.filter_cons_of_neg (by rw [h]; exact Bool.false_ne_true), List.filter_nil, List.append_nil]
/-- what is beside x -/
def oth (x : Str) (d : Dr) : Str := if d.1 = x then d.2 else d.1
def hasD (x : Str) (d : Dr) : Bool := decide (d.1 = x) || decide (d.2 = x)
def nb (ds : List Dr) (x : Str) : List Str := (ds.filter (hasD x)).map (oth x)
theorem inV_pair (x a b : Str) : inV (.str x) ([a, b].map V.str) = (decide (a = x) || decide (b = x)) := by
  have h : ∀ c : Str, (c == x) = decide (c = x) := fun c => by
    by_cases e : c = x
    · subst e; simp
    · rw [decide_eq_false e]; exact beq_eq_false_iff_ne.mpr e
  show ((a == x) || ((b == x) || false)) = _
  rw [h, h, Bool.or_false]
theorem inV_strs (x : Str) : ∀ zs : List Str, inV (.str x) (zs.map V.str) = decide (x ∈ zs)
  | [] => by simp [inV]
  | z :: r => by
    have h := inV_strs x r
    unfold inV at h ⊢
    rw [List.map_cons, List.any_cons, h]
    show ((z == x) || decide (x ∈ r)) = decide (x ∈ z :: r)
    by_cases e : z = x
    · subst e; simp
    · have e' : ¬ x = z := fun q => e q.symm
      simp [e, e']
theorem flat_strs : ∀ zs : List Str, (zs.map V.str).all flatV = true
  | [] => rfl
  | z :: r => by rw [List.map_cons, List.all_cons, flat_strs r]; rfl
section
variable {K : PySem.W.Frag} {H : Hp} {Q : VK} {p : Addr} {xs : List V} {x : V} {i j : Int} {zs : List Str} {z : Str}
theorem r_inL (h : SqL K H p (zs.map V.str)) (q : Q (.bl (decide (z ∈ zs))) H) : rIn K false (.str z) (.ref p) H Q := ⟨p, _, rfl, .inl h, rfl, flat_strs _, by rw [inV_strs]; exact q⟩
theorem r_inT (h : SqT K H p (zs.map V.str)) (q : Q (.bl (decide (z ∈ zs))) H) : rIn K false (.str z) (.ref p) H Q := ⟨p, _, rfl, .inr h, rfl, flat_strs _, by rw [inV_strs]; exact q⟩
theorem r_ninL (h : SqL K H p (zs.map V.str)) (q : Q (.bl (!decide (z ∈ zs))) H) : rIn K true (.str z) (.ref p) H Q := ⟨p, _, rfl, .inl h, rfl, flat_strs _, by rw [inV_strs]; exact q⟩
theorem r_ninT (h : SqT K H p (zs.map V.str)) (q : Q (.bl (!decide (z ∈ zs))) H) : rIn K true (.str z) (.ref p) H Q := ⟨p, _, rfl, .inr h, rfl, flat_strs _, by rw [inV_strs]; exact q⟩
theorem c_sorted (h : SqL K H p (zs.map V.str)) (hl : zs.length < 64) (q : ∀ (ys : List Str) (p : Addr), ys.Perm zs → sortedS ys = true → H p = none → Q (.ref p) (upd H p (.lst (ys.map V.str)))) : rSortedS K [.ref p] H Q := ⟨p, zs, rfl, h, hl, q⟩
theorem frz_t {G : Hp} {t : Addr} {o : Obj} (h : G t = some (.frz o (.tup xs))) : SqT K G t xs := .inl (.inr ⟨o, h⟩)
end
/-! pairs of places -/
def PrAll (K : PySem.W.Frag) (G : Hp) (xs : List V) (ps : List (Nat × Nat)) : Prop :=
  xs.length = ps.length ∧ ∀ (i : Nat) (d : Nat × Nat), ps[i]? = some d → ∃ t, xs[i]? = some (.ref t) ∧ SqT K G t [.int (d.1 : Int), .int (d.2 : Int)]
theorem PrAll.nil {K : PySem.W.Frag} {G : Hp} : PrAll K G [] [] := ⟨rfl, fun i d h => by simp at h⟩
theorem PrAll.same {K : PySem.W.Frag} {G G' : Hp} {xs : List V} {ds : List (Nat × Nat)} (e : Same G G') (h : PrAll K G xs ds) : PrAll K G' xs ds :=
  ⟨h.1, fun i d hd => by obtain ⟨t, h1, h2⟩ := h.2 i d hd; exact ⟨t, h1, Same.sqt e h2⟩⟩
theorem PrAll.app {K : PySem.W.Frag} {G : Hp} {xs ys : List V} {ds es : List (Nat × Nat)} (h : PrAll K G xs ds) (h' : PrAll K G ys es) : PrAll K G (xs ++ ys) (ds ++ es) := by
  refine ⟨by rw [List.length_append, List.length_append, h.1, h'.1], fun i d hi => ?_⟩
  by_cases hl : i < ds.length
  · rw [List.getElem?_append_left hl] at hi
    obtain ⟨t, h1, h2⟩ := h.2 i d hi
    exact ⟨t, by rw [List.getElem?_append_left (by rw [h.1]; exact hl)]; exact h1, h2⟩
  · rw [List.getElem?_append_right (by omega)] at hi
    obtain ⟨t, h1, h2⟩ := h'.2 _ d hi
    exact ⟨t, by rw [List.getElem?_append_right (by rw [h.1]; omega), h.1]; exact h1, h2⟩
theorem PrAll.one {K : PySem.W.Frag} {G : Hp} {t : Addr} {a b : Nat} (h : SqT K G t [.int (a : Int), .int (b : Int)]) : PrAll K G [.ref t] [(a, b)] := by
  refine ⟨rfl, fun i d hi => ?_⟩
  cases i with
  | zero => cases hi; exact ⟨t, rfl, h⟩
  | succ i => simp at hi
theorem PrAll.snoc {K : PySem.W.Frag} {G : Hp} {xs : List V} {ds : List (Nat × Nat)} {t : Addr} {a b : Nat} (h : PrAll K G xs ds) (e : SqT K G t [.int (a : Int), .int (b : Int)]) : PrAll K G (xs ++ [.ref t]) (ds ++ [(a, b)]) := h.app (.one e)
theorem if_join {b : Bool} {te tu : TE} {σ : L2.St} {H : Hp} {Q : VK} (R : V → Prop) (h1 : b = true → ∀ Q' : VK, (∀ v, R v → Q' v H) → te σ H Q') (h2 : b = false → ∀ Q' : VK, (∀ v, R v → Q' v H) → tu σ H Q') (q : ∀ v, R v → Q v H) :
    if b = true then te σ H Q else tu σ H Q := by
  cases b with
  | true => exact h1 rfl Q q
  | false => exact h2 rfl Q q
theorem lcR1t {σ : L2.St} {G H : Hp} {Q : VK} {g : TG} {tt : TT} {te : TE} {vs : List Nat} {M : Addr → Prop} {j : Int} {n : Nat} (e : j.toNat = n) (hb : -(2 ^ 62) ≤ j ∧ j < 2 ^ 62) (hn : n < 2 ^ 20) (g0 : Same G H) (Pv : Nat → List V → Hp → Hp → Prop)
    (h0 : ∀ L, H L = none → Pv 0 [] G (upd H L (.lst [])))
    (hst : ∀ L (i : Nat) acc G' H' (Em : V → Hp → Prop) (Sk : Hp → Prop), i < n → H L = none → H' L = some (.lst acc) → G' L = none → acc.length ≤ i → Stp M G H G' H' → Pv i acc G' H' →
      (∀ y G2 H2, Stp M G H G2 H2 → H2 L = some (.lst acc) → G2 L = none → Pv (i + 1) (acc ++ [y]) G2 (upd H2 L (.lst (acc ++ [y]))) → Em y H2) →
      (∀ G2 H2, Stp M G H G2 H2 → H2 L = some (.lst acc) → G2 L = none → Pv (i + 1) acc G2 H2 → Sk H2) →
      g (.int (i : Int)) (wipe σ vs) H' fun σ2 H2 => wipe σ2 vs = wipe σ vs ∧ tt σ2 H2 fun b H3 => if b = true then te σ2 H3 Em else Sk H3)
    (hd : ∀ L acc G' H', H L = none → acc.length ≤ n → Stp M G H G' H' → H' L = some (.lst acc) → G' L = none → Pv n acc G' H' → Q (.ref L) H') :
    ∃ j' : Int, [V.int j] = [.int j'] ∧ -(2 ^ 62) ≤ j' ∧ j' < 2 ^ 62 ∧ LcJ g tt te vs σ Q (Itr 0 j'.toNat) H := by
  subst e
  refine ⟨j, rfl, hb.1, hb.2, ?_⟩
  refine lc_by (M := M) (Y := fun i x => x = .int (0 + (i : Int))) walk_range hn g0 Pv h0 (fun _ _ _ _ _ _ _ => trivial) (fun L i x acc G' H' Em Sk h1 h2 h3 h4 h5 h6 h7 h8 h9 h10 => ?_) hd
  subst h8
  rw [Int.zero_add]
  exact hst L i acc G' H' Em Sk h1 h2 h3 h4 h5 h6 h7 h9 h10
def PrIn (m : Nat) (ps : List (Nat × Nat)) : Prop := ∀ q ∈ ps, q.1 < m ∧ q.2 < m
/-- what is made of pairs so far -/
def PrP (K : PySem.W.Frag) (m i : Nat) (acc : List V) (G : Hp) : Prop := ∃ ps, PrAll K G acc ps ∧ ps.length ≤ i ∧ PrIn m ps
theorem PrP.nil {K : PySem.W.Frag} {m i : Nat} {G : Hp} : PrP K m i [] G := ⟨[], .nil, Nat.zero_le _, fun _ h => by cases h⟩
theorem pair_em {K : PySem.W.Frag} {M : Addr → Prop} {G H G' H' : Hp} {acc : List V} {L t : Addr} {a b m i : Nat} {va vb : Int} {Em : V → Hp → Prop} (ea : va = (a : Int)) (eb : vb = (b : Int)) (st : Stp M G H G' H') (hL' : H' L = some (.lst acc)) (gL : G' L = none) (pv : PrP K m i acc G') (nt : H' t = none)
    (hEm : ∀ y G2 H2, Stp M G H G2 H2 → H2 L = some (.lst acc) → G2 L = none → PrP K m (i + 1) (acc ++ [y]) G2 → Em y H2) (ha : a < m) (hb : b < m) : Em (.ref t) (upd H' t (.tup [.int va, .int vb])) := by
  subst ea eb
  obtain ⟨ps, hps, hpl, hpi⟩ := pv
  have sN : Stp M G' H' (upd G' t (.tup [.int (a : Int), .int (b : Int)])) (upd H' t (.tup [.int (a : Int), .int (b : Int)])) := Stp.new st.gh nt
  have nLt : L ≠ t := ne_of_none hL' nt
  refine hEm _ _ _ (st.trans sN) (by rw [upd_ne nLt]; exact hL') (by rw [upd_ne nLt]; exact gL) ⟨ps ++ [(a, b)], (hps.same sN.gg).snoc (tof upd_same), by rw [List.length_append]; exact Nat.succ_le_succ hpl, fun e he => ?_⟩
  rcases List.mem_append.mp he with he | he
  · exact hpi e he
  · rw [List.mem_singleton.mp he]
    exact ⟨ha, hb⟩
theorem pair_emP {K : PySem.W.Frag} {M : Addr → Prop} {G H G' H' : Hp} {acc : List V} {L t p : Addr} {a b m i c : Nat} {va vb : Int} {Em : V → Hp → Prop} (ea : va = (a : Int)) (eb : vb = (b : Int)) (st : Stp M G H G' H') (hL' : H' L = some (.lst acc)) (gL : G' L = none) (pv : PrP K m i acc G') (nt : H' t = none)
    (hEm : ∀ y G2 H2, Stp M G H G2 H2 → H2 L = some (.lst acc) → G2 L = none → PrP K m (i + 1) (acc ++ [y]) G2 ∧ Pen K G2 p c (upd H2 L (.lst (acc ++ [y]))) → Em y H2) (ha : a < m) (hb : b < m) (hp : Pen K G' p c H') : Em (.ref t) (upd H' t (.tup [.int va, .int vb])) := by
  subst ea eb
  obtain ⟨ps, hps, hpl, hpi⟩ := pv
  have sN : Stp M G' H' (upd G' t (.tup [.int (a : Int), .int (b : Int)])) (upd H' t (.tup [.int (a : Int), .int (b : Int)])) := Stp.new st.gh nt
  have nLt : L ≠ t := ne_of_none hL' nt
  refine hEm _ _ _ (st.trans sN) (by rw [upd_ne nLt]; exact hL') (by rw [upd_ne nLt]; exact gL) ⟨⟨ps ++ [(a, b)], (hps.same sN.gg).snoc (tof upd_same), by rw [List.length_append]; exact Nat.succ_le_succ hpl, fun e he => ?_⟩, ?_⟩
  · rcases List.mem_append.mp he with he | he
    · exact hpi e he
    · rw [List.mem_singleton.mp he]
      exact ⟨ha, hb⟩
  · exact (hp.stp (Stp.new (M := M0) st.gh nt) (fun z => z)).upd (hp.ne hL')
theorem PrIn.app {m : Nat} {ps qs : List (Nat × Nat)} (h : PrIn m ps) (h' : PrIn m qs) : PrIn m (ps ++ qs) := fun e he => by
  rcases List.mem_append.mp he with he | he
  · exact h e he
  · exact h' e he
theorem r_cat {H : Hp} {Q : VK} {l b : Addr} {xs zs : List V} (h : H l = some (.lst xs)) (h' : H b = some (.lst zs)) (hl : xs.length + zs.length ≤ sizeLine) (q : ∀ p, H p = none → Q (.ref p) (upd H p (.lst (xs ++ zs)))) : rCat (.ref l) (.ref b) H Q := ⟨l, b, xs, zs, rfl, rfl, h, h', hl, q⟩
theorem r_extend {H : Hp} {Q : VK} {l b : Addr} {xs zs : List V} (h : H l = some (.lst xs)) (h' : H b = some (.lst zs)) (hl : xs.length + zs.length ≤ sizeLine) (q : Q .non (upd H l (.lst (xs ++ zs)))) : rExtend (.ref l) [.ref b] H Q := ⟨l, b, xs, zs, rfl, rfl, h, h', hl, q⟩
/-! tuples made of tuples, told as known -/
section
variable {K : PySem.W.Frag} {G H : Hp} {Q : VK} {a b : Addr} {xs ys : List V} {lo hi : Option Int}
theorem kn_slT (g : Same G H) (h : SqT K G a xs) (q : ∀ r G' H', Stp M0 G H G' H' → SqT K G' r (cutV xs lo hi) → Q (.ref r) H') : rSlA K (.ref a) lo hi H Q := by
  refine ⟨a, xs, rfl, Same.sqt g h, fun hw => ?_, fun _ p np => q p (upd G p _) _ (Stp.new g np) (tof upd_same)⟩
  refine q a G H (Stp.refl g) ?_
  have e : cutV xs lo hi = xs := by
    unfold cutV
    rw [hw.1, hw.2, List.drop_zero, Nat.sub_zero]
    exact List.take_of_length_le (Nat.le_refl _)
  rw [e]
  exact h
theorem kn_cat (g : Same G H) (h : SqT K G a xs) (h' : SqT K G b ys) (hl : xs.length + ys.length ≤ sizeLine) (q : ∀ r G' H', Stp M0 G H G' H' → SqT K G' r (xs ++ ys) → Q (.ref r) H') : rCatA K (.ref a) (.ref b) H Q := by
  refine ⟨a, b, xs, ys, rfl, rfl, Same.sqt g h, Same.sqt g h', hl, fun e => ?_, fun _ e => ?_, fun _ _ p np => q p (upd G p _) _ (Stp.new g np) (tof upd_same)⟩
  · subst e
    exact q b G H (Stp.refl g) h'
  · subst e
    exact q a G H (Stp.refl g) (by rw [List.append_nil]; exact h)
def RevQ (K : PySem.W.Frag) (H1 : Hp) (Q : VK) (x : V) : Prop := ∃ a xs, x = .ref a ∧ SqT K H1 a xs ∧ ∀ p, H1 p = none → Q (.ref p) (upd H1 p (.tup xs.reverse))
theorem r_revQ {te : TE} {σ : L2.St} (h : te σ H fun x H1 => RevQ K H1 Q x) : tRevT K te σ H Q := h
theorem kn_rev (g : Same G H) (h : SqT K G a xs) (q : ∀ r G' H', Stp M0 G H G' H' → SqT K G' r xs.reverse → Q (.ref r) H') : RevQ K H Q (.ref a) :=
  ⟨a, xs, rfl, Same.sqt g h, fun p np => q p (upd G p _) _ (Stp.new g np) (tof upd_same)⟩
theorem tyx_tup (h : SqT K H a xs) : TyX K H (.ref a) (.type "tuple") := by
  rcases h with (h | ⟨o, h⟩) | ⟨o, _, _, h, c, _⟩
  · exact .base (.tup h)
  · exact .fTuple h
  · exact .kTuple h c
theorem isi_tup (h : SqT K H a xs) (q : Q (.bl true) H) : rIsi K [.ref a, .ty "tuple"] H Q :=
  ⟨.ref a, .ty "tuple", .type "tuple", .type "tuple", true, rfl, .ty "tuple", tyx_tup h, by unfold PySem.W.kitOne; rw [if_pos (by simp)], q⟩
end
/-! slices of texts in a row -/
theorem cut_to (ws : List Str) (n : Nat) : cutV (ws.map V.str) none (some (n : Int)) = (ws.take n).map V.str := by
  unfold cutV
  rw [HT.sIx_nat, HT.sIx_none, List.drop_zero, List.length_map, Nat.sub_zero, List.map_take]
  rcases Nat.le_total n ws.length with h | h
  · rw [Nat.min_eq_left h]
  · rw [Nat.min_eq_right h, List.take_of_length_le (by rw [List.length_map]; exact Nat.le_refl _), List.take_of_length_le (by rw [List.length_map]; exact h)]
theorem cut_from (ws : List Str) (n : Nat) : cutV (ws.map V.str) (some (n : Int)) none = (ws.drop n).map V.str := by
  unfold cutV
  rw [HT.sIx_nat, HT.sIx_none, List.length_map, List.map_drop]
  rcases Nat.le_total n ws.length with h | h
  · rw [Nat.min_eq_left h, List.take_of_length_le (by rw [List.length_drop, List.length_map]; exact Nat.le_refl _)]
  · rw [Nat.min_eq_right h, Nat.sub_self, List.take_zero, List.drop_of_length_le (by rw [List.length_map]; exact h)]
theorem cut_from' (ws : List Str) {i : Int} (n : Nat) (e : i = (n : Int)) : cutV (ws.map V.str) (some i) none = (ws.drop n).map V.str := by rw [e, cut_from]
theorem cut_to' (ws : List Str) {i : Int} (n : Nat) (e : i = (n : Int)) : cutV (ws.map V.str) none (some i) = (ws.take n).map V.str := by rw [e, cut_to]
/-! ### shrinking -/
def stepS (kept : List Str) (r : Str) : List Str := if kept.length > 1 ∧ kept[kept.length - 2]? = some r then kept.dropLast else kept ++ [r]
def shr (w : List Str) : List Str := w.foldl stepS []
theorem shr_snoc (w : List Str) (r : Str) : shr (w ++ [r]) = stepS (shr w) r := by unfold shr; rw [List.foldl_append]; rfl
theorem shr_app (u v : List Str) : shr (u ++ v) = v.foldl stepS (shr u) := by unfold shr; rw [List.foldl_append]
theorem stepS_len (k : List Str) (r : Str) : (stepS k r).length ≤ k.length + 1 := by
  unfold stepS
  split
  · rw [List.length_dropLast]; omega
  · rw [List.length_append]; simp
theorem foldl_len (w : List Str) : ∀ k, (w.foldl stepS k).length ≤ k.length + w.length := by
  induction w with
  | nil => intro k; simp
  | cons x w ih => intro k; have h := ih (stepS k x); have h2 := stepS_len k x; rw [List.foldl_cons, List.length_cons]; omega
theorem shr_len (w : List Str) : (shr w).length ≤ w.length := by have h := foldl_len w []; simp only [List.length_nil, Nat.zero_add] at h; exact h
/-- nothing goes straight back -/
def Rdc (k : List Str) : Prop := ∀ (i : Nat) (a b : Str), k[i]? = some a → k[i + 2]? = some b → a ≠ b
theorem get_dl {k : List Str} {i : Nat} {a : Str} (h : k.dropLast[i]? = some a) : k[i]? = some a ∧ i + 1 < k.length := by
  rw [List.getElem?_dropLast] at h
  split at h
  · rename_i c
    exact ⟨h, by omega⟩
  · cases h
theorem Rdc.step {k : List Str} {r : Str} (h : Rdc k) : Rdc (stepS k r) := by
  unfold stepS
  split
  · intro i a b ha hb
    exact h i a b (get_dl ha).1 (get_dl hb).1
  · rename_i c
    intro i a b ha hb
    by_cases hi : i + 2 < k.length
    · rw [List.getElem?_append_left (by omega)] at ha
      rw [List.getElem?_append_left hi] at hb
      exact h i a b ha hb
    · have hl : i + 2 < (k ++ [r]).length := by
        rcases Nat.lt_or_ge (i + 2) (k ++ [r]).length with z | z
        · exact z
        · rw [List.getElem?_eq_none z] at hb; cases hb
      rw [List.length_append] at hl
      have e : i + 2 = k.length := by simp at hl; omega
      rw [List.getElem?_append_left (by omega)] at ha
      rw [List.getElem?_append_right (by omega), e, Nat.sub_self] at hb
      intro z
      refine c ⟨by omega, ?_⟩
      rw [show k.length - 2 = i by omega, ha, z, ← Option.some.inj hb]
theorem Rdc.fold {w : List Str} : ∀ {k : List Str}, Rdc k → Rdc (w.foldl stepS k) := by
  induction w with
  | nil => intro k h; exact h
  | cons x w ih => intro k h; exact ih h.step
theorem Rdc.nil : Rdc [] := fun i a b h => by simp at h
theorem shr_rdc (w : List Str) : Rdc (shr w) := Rdc.nil.fold
theorem stepS_last (k : List Str) (r : Str) : (stepS k r)[(stepS k r).length - 1]? = some r := by
  unfold stepS
  split
  · rename_i c
    rw [List.length_dropLast, List.getElem?_dropLast, if_pos (by omega), show k.length - 1 - 1 = k.length - 2 by omega]
    exact c.2
  · rw [List.length_append]
    show (k ++ [r])[k.length + 1 - 1]? = some r
    rw [Nat.add_sub_cancel, List.getElem?_append_right (Nat.le_refl _), Nat.sub_self]
    rfl
theorem stepS_ne (k : List Str) (r : Str) : 1 ≤ (stepS k r).length := by
  have h := stepS_last k r
  rcases Nat.lt_or_ge 0 (stepS k r).length with z | z
  · exact z
  · rw [List.getElem?_eq_none (by omega)] at h; cases h
theorem dl_last {k : List Str} {x : Str} (h : k[k.length - 1]? = some x) : k.dropLast ++ [x] = k := by
  have hn : k ≠ [] := fun e => by subst e; simp at h
  have hp : 0 < k.length := List.length_pos_iff.mpr hn
  rw [List.getElem?_eq_getElem (by omega)] at h
  have e : k.getLast hn = x := by rw [List.getLast_eq_getElem]; exact Option.some.inj h
  rw [← e]
  exact List.dropLast_concat_getLast hn
/-- there and straight back -/
theorem step_back {k : List Str} {x y : Str} (hk : Rdc k) (hx : k[k.length - 1]? = some x) : stepS (stepS k y) x = k := by
  have hn : 0 < k.length := by
    rcases Nat.lt_or_ge 0 k.length with z | z
    · exact z
    · rw [List.getElem?_eq_none (by omega)] at hx; cases hx
  by_cases c : k.length > 1 ∧ k[k.length - 2]? = some y
  · have e1 : stepS k y = k.dropLast := by unfold stepS; rw [if_pos c]
    rw [e1]
    unfold stepS
    rw [if_neg]
    · exact dl_last hx
    · intro ⟨c1, c2⟩
      rw [List.length_dropLast] at c1 c2
      have h2 := (get_dl c2).1
      have h3 : k[(k.length - 1 - 2) + 2]? = some x := by rw [show k.length - 1 - 2 + 2 = k.length - 1 by omega]; exact hx
      exact hk _ _ _ h2 h3 rfl
  · have e1 : stepS k y = k ++ [y] := by unfold stepS; rw [if_neg c]
    rw [e1]
    unfold stepS
    rw [if_pos, List.dropLast_concat]
    refine ⟨by rw [List.length_append]; simp; omega, ?_⟩
    rw [List.length_append]
    show (k ++ [y])[k.length + 1 - 2]? = some x
    rw [show k.length + 1 - 2 = k.length - 1 by omega, List.getElem?_append_left (by omega)]
    exact hx
/-- what goes straight back may be taken out -/
theorem shr_red (u v : List Str) (x y : Str) : shr (u ++ x :: y :: x :: v) = shr (u ++ x :: v) := by
  rw [shr_app, shr_app, List.foldl_cons, List.foldl_cons, List.foldl_cons, List.foldl_cons, step_back (shr_rdc u).step (stepS_last _ _)]
theorem shr_irr {w : List Str} (h : Rdc w) : shr w = w := by
  have all : ∀ n, n ≤ w.length → shr (w.take n) = w.take n := by
    intro n
    induction n with
    | zero => intro _; rfl
    | succ n ih =>
      intro hn
      have e : w.take (n + 1) = w.take n ++ [w[n]] := by rw [List.take_add_one, List.getElem?_eq_getElem (by omega)]; rfl
      rw [e, shr_snoc, ih (by omega)]
      unfold stepS
      rw [if_neg]
      intro ⟨c1, c2⟩
      rw [List.length_take, Nat.min_eq_left (by omega)] at c1 c2
      rw [List.getElem?_take_of_lt (by omega)] at c2
      exact h (n - 2) _ _ c2 (by rw [show n - 2 + 2 = n by omega]; exact List.getElem?_eq_getElem (by omega)) rfl
  have h2 := all w.length (Nat.le_refl _)
  rwa [List.take_length] at h2
theorem shr_shr (w : List Str) : shr (shr w) = shr w := shr_irr (shr_rdc w)
theorem shr_last {w : List Str} {x : Str} (h : w[w.length - 1]? = some x) : (shr w)[(shr w).length - 1]? = some x := by
  rw [← dl_last h, shr_snoc]
  exact stepS_last _ _
theorem fold_head {w : List Str} : ∀ {k : List Str} {x : Str}, k[0]? = some x → (w.foldl stepS k)[0]? = some x := by
  induction w with
  | nil => intro k x h; exact h
  | cons y w ih =>
    intro k x h
    refine ih ?_
    unfold stepS
    split
    · rename_i c
      rw [List.getElem?_dropLast, if_pos (by omega)]
      exact h
    · have hp : 0 < k.length := by
        cases k with
        | nil => simp at h
        | cons z r => simp
      rw [List.getElem?_append_left hp]
      exact h
theorem shr_head (x : Str) (w : List Str) : (shr (x :: w))[0]? = some x := by
  show (w.foldl stepS (stepS [] x))[0]? = some x
  exact fold_head rfl
theorem shr_par (w : List Str) : (shr w).length % 2 = w.length % 2 := by
  have all : ∀ (w k : List Str), (w.foldl stepS k).length % 2 = (k.length + w.length) % 2 := by
    intro w
    induction w with
    | nil => intro k; rfl
    | cons x w ih =>
      intro k
      rw [List.foldl_cons, ih, List.length_cons]
      unfold stepS
      split
      · rw [List.length_dropLast]; omega
      · rw [List.length_append]; simp; omega
  have h := all w []
  simp only [List.length_nil, Nat.zero_add] at h
  exact h
theorem snoc_ind {α : Type} {R : List α → Prop} (h0 : R []) (h1 : ∀ l z, R l → R (l ++ [z])) (l : List α) : R l := by
  have all : ∀ l : List α, R l.reverse := by
    intro l
    induction l with
    | nil => exact h0
    | cons z l ih => rw [List.reverse_cons]; exact h1 _ z ih
  have h := all l.reverse
  rwa [List.reverse_reverse] at h
/-- out and straight back, put in -/
theorem shr_out (u v : List Str) : ∀ (o : List Str) (x : Str), shr (u ++ (x :: o) ++ (x :: o).reverse.tail ++ v) = shr (u ++ x :: v) := by
  intro o
  refine snoc_ind (R := fun o => ∀ (x : Str), shr (u ++ (x :: o) ++ (x :: o).reverse.tail ++ v) = shr (u ++ x :: v)) ?_ (fun o z ih => ?_) o
  · intro x
    simp
  · intro x
    rw [← ih x]
    have e1 : (x :: (o ++ [z])).reverse.tail = (x :: o).reverse := by simp
    obtain ⟨y, r, hr⟩ : ∃ y r, (x :: o).reverse = y :: r := by
      cases h : (x :: o).reverse with
      | nil => simp at h
      | cons y r => exact ⟨y, r, rfl⟩
    have e2 : x :: o = r.reverse ++ [y] := by rw [← List.reverse_reverse (x :: o), hr, List.reverse_cons]
    rw [e1, hr, ← List.cons_append, e2]
    have h := shr_red (u ++ r.reverse) (r ++ v) y z
    simp only [List.append_assoc, List.cons_append, List.nil_append, List.tail_cons] at h ⊢
    exact h
theorem while_k {c : TT} {tb : TS} {D : Ends} {σ : L2.St} {H : Hp} (W : Nat → L2.St → Hp → Prop) (m : Nat) (h0 : W m σ H)
    (hs : ∀ m σ H, W m σ H → ∀ Ct : Bool → Hp → Prop, (∀ H1, tb { D with nx := fun σ' H' => ∃ m', m' < m ∧ W m' σ' H', ct := fun σ' H' => ∃ m', m' < m ∧ W m' σ' H', bk := D.nx } σ H1 → Ct true H1) → (∀ H1, D.nx σ H1 → Ct false H1) → c σ H Ct) : tWhile c tb D σ H :=
  ⟨W, ⟨m, h0⟩, fun m σ H w => hs m σ H w _ (fun H1 h => by rw [if_pos rfl]; exact ⟨_, fun σ' H' q => q, h⟩) (fun H1 h => by rw [if_neg Bool.false_ne_true]; exact h)⟩
theorem List.mem_of_mem_dropLast' {α : Type} {l : List α} {z : α} (h : z ∈ l.dropLast) : z ∈ l := by
  rw [List.dropLast_eq_take] at h
  exact List.mem_of_mem_take h
theorem fold_mem {w : List Str} : ∀ {k : List Str} {z : Str}, z ∈ w.foldl stepS k → z ∈ k ∨ z ∈ w := by
  induction w with
  | nil => intro k z h; exact .inl h
  | cons x w ih =>
    intro k z h
    rcases ih h with h | h
    · unfold stepS at h
      split at h
      · exact .inl (List.mem_of_mem_dropLast' h)
      · rcases List.mem_append.mp h with h | h
        · exact .inl h
        · rw [List.mem_singleton.mp h]
          exact .inr List.mem_cons_self
    · exact .inr (List.mem_cons_of_mem _ h)
theorem shr_mem {w : List Str} {z : Str} (h : z ∈ shr w) : z ∈ w := by
  rcases fold_mem h with h | h
  · cases h
  · exact h
theorem iteN1 {A B : Prop} (h : B) : if (!true) = true then A else B := h
theorem iteN2 {A B : Prop} (h : A) : if (!false) = true then A else B := h
/-! own errors without fields: raised with nothing, caught by name, asked what they are -/
/-- what is asked of an own error's class at C -/
structure ErrC (K : PySem.W.Frag) (mg : Str → Option Value) (x : Str) (C : Addr) : Prop where
  g : mg x = some (.ref C)
  ex : PySem.W.excIn K C [.type "ValueError", .type "Exception", .type "BaseException", .type "object"] "ValueError.__new__" = true
  kp : PySem.W.keepIn K (.ref C) = true
  sb : PySem.W.subIn K (.ref C) (.type "BaseException") = some true
  ty : PySem.W.typeIn K (.ref C) = some (.type "type")
  ga : PySem.W.findIn K (.ref C) "__getattribute__" = some (some (.builtin "BaseException.__getattribute__"))
  gt : PySem.W.findIn K (.ref C) "__getattr__" = some none
  hd : PySem.W.hasDictIn K C = true
  cl : PySem.W.findIn K (.ref C) "__class__" = some (some (.builtin "object.__class__"))
  gs : PySem.W.specialIn K (.builtin "object.__class__") "__get__" = some (some (.builtin "getset_descriptor.__get__"))
  tk : PySem.W.takesIn K (.builtin "object.__class__") = some true
  mr : PySem.W.mroIn K C (.type "object") = some true
theorem ErrC.exc {K : PySem.W.Frag} {mg : Str → Option Value} {x : Str} {C : Addr} (h : ErrC K mg x C) : ExcC K C := ⟨h.ga, h.gt, h.sb, h.hd, h.cl, h.gs, h.tk, h.mr⟩
section
variable {X : Cx} {C : Addr} {x : Str} {p pos : Pos}
theorem pmk_none (h : ErrC X.K X.mg x C) (hg : Gl X x) (hdb : (x == ("__debug__" : Str)) = false := by decide) : PMk X (.Call (.Name x p) [] [] pos) (fun _ H Q => Q (.ref C) none H) := by
  intro pins s σ H Q I q
  refine wpAny_Call_Name_kw (ld_glob I hg h.g ?_ hdb)
  refine PySem.W.callWith_K0 I.kIn h.kp ?_
  obtain ⟨bm, N, nm, qn, bs, hdct, sn, sub, ab, col, dd, k0, k1, k2, k3, k5, mN, hC, hN, hni, T⟩ := exc_obj I.kIn h.ex
  refine wpAny_call_exc_subT PySem.F.excBase_ValueError T hC hN hni (fun h' e hm => ?_) (Nat.zero_le _)
  exact mk_of I hm (raises_own h.sb h.ty) q (I.hok.gone hm.new)
variable {CX : CXT} {k k' : Nat} {ps : List Str} {sp : Sp} {E : L2.St → XK} {e : Expr} {es : List Expr} {t : TA}
theorem pe_dfS (F : Df X.prog X.w X.K X.mg X.base CX k x ps sp) (hr : Room k' X.A) (hg : Gl X x) (hx : ∀ σ, PassesAt CX X σ (E σ)) (ha : PA X (e :: es) t) (hk : k ≤ k' := by decide)
    (hdb : (x == ("__debug__" : Str)) = false := by decide) (he : starEach (e :: es) X.env = (false, eval e X.env) :: starEach es X.env := by rfl) (hpl : (backTo pos (starEach es X.env)).any (·.1) = false := by rfl) :
    PE X (.Call (.Name x p) (e :: es) [] pos) (tCallS sp E t) := by
  obtain ⟨f, fd, F, hm, hkp, hb⟩ := F
  exact pe_callS F (hr.mono hk) hg hm hkp hb hx ha hdb he hpl
theorem r_callS {σ : L2.St} {H : Hp} {Q : VK} (h : t σ H fun vs H1 => sp vs H1 Q (E σ)) : tCallS sp E t σ H Q := h
/-- isinstance(e, (A, B)), e the error that the suite holds -/
def rIsET (K : PySem.W.Frag) (D a : Addr) : List V → Hp → VK → Prop := fun xs H Q => ∃ (tp : Addr) (cs : List V) (us : List Value) (b : Bool), xs = [.ref a, .ref tp] ∧ H tp = some (.tup cs) ∧ Paired ClsV cs us ∧ PySem.W.kitAny K (.ref D) us = some b ∧ Q (.bl b) H
theorem call_isET {a D : Addr} {oe : Obj} {pn : List (Addr × Obj)} (C : ExcC X.K D) (hz : Zc (.ref D) none oe) (hf : ∃ vs, oe.data = .fields vs) : CallR (X.suite a ((a, oe) :: pn)) (.builtin "isinstance") (rIsET X.K D a) := by
  intro pins s σ H xs us Q I r h
  obtain ⟨tp, cs, ws, b, rfl, hT, kc, e, q⟩ := h
  obtain ⟨u1, u2, rfl, r1, r2⟩ := vals2 r
  cases (show u1 = Value.ref a from r1)
  cases (show u2 = Value.ref tp from r2)
  have hp := (I.pin (a, oe) (List.mem_append_left _ List.mem_cons_self)).1
  obtain ⟨vs, hv⟩ := hf
  obtain ⟨hz1, hz2⟩ := hz
  have J : PySem.W.InstAt s.heap a oe D none := by
    cases oe with
    | mk c1 c2 c3 c4 =>
      simp only at hz1 hz2 hv
      rw [hz1, hz2, hv] at hp ⊢
      exact ⟨hp, rfl, rfl, trivial⟩
  have hO : ObjOk X.prog X.w H s.heap tp (.tup cs) := I.hok tp _ hT
  obtain ⟨_, its, rv, ⟨oc, od, dt, sl⟩, h1, h2, n, h3⟩ := hO
  have e3 := ClsV.all kc rv
  subst e3
  simp only at h2 h3
  subst h2 h3
  exact PySem.W.kia_tup (PySem.W.handS_kitx_exc C.hg C.hk C.hs C.hd C.ha C.hn C.ht C.hm) I.kIn J h1 e (fun z => nomatch z) fun tk => ⟨.bl b, H, I.kept (t' := tk) fun _ _ z => z, rfl, q⟩
end
section
variable {K : PySem.W.Frag} {D a tp : Addr} {H : Hp} {Q : VK} {c : V} {cv : Value} {b : Bool} {cs : List V} {us : List Value}
theorem c_isE (hc : ∀ u, RelV c u → u = cv) (e : PySem.W.kitOne K (.ref D) cv = some b) (q : Q (.bl b) H) : rIsE K D a [.ref a, c] H Q := ⟨c, cv, b, rfl, hc, e, q⟩
theorem c_isET (h : H tp = some (.tup cs)) (hc : Paired ClsV cs us) (e : PySem.W.kitAny K (.ref D) us = some b) (q : Q (.bl b) H) : rIsET K D a [.ref a, .ref tp] H Q := ⟨tp, cs, us, b, rfl, h, hc, e, q⟩
end
theorem pss_under {X : Cx} {R : Prop} {st : List Stmt} {t : TS} (h : R → PSs X st t) : PSs X st (fun D σ H => R ∧ t D σ H) := ⟨fun pins s σ H D I q => (h q.1).run pins s σ H D I q.2⟩
theorem zc_of {cls : Value} {C : Addr} {d : Option Addr} {oe : Obj} (h : cls = Value.ref C ∧ d = none) (z : Zc cls d oe) : Zc (.ref C) none oe := by
  obtain ⟨h1, h2⟩ := h
  subst h1 h2
  exact z
/-! ### walks one behind another -/
/-- what goes straight back taken out, again and again -/
inductive Rs : List Str → List Str → Prop
  | refl (w : List Str) : Rs w w
  | step {u v w : List Str} {x y : Str} : Rs (u ++ x :: v) w → Rs (u ++ x :: y :: x :: v) w
theorem Rs.shr {a b : List Str} (h : Rs a b) : TT.shr a = TT.shr b := by
  induction h with
  | refl w => rfl
  | step _ ih => rw [shr_red, ih]
theorem Rs.trans {a b c : List Str} (h : Rs a b) (h' : Rs b c) : Rs a c := by
  induction h with
  | refl w => exact h'
  | step _ ih => exact .step (ih h')
theorem Rs.app {a b : List Str} (u v : List Str) (h : Rs a b) : Rs (u ++ a ++ v) (u ++ b ++ v) := by
  induction h with
  | refl w => exact .refl _
  | @step u' v' w x y _ ih =>
    have e1 : u ++ (u' ++ x :: y :: x :: v') ++ v = (u ++ u') ++ x :: y :: x :: (v' ++ v) := by simp
    have e2 : u ++ (u' ++ x :: v') ++ v = (u ++ u') ++ x :: (v' ++ v) := by simp
    rw [e1]
    rw [e2] at ih
    exact .step ih
theorem Rs.rev {a b : List Str} (h : Rs a b) : Rs a.reverse b.reverse := by
  induction h with
  | refl w => exact .refl _
  | @step u v w x y _ ih =>
    have e1 : (u ++ x :: y :: x :: v).reverse = v.reverse ++ x :: y :: x :: u.reverse := by simp
    have e2 : (u ++ x :: v).reverse = v.reverse ++ x :: u.reverse := by simp
    rw [e1]
    rw [e2] at ih
    exact .step ih
theorem Rs.one (u v : List Str) (x y : Str) : Rs (u ++ x :: y :: x :: v) (u ++ x :: v) := .step (.refl _)
theorem rs_step (k : List Str) (r : Str) : Rs (k ++ [r]) (stepS k r) := by
  unfold stepS
  split
  · rename_i c
    have e1 : k.dropLast.dropLast ++ [r] = k.dropLast := by
      refine dl_last ?_
      rw [List.length_dropLast, List.getElem?_dropLast, if_pos (by omega), show k.length - 1 - 1 = k.length - 2 by omega]
      exact c.2
    obtain ⟨z, hz⟩ : ∃ z, k[k.length - 1]? = some z := ⟨_, List.getElem?_eq_getElem (by omega)⟩
    have e2 : k = k.dropLast.dropLast ++ [r] ++ [z] := by rw [e1]; exact (dl_last hz).symm
    have h := Rs.one k.dropLast.dropLast [] r z
    have e3 : k ++ [r] = k.dropLast.dropLast ++ r :: z :: [r] := by
      conv => lhs; rw [e2]
      simp
    rw [e1] at h
    rw [e3]
    exact h
  · exact .refl _
theorem rs_shr (w : List Str) : Rs w (shr w) := by
  refine snoc_ind (R := fun w => Rs w (shr w)) (.refl _) (fun l z ih => ?_) w
  rw [shr_snoc]
  have h := ih.app [] [z]
  exact h.trans (rs_step _ _)
theorem shr_in (u v w : List Str) : shr (u ++ shr v ++ w) = shr (u ++ v ++ w) := ((rs_shr v).app u w).shr.symm
theorem shr_rev (w : List Str) : shr w.reverse = (shr w).reverse := by
  rw [(rs_shr w).rev.shr]
  refine shr_irr fun i a b ha hb e => ?_
  have hl : i + 2 < (shr w).length := by
    rcases Nat.lt_or_ge (i + 2) (shr w).reverse.length with z | z
    · rwa [List.length_reverse] at z
    · rw [List.getElem?_eq_none z] at hb; cases hb
  rw [List.getElem?_reverse (by omega)] at ha hb
  refine shr_rdc w ((shr w).length - 1 - (i + 2)) b a hb ?_ e.symm
  rw [show (shr w).length - 1 - (i + 2) + 2 = (shr w).length - 1 - i by omega]
  exact ha
/-- last, first -/
def lst (w : List Str) : Option Str := w[w.length - 1]?
def fst0 (w : List Str) : Option Str := w[0]?
theorem lst_dl {w : List Str} {x : Str} (h : lst w = some x) : w.dropLast ++ [x] = w := dl_last h
theorem fst_tl {w : List Str} {x : Str} (h : fst0 w = some x) : x :: w.tail = w := by
  cases w with
  | nil => cases h
  | cons y r => rw [← Option.some.inj h]; rfl
theorem lst_shr {w : List Str} {x : Str} (h : lst w = some x) : lst (shr w) = some x := shr_last h
theorem fst_shr {w : List Str} {x : Str} (h : fst0 w = some x) : fst0 (shr w) = some x := by
  rw [← fst_tl h]
  exact shr_head x _
theorem lst_rev {w : List Str} {x : Str} (h : fst0 w = some x) : lst w.reverse = some x := by
  rw [← fst_tl h, List.reverse_cons]
  unfold lst
  rw [List.length_append]
  show (w.tail.reverse ++ [x])[w.tail.reverse.length + 1 - 1]? = some x
  rw [Nat.add_sub_cancel, List.getElem?_append_right (Nat.le_refl _), Nat.sub_self]
  rfl
theorem fst_rev {w : List Str} {x : Str} (h : lst w = some x) : fst0 w.reverse = some x := by
  rw [← lst_dl h, List.reverse_append]
  rfl
/-- one behind the other -/
def beh (a b : List Str) : List Str := shr (a ++ b.tail)
theorem glue {a b : List Str} {x : Str} (ha : lst a = some x) (hb : fst0 b = some x) : a ++ b.tail = a.dropLast ++ b := by
  conv => lhs; rw [← lst_dl ha]
  conv => rhs; rw [← fst_tl hb]
  simp
theorem fst_app {a b : List Str} {x : Str} (h : fst0 a = some x) : fst0 (a ++ b) = some x := by
  rw [← fst_tl h]
  rfl
theorem lst_app {a b : List Str} {x y : Str} (ha : lst a = some x) (hb : fst0 b = some x) (hl : lst b = some y) : lst (a ++ b.tail) = some y := by
  rw [glue ha hb, ← lst_dl hl, ← List.append_assoc]
  unfold lst
  rw [List.length_append]
  show (a.dropLast ++ b.dropLast ++ [y])[(a.dropLast ++ b.dropLast).length + 1 - 1]? = some y
  rw [Nat.add_sub_cancel, List.getElem?_append_right (Nat.le_refl _), Nat.sub_self]
  rfl
theorem fst_beh {a b : List Str} {x : Str} (h : fst0 a = some x) : fst0 (beh a b) = some x := fst_shr (fst_app h)
theorem lst_beh {a b : List Str} {x y : Str} (ha : lst a = some x) (hb : fst0 b = some x) (hl : lst b = some y) : lst (beh a b) = some y := lst_shr (lst_app ha hb hl)
theorem beh_shr {a b : List Str} {x : Str} (ha : lst a = some x) (hb : fst0 b = some x) : beh (shr a) (shr b) = beh a b := by
  unfold beh
  rw [glue (lst_shr ha) (fst_shr hb), glue ha hb]
  have h1 := ((rs_shr a).app [] b.tail).shr
  rw [← glue ha hb, ← glue (lst_shr ha) (fst_shr hb)]
  have h2 : shr (shr a ++ (shr b).tail) = shr (shr a ++ b.tail) := by
    rw [glue (lst_shr ha) (fst_shr hb), glue (lst_shr ha) hb]
    have h := shr_in (shr a).dropLast b []
    simpa using h
  rw [h2]
  simpa using h1.symm
theorem beh_assoc {a b c : List Str} {x y : Str} (ha : lst a = some x) (hb : fst0 b = some x) (hl : lst b = some y) (hc : fst0 c = some y) : beh (beh a b) c = beh a (beh b c) := by
  unfold beh
  have h1 : shr (shr (a ++ b.tail) ++ c.tail) = shr (a ++ b.tail ++ c.tail) := by
    have h := shr_in [] (a ++ b.tail) c.tail
    simpa using h
  have hbc : fst0 (shr (b ++ c.tail)) = some x := fst_shr (fst_app hb)
  rw [h1, glue ha hbc, glue ha hb]
  have h := shr_in a.dropLast (b ++ c.tail) []
  simp only [List.append_nil] at h
  rw [h, List.append_assoc]
theorem beh_back {a : List Str} {x : Str} (h : fst0 a = some x) : beh a a.reverse = [x] := by
  unfold beh
  have e := shr_out [] [] a.tail x
  rw [fst_tl h] at e
  simp only [List.nil_append, List.append_nil] at e
  rw [e]
  exact shr_irr fun i p q hp hq => by
    rw [List.getElem?_eq_none (by simp)] at hq
    cases hq
theorem beh_rev {a b : List Str} {x : Str} (ha : lst a = some x) (hb : fst0 b = some x) : beh b.reverse a.reverse = (beh a b).reverse := by
  unfold beh
  rw [← shr_rev]
  congr 1
  rw [glue (lst_rev hb) (fst_rev ha)]
  conv => lhs; rw [← lst_dl ha]
  conv => lhs; rw [← fst_tl hb]
  conv => rhs; rw [← lst_dl ha]
  simp
/-! ### t * k, k from 1; in a dict -/
theorem tuple_mulW1 (l : Addr) (items : Array Value) (n : Nat) (sl : Array (Option Value)) (dd : Option Addr) (x : Int) (u : Tok) (c0 : (decide (x < -(2 ^ 63)) || decide (x ≥ 2 ^ 63)) = false) (c1 : (items.isEmpty || x == 1) = true) :
    Meets (Builtin.«tuple.__mul__» ⟨[.ref l, .int x u], []⟩) (fun _ R s => s.heap.get? l = some { cls := .type "tuple", dict := dd, data := .seq items n, slots := sl } ∧
      R (.ok (.ret (Value.ref l))) s) :=
  .of_wp fun prog w A R s h => by
    obtain ⟨hp, g, d, tk, os⟩ := s
    obtain ⟨hl, h⟩ := h
    have f1 := AutoSeq1.idx_int
    wp_walk using wpAny_loadPart' hl
    repeat (first
      | (refine wpAny_ite_false (decide_eq_false (by rw [c0]; exact Bool.false_ne_true)) ?_; wp_walk using wpAny_loadPart' hl)
      | (refine wpAny_ite_true (decide_eq_true (by rw [c1])) ?_; wp_walk using wpAny_loadPart' hl))
    exact ⟨_, rfl, h⟩
def rRepA (K : PySem.W.Frag) : R2 := fun x y H Q => ∃ l k xs, x = .ref l ∧ y = .int k ∧ SqT K H l xs ∧ xs ≠ [] ∧ 1 ≤ k ∧ k ≤ 1000 ∧ xs.length ≤ 1000 ∧ (k = 1 → Q (.ref l) H) ∧ (2 ≤ k → ∀ p, H p = none → Q (.ref p) (upd H p (.tup (List.replicate k.toNat xs).flatten)))
section
variable {X : Cx}
theorem op_repA : OpR X (binaryOp .Mult) (rRepA X.K) := by
  intro pins s σ H x y v u Q I rx ry h
  obtain ⟨l, k, xs, rfl, rfl, hT, hne, h1, h2, hz, q1, q2⟩ := h
  by_cases hk : 2 ≤ k
  · exact op_repT pins s σ H _ _ v u Q I rx ry ⟨l, k, xs, rfl, rfl, hT, hne, hk, h2, hz, q2 hk⟩
  have ek : k = 1 := by omega
  subst ek
  cases rx
  obtain ⟨t, rfl⟩ := ry
  obtain ⟨its, r, ⟨⟨cls, dd, data, sl⟩, ho, hc, n, hd⟩, hs⟩ := I.tuple hT
  simp only at hc hd
  subst hc hd
  have c0 : (decide ((1 : Int) < -(2 ^ 63)) || decide ((1 : Int) ≥ 2 ^ 63)) = false := by decide
  have c1 : (its.toArray.isEmpty || (1 : Int) == 1) = true := by rw [Bool.or_eq_true]; exact .inr rfl
  refine wpAny_binaryOp_repeat_ref (T := "tuple") (U := "int") (by decide) ⟨_, ho, rfl⟩ (fun s' => typeIs_int s' 1 t) noFill_tuple_mul F.fills_int_mul F.slot_int_rmul repeat_tuple F.slot_int_index.lookup
    (call_meets F.slot_int_rmul (typeIs_int s 1 t) F.entry_int_rmul (F.args_int_rmul_2 _ _) (int_rmul_tuple 1 t l its.toArray n dd sl)
      ⟨ho, rfl, ⟨_, ho, rfl⟩, call_meets F.slot_tuple_mul ⟨_, ho, rfl⟩ F.entry_tuple_mul (F.args_tuple_mul_2 _ _) (tuple_mulW1 l its.toArray n sl dd 1 t c0 c1) ⟨ho, ?_⟩⟩)
  exact ⟨.ref l, H, I, rfl, q1 rfl⟩
end
theorem k_op_repA {X : Cx} {K : PySem.W.Frag} (e : X.K = K) : OpR X (binaryOp .Mult) (rRepA K) := by subst e; exact op_repA
section
variable {K : PySem.W.Frag} {G H : Hp} {Q : VK} {a : Addr} {xs : List V} {k : Int} {m : Nat}
theorem kn_rep (g : Same G H) (h : SqT K G a xs) (hne : xs ≠ []) (e : k = (m : Int)) (h1 : 1 ≤ m) (h2 : m ≤ 1000) (hz : xs.length ≤ 1000) (q : ∀ r G' H', Stp M0 G H G' H' → SqT K G' r (List.replicate m xs).flatten → Q (.ref r) H') : rRepA K (.ref a) (.int k) H Q := by
  subst e
  refine ⟨a, _, xs, rfl, rfl, Same.sqt g h, hne, by omega, by omega, hz, fun e => ?_, fun _ p np => q p (upd G p _) _ (Stp.new g np) (tof upd_same)⟩
  have em : m = 1 := by omega
  subst em
  refine q a G H (Stp.refl g) ?_
  have e2 : (List.replicate 1 xs).flatten = xs := by simp
  rw [e2]
  exact h
end
/-! in a dict of texts -/
section
variable {K : PySem.W.Frag} {H : Hp} {Q : VK} {σ : L2.St} {ty td : TE} {p : Addr} {kvs : List (Key × V)} {x : Str}
theorem r_din (h : ty σ H fun y H1 => td σ H1 fun x H2 => ∃ a o, x = .ref a ∧ DGet H2 a y o ∧ Q (.bl o.isSome) H2) : tDIn ty td σ H Q := h
theorem r_dnotin (h : ty σ H fun y H1 => td σ H1 fun x H2 => ∃ a o, x = .ref a ∧ DGet H2 a y o ∧ Q (.bl (!o.isSome)) H2) : tDNotIn ty td σ H Q := h
theorem dg_str (e : H p = some (.dK kvs)) : DGet H p (.str x) (valV kvs (Sum.inr x)) := DGet.k (k := Sum.inr x) e
theorem dp_str {v : V} (e : H p = some (.dK kvs)) (hl : kvs.length < sizeLine) : DPut H p (.str x) v (upd H p (.dK (putK kvs (Sum.inr x) v))) := DPut.k (k := Sum.inr x) e hl
end
/-! ### several suites, each with a name for the error -/
/-- the way on behind a suite: the name is gone -/
def offE (i : Nat) (D : Ends) : Ends := { nx := fun σ' H' => D.nx (σ'.set i none) H', rt := D.rt, bk := fun σ' H' => D.bk (σ'.set i none) H', ct := fun σ' H' => D.ct (σ'.set i none) H' }
abbrev Cl := Value × Nat × (Addr → Value → Option Addr → TS)
def wMore (K : PySem.W.Frag) (Wout : WX) (D : Ends) : List Cl → WX
  | [] => Wout
  | q :: r => fun cls d σ H => ∃ b, PySem.W.exmOne K cls q.1 = some b ∧ (b = true → ∀ a, H a = none → q.2.2 a cls d (offE q.2.1 D) (σ.set q.2.1 (some (.ref a))) H) ∧ (b = false → wMore K Wout D r cls d σ H)
inductive HsOk (X : Cx) : List ExceptHandler → List Cl → Prop
  | nil : HsOk X [] []
  | cons {x n : Str} {c : Value} {i : Nat} {ts : Addr → Value → Option Addr → TS} {b₀ : Stmt} {suite : List Stmt} {np pos' : Pos} {hds : List ExceptHandler} {l : List Cl} (hi : X.N[i]? = some n) (hln : X.env.kindOf n = some .local) (hc : Names X x c)
      (hsu : ∀ (a : Addr) (oe : Obj) (cls : Value) (d : Option Addr) (pn : List (Addr × Obj)), Zc cls d oe → (∃ vs, oe.data = .fields vs) → PSs (X.suite a ((a, oe) :: pn)) (b₀ :: suite) (ts a cls d)) (r : HsOk X hds l) :
      HsOk X (.ExceptHandler (some (.Name x np)) (some n) (b₀ :: suite) pos' :: hds) ((c, i, ts) :: l)
section
variable {X : Cx} {body : List Stmt} {h₀ : ExceptHandler} {hds : List ExceptHandler} {l : List Cl} {pos : Pos} {tb : WX → TS} {Wout : WX}
theorem ps_try_more (hs : X.stack = X.env :: X.outer) (hf : X.env.frame = some X.env.locals) (hN : X.N.Nodup) (tk : Takes X Wout)
    (hb : ∀ (W : WX) (pn : List (Addr × Obj)) (xe : Value → Shared → Prop), Takes (X.tr pn xe) W → PassesOwn (model X.prog X.w) X.A X.env xe → PSs (X.tr pn xe) body (tb W))
    (hh : HsOk X (h₀ :: hds) l) : PS X (.Try body (h₀ :: hds) [] [] pos) (fun D σ H => tb (wMore X.K Wout D l) D σ H) := by
  refine ⟨fun pins s σ H D I h => wpAny_Try_except ?_⟩
  have ok := I.ok
  have run := (hb (wMore X.K Wout D l) (X.pn ++ pins) (fun e s₁ => wpAny (model X.prog X.w) X.A (noteFrame e X.env) (fun _ s₂ => wpAny (model X.prog X.w) X.A (setFlight e none) (fun _ s₃ =>
    wpAny (model X.prog X.w) X.A (handleBy e X.env (h₀ :: hds)) (SP X pins D) X.xe s₃) X.xe s₂) X.xe s₁) (fun u s' xx => ?_) PassesOwn.looking).run [] s σ H D (I.toTry _) h
  · refine wpAny_mono run (fun f s1 hsp => ?_) (fun e s1 he => he)
    cases f with
    | next => obtain ⟨σ', H', J', q⟩ := hsp; exact wpAny_execs_nil ⟨σ', H', J'.ofTry ok, q⟩
    | brk => obtain ⟨σ', H', J', q⟩ := hsp; exact ⟨σ', H', J'.ofTry ok, q⟩
    | cont => obtain ⟨σ', H', J', q⟩ := hsp; exact ⟨σ', H', J'.ofTry ok, q⟩
    | ret u => obtain ⟨v, σ', H', J', r, q⟩ := hsp; exact ⟨v, σ', H', J'.ofTry ok, r, q⟩
  · obtain ⟨a, B, sI, pins', σ', H', cls, d, rfl, J', nb, up, sky, na, os, ag, w⟩ := xx
    have J : Inv X pins σ' H' sI := J'.ofTry ok
    have hfr : X.A.frames = some (X.env :: X.outer) := ok.frames.trans (congrArg some hs)
    have sky' : Sky B (X.env :: X.outer) a (Zc cls d) X.env.locals s'.heap := hs ▸ sky
    show wpAny (model X.prog X.w) X.A (noteFrame (.ref a) X.env) _ _ _
    refine Sky.land Zc.steady hfr hf sky' fun h3 fl3 up3 => ?_
    obtain ⟨oe3, vs3, he3, hz3, hd3⟩ := fl3.there
    have far : a ∉ frs (X.env :: X.outer) := fun hm => by
      obtain ⟨_, o', e', hnf⟩ := fl3.2.2.1.mem hm
      cases he3.symm.trans e'
      exact hnf _ hd3
    have nL : a ≠ X.env.locals := fun z => far (List.mem_filterMap.mpr ⟨X.env, List.mem_cons_self, hf.trans (congrArg some z.symm)⟩)
    have nF : a ∉ X.fs := fun hm => far (by
      obtain ⟨e, he, q⟩ := List.mem_filterMap.mp hm
      exact List.mem_filterMap.mpr ⟨e, List.mem_cons_of_mem _ he, q⟩)
    have J3 : Inv X pins σ' H' { s' with heap := h3 } := J.landed nb fl3.1 (up.trans up3) os ag
    have S3 := J3.suite he3 hd3 na nL nF
    suffices go : ∀ hs0 l0, HsOk X hs0 l0 → wMore X.K Wout D l0 cls d σ' H' → wpAny (model X.prog X.w) X.A (handleBy (.ref a) X.env hs0) (SP X pins D) X.xe { s' with heap := h3 } from go _ _ hh w
    clear w h hb hh
    intro hs0 l0 hk
    induction hk with
    | nil =>
      intro w
      refine wpAny_handleBy_nil ?_
      obtain ⟨k1, k2, k3, oe, vs, T, oT, ts', he, hz, hd, h1, hr⟩ := id fl3
      unfold PySem.passOn
      refine wpAny_bind (wpAny_field he hd h1 ?_)
      rw [if_neg (show ¬ ((Value.ref T == Value.none) = true) from by simp)]
      have fin : wpAny (model X.prog X.w) X.A (setFlight (.ref a) X.env.frame) (fun _ s4 => wpAny (model X.prog X.w) X.A (throw (.ref a) : Sem Flow) (SP X pins D) X.xe s4) X.xe { s' with heap := h3 } := by
        rw [hf]
        exact HandSPX.setFlight_upZ fl3 fun h4 hh4 up4 => wpAny_throw (tk _ _ ⟨a, B, sI, pins, σ', H', cls, d, rfl, J, nb, (up.trans up3).trans up4, .inr (.inr (hs ▸ hh4)), na, os, ag, w⟩)
      first
        | exact wpAny_bind (wpAny_pure (wpAny_bind fin))
        | exact wpAny_bind fin
    | @cons x n c i ts b₀ suite np pos' hds2 l2 hi hln hc hsu r ih =>
      intro w
      obtain ⟨b, hb1, hyes, hno⟩ := w
      refine wpAny_handleBy_cons (codeAny_handlers_test ?_) (by intro q; cases q)
      have LT : PySem.W.Looks (model X.prog X.w) h3 (typeOf (.ref a)) cls := fun A Q E s k q => wpAny_typeOf_ref (k _ _ he3) (by rw [hz3.1]; exact q)
      have LM := PySem.W.exm_one (M := model X.prog X.w) J3.kIn LT hb1
      have named : ∀ {Q : Value → Shared → Prop} {E : Value → Shared → Prop}, Q c { s' with heap := h3 } → wpAny (model X.prog X.w) (X.A.mark (some (.ref a))) (eval (.Name x np) X.env) Q E { s' with heap := h3 } := fun {Q E} q => by
        obtain ⟨hg, hdbg, hm | ⟨hm, hv, hnn⟩⟩ := hc
        · exact ld_glob (X := X.suite a ((a, oe3) :: (X.pn ++ pins))) S3 hg hm q hdbg
        · exact ld_blt (X := X.suite a ((a, oe3) :: (X.pn ++ pins))) S3 hg hm hv q hnn hdbg
      refine named (LM.here ?_)
      cases b with
      | false => exact ih (hno rfl)
      | true =>
        refine codeAny_handlers_suite_as (HandSPX.lands_againZ fl3 fun h4 fl4 up4 => ?_)
        obtain ⟨oe4, vs4, he4, hz4, hd4⟩ := fl4.there
        have J4 : Inv X pins σ' H' { s' with heap := h4 } := J.landed nb fl4.1 ((up.trans up3).trans up4) os ag
        have S4 := J4.suite he4 hd4 na nL nF
        refine store_ok (X := X.suite a ((a, oe4) :: (X.pn ++ pins))) (v := .ref a) S4 hN hi (.inl hln) rfl (fun s5 S5 => ?_) (.inr hln)
        refine wpAny_mono ((hsu a oe4 cls d (X.pn ++ pins) hz4 ⟨_, hd4⟩).run [] s5 _ H' _ S5 (hyes rfl a na)) (fun f s6 hsp => ?_) (fun _ _ z => False.elim z)
        cases f with
        | next => obtain ⟨σ6, H6, S6, q6⟩ := hsp; exact gone_ok (S6.unsuite ok) hN hi hln fun s7 J7 => ⟨_, _, J7, q6⟩
        | brk => obtain ⟨σ6, H6, S6, q6⟩ := hsp; exact gone_ok (S6.unsuite ok) hN hi hln fun s7 J7 => ⟨_, _, J7, q6⟩
        | cont => obtain ⟨σ6, H6, S6, q6⟩ := hsp; exact gone_ok (S6.unsuite ok) hN hi hln fun s7 J7 => ⟨_, _, J7, q6⟩
        | ret u => obtain ⟨v6, σ6, H6, S6, r6, q6⟩ := hsp; exact gone_ok (S6.unsuite ok) hN hi hln fun s7 J7 => ⟨_, _, _, J7, r6, q6⟩
end
section
variable {K : PySem.W.Frag} {Wout : WX} {D : Ends} {q : Cl} {r : List Cl} {cls : Value} {d : Option Addr} {σ : L2.St} {H : Hp} {A B : Addr}
theorem wm_yes (e : PySem.W.exmOne K cls q.1 = some true) (h : ∀ a, H a = none → q.2.2 a cls d (offE q.2.1 D) (σ.set q.2.1 (some (.ref a))) H) : wMore K Wout D (q :: r) cls d σ H := ⟨true, e, fun _ => h, fun z => nomatch z⟩
theorem wm_no (e : PySem.W.exmOne K cls q.1 = some false) (h : wMore K Wout D r cls d σ H) : wMore K Wout D (q :: r) cls d σ H := ⟨false, e, ⟨(fun z => by cases z), fun _ => h⟩⟩
theorem exm_kit (h : PySem.W.subIn K (.ref B) (.type "BaseException") = some true) (e : PySem.W.kitOne K (.ref A) (.ref B) = some false) : PySem.W.exmOne K (.ref A) (.ref B) = some false := by
  unfold PySem.W.exmOne
  rw [h]
  unfold PySem.W.kitOne at e
  split at e
  · cases e
  · exact e
end
theorem beh_mem {a b : List Str} {z : Str} (h : z ∈ beh a b) : z ∈ a ∨ z ∈ b := by
  rcases List.mem_append.mp (shr_mem h) with h | h
  · exact .inl h
  · exact .inr (List.mem_of_mem_tail h)
theorem beh_len (a b : List Str) : (beh a b).length ≤ a.length + b.length := by
  refine Nat.le_trans (shr_len _) ?_
  rw [List.length_append, List.length_tail]
  omega
theorem beh_ok {a b : List Str} (ha : ∀ z ∈ a, SOk z) (hb : ∀ z ∈ b, SOk z) : ∀ z ∈ beh a b, SOk z := fun z h => by
  rcases beh_mem h with h | h
  · exact ha z h
  · exact hb z h
theorem rev_ok {a : List Str} (ha : ∀ z ∈ a, SOk z) : ∀ z ∈ a.reverse, SOk z := fun z h => ha z (List.mem_reverse.mp h)
theorem shr_ok {a : List Str} (ha : ∀ z ∈ a, SOk z) : ∀ z ∈ shr a, SOk z := fun z h => ha z (shr_mem h)
theorem one_ok {x : Str} (h : SOk x) : ∀ z ∈ [x], SOk z := fun z e => by rw [List.mem_singleton.mp e]; exact h
theorem r_neT0 {K : PySem.W.Frag} {H : Hp} {p q : Addr} {ns : List Str} {Q : VK} (h : SqT K H p (ns.map V.str)) (h' : SqT K H q (ns.map V.str)) (a : ∀ z ∈ ns, SOk z) (k : Q (.bl false) H) : rNeD K (.ref p) (.ref q) H Q :=
  r_neTT h h' a a (by rw [decide_eq_true rfl]; exact k)
theorem beh_back' {a : List Str} {x : Str} (h : lst a = some x) : beh a.reverse a = [x] := by
  have e := beh_back (fst_rev h)
  rwa [List.reverse_reverse] at e
/-! ### defs that run where no repr is under way: repr(x) of data -/
/-- a def by its promise, called where no guard is set -/
structure FnG (P : Program) (w : World) (K : PySem.W.Frag) (mg : Str → Option Value) (base : Heap) (CX : CXT) (k : Nat) (f : Addr) (fd : FuncData) (ps : List Str) (sp : Sp) : Prop where
  len : ∀ vs H Q E, sp vs H Q E → vs.length = ps.length
  run : ∀ (A : Around) (outer : List Env) (s : Shared) (H : Hp) (args : Args) (us : List Value) (vs : List V) (Q : VK) (E : XK), A.guards = some [] → Room k A → Env0 P w K mg base A outer s H → BindsTo s fd args (ps.zip us) → Vals vs us → sp vs H Q E →
    codeAny (model P w) A (.call (.ref f) args) (CR CX outer P w H s Q E) s
theorem guards_deeper (A : Around) (env : Env) : (A.deeper env).guards = A.guards := rfl
theorem guards_caller : callerA.guards = some [] := rfl
section
variable {P : Program} {w : World} {K : PySem.W.Frag} {mg : Str → Option Value} {base : Heap}
theorem FnG.of {CX : CXT} {k : Nat} {f : Addr} {fd : FuncData} {ps : List Str} {sp : Sp} (F : FnOk P w K mg base CX k f fd ps sp) : FnG P w K mg base CX k f fd ps sp :=
  ⟨F.len, fun A outer s H args us vs Q E _ hr he hb hv hs => F.run A outer s H args us vs Q E hr he hb hv hs⟩
/-- by its body -/
theorem fnG_of {CX : CXT} {k : Nat} {f : Addr} {name qual : Str} {params : Arguments} {body : List Stmt} {scope : Scope} {dV kV doc pm cdv ct oc : Value} {an od : Option Addr}
    {osl : Array (Option Value)} {N ps : List Str} {sp : Sp} (lk : K.lookup f = some ⟨oc, od, .func (PySem.W.fnOf name qual params body scope dV kV doc pm an cdv ct), osl⟩) (hcd : PySem.W.codeIn K cdv qual = true) (S : FnScope N ps scope)
    (len : ∀ vs H Q E, sp vs H Q E → vs.length = ps.length)
    (hbody : ∀ (A : Around) (outer : List Env) (s : Shared) (H : Hp) (vs : List V) (Q : VK) (E : XK), A.guards = some [] → Room k (A.deeper (envOfC qual scope s.heap.objs.size f cdv)) → sp vs H Q E →
      ∃ t, PSs (cxOf CX P w K mg base N qual scope f cdv A outer s H E) body t ∧ t { nx := fun _ H' => Q .non H', rt := Q } (start N vs) H) :
    FnG P w K mg base CX (k + 1) f (PySem.W.fnOf name qual params body scope dV kV doc pm an cdv ct) ps sp := by
  refine ⟨len, fun A outer s H args us vs Q E hg hr e0 hb r hsp => ?_⟩
  have keep : ∀ {b : Addr} {o : Obj}, base.get? b = some o → s.heap.get? b = some o := fun {b o} e => (e0.bs b o e).1
  have kinds : ∀ y ∈ ps.zip us, scope.names.lookup y.1 = some .local ∨ (scope.names.lookup y.1 = some .cell ∧ ((cellsFrom (s.heap.objs.size + 1) scope.names []).lookup y.1).isSome = true) := by
    rintro ⟨n, v⟩ hy
    exact (S.par n (List.of_mem_zip hy).1).imp id fun q => ⟨q, PySem.W.cellsFrom_some _ _ _ (.inl q)⟩
  have KX : K.In s.heap := e0.mod.kin.keeps fun b o e => keep e
  refine codeAny_call_function hr.depth (KX _ _ lk) rfl S.co S.gen rfl (PySem.W.codeRec_of KX hcd) (hb _ _ _ _ (wpAny_newFunctionEnv_cells S.kind kinds fun env he s1 x => ?_))
  subst he
  refine ⟨(e0.mod.nolimit.keeps fun b o e => keep e).keeps x.toInCall.keep, codeAny_func ?_⟩
  obtain ⟨t, ht, hq⟩ := hbody A outer s H vs Q E hg (hr.deeper _) hsp
  refine wpAny_mono (ht.run [] s1 (start N vs) H _ (inv_start S hr.hd e0 (len _ _ _ _ hsp) r x) hq) (fun fl s' hs => ?_) fun e s' hs => hs
  cases fl with
  | ret u => obtain ⟨v, σ', H', J, rv, q⟩ := hs; exact ⟨v, H', J.os, J.bare, J.base, J.hok, rv, q⟩
  | next => obtain ⟨σ', H', J, q⟩ := hs; exact ⟨V.non, H', J.os, J.bare, J.base, J.hok, rfl, q⟩
  | brk => obtain ⟨_, _, _, q⟩ := hs; exact q.elim
  | cont => obtain ⟨_, _, _, q⟩ := hs; exact q.elim
theorem Fun.okG {x qual : Str} {st : Stmt} {f : Addr} {fd : FuncData} {N ps : List Str} {k : Nat} {sp : Sp} (F : Fun K x qual st f fd) (S : FnScope N ps (defScope st)) (len : ∀ vs H Q E, sp vs H Q E → vs.length = ps.length)
    (hbody : ∀ (cdv : Value) (A : Around) (outer : List Env) (s : Shared) (H : Hp) (vs : List V) (Q : VK) (E : XK), A.guards = some [] → Room k (A.deeper (envOfC qual (defScope st) s.heap.objs.size f cdv)) → sp vs H Q E →
      ∃ t, PSs (cxOf CX0 P w K mg base N qual (defScope st) f cdv A outer s H E).nox (defBody st) t ∧ t { nx := fun _ H' => Q .non H', rt := Q } (start N vs) H) : FnG P w K mg base CX0 (k + 1) f fd ps sp := by
  obtain ⟨oc, od, kV, doc, pm, an, cdv, ct, osl, rfl, lk, hcd⟩ := F.ex
  refine fnG_of lk hcd S len fun A outer s H vs Q E hg hr hsp => ?_
  obtain ⟨t, h, q⟩ := hbody cdv A outer s H vs Q E hg hr hsp
  exact ⟨t, h.nox, q⟩
end
/-! ### calls -/
section
variable {X : Cx} {CX : CXT} {k : Nat} {f C : Addr} {fd : FuncData} {ps : List Str} {sp : Sp} {dvs : List V} {ds : List Value} {E : XK} {x m : Str} {p pos apos : Pos} {e o : Expr} {es : List Expr} {ta : TE} {t : TA}
theorem runG {pins : List (Addr × Obj)} {σ : L2.St} {H : Hp} {s : Shared} {Q : VK} {us : List Value} {vs : List V} (F : FnG X.prog X.w X.K X.mg X.base CX k f fd ps sp) (gd : X.A.guards = some []) (hr : Room k X.A) (hb : Binds X.K fd ps ds) (hd : Vals dvs ds) (hx : Passes CX X E)
    (I : Inv X pins σ H s) (r : Vals vs us) (h : sp (vs ++ dvs) H Q E) : wpAny (model X.prog X.w) X.A (call (.ref f) us) (EP X pins σ Q) X.xe s := by
  have r2 : Vals (vs ++ dvs) (us ++ ds) := r.append hd
  have hl : (us ++ ds).length = ps.length := r2.length.symm.trans (F.len _ _ _ _ h)
  refine wpAny_call (codeAny_mono (F.run X.A X.stack s H ⟨us, []⟩ (us ++ ds) (vs ++ dvs) Q E gd hr I.env0 (hb s us I.kIn hl) r2 h) fun r s' hq => ?_)
  match r, hq with
  | .error e, hq => exact hx pins σ H s e s' I hq
  | .ok (.ret u), hq => exact I.after hq
theorem pe_callG (F : FnG X.prog X.w X.K X.mg X.base CX k f fd ps sp) (gd : X.A.guards = some []) (hr : Room k X.A) (hg : Gl X x) (hm : X.mg x = some (.ref f)) (hk : PySem.W.keepIn X.K (.ref f) = true) (hb : Binds X.K fd ps ds) (hd : Vals dvs ds) (hx : Passes CX X E)
    (ha : PA X (e :: es) t) (hdb : (x == ("__debug__" : Str)) = false := by decide) (he : starEach (e :: es) X.env = (false, eval e X.env) :: starEach es X.env := by rfl) (hpl : (backTo pos (starEach es X.env)).any (·.1) = false := by rfl) :
    PE X (.Call (.Name x p) (e :: es) [] pos) (tCall sp dvs E t) :=
  ⟨fun pins s σ H Q I h => wpAny_Call_Name_kw (ld_glob I hg hm (PySem.W.callWith_K (h₀ := X.base) I.ok.mod.kin hk (thn (ha.run pos pins s σ H _ I h) fun us s1 ⟨vs, H1, I1, r, q⟩ => ⟨I1.kIn, runG F gd hr hb hd hx I1 r q⟩) he hpl) hdb)⟩
end
/-! ### repr of data -/
def kRepr (K : PySem.W.Frag) : List V → Hp → VK → Prop := fun xs H Q => ∃ (a : Addr) (d : PyData), xs = [.ref a] ∧ Dp K H (.ref a) d ∧ d.showable = true ∧ d.hasDict = false ∧ d.depth ≤ 40 ∧ d.shown.length ≤ sizeLine ∧ Q (.str d.shown) H
theorem call_reprD {X : Cx} (gd : X.A.guards = some []) (hu : X.A.units + 64 < cLine) : CallR X (.builtin "repr") (kRepr X.K) := by
  intro pins s σ H xs us Q I r h
  obtain ⟨a, d, rfl, hD, hs, hn, hdp, hsz, q⟩ := h
  rw [Vals.ref1 r]
  obtain ⟨as, rd⟩ := Dp.reads I d (.ref a) (.ref a) hD rfl
  exact repr_of_reads' rd hs (fun z => by rw [hn] at z; cases z) gd (by omega) (fun _ _ e => e) (fun h' u tk hk => ⟨.str d.shown, H, I.kept (t' := tk) hk, ⟨_, rfl⟩, q⟩) hsz
theorem k_reprD {X : Cx} {K : PySem.W.Frag} (e : X.K = K) (gd : X.A.guards = some []) (hu : X.A.units + 64 < cLine) : CallR X (.builtin "repr") (kRepr K) := by subst e; exact call_reprD gd hu
theorem c_repr {K : PySem.W.Frag} {H : Hp} {Q : VK} {a : Addr} {d : PyData} (hD : Dp K H (.ref a) d) (hs : d.showable = true) (hn : d.hasDict = false) (hdp : d.depth ≤ 40) (hsz : d.shown.length ≤ sizeLine) (q : Q (.str d.shown) H) : kRepr K [.ref a] H Q := ⟨a, d, rfl, hD, hs, hn, hdp, hsz, q⟩
/-! ### a law whose own def wants that no repr is under way -/
/-- the script alone, tracked as it stands -/
def onlyH (a : Addr) (x : HO) : Hp := fun b => if b = a then some x else none
theorem onlyH_self {a : Addr} {x : HO} : onlyH a x a = some x := if_pos rfl
theorem onlyH_some {a b : Addr} {x u : HO} (h : onlyH a x b = some u) : b = a ∧ u = x := by
  unfold onlyH at h
  split at h
  · exact ⟨by assumption, (Option.some.inj h).symm⟩
  · cases h
theorem callG {P : Program} {w : World} {K : PySem.W.Frag} {mg mb : Str → Option Value} {CX : CXT} {k : Nat} {fa a : Addr} {fd : FuncData} {x : Str} {sp : Sp} {s₁ : Shared} {vs : List Value} {H : Hp}
    (KX : K.In s₁.heap) (hns : s₁.heap.Ns mainGlobals mg) (hb : s₁.heap.Ns builtinsNs mb) (hbb : ∀ x : Str, x ≠ "__name__" → mb x = bootBuiltins x) (hlim : s₁.heap.NoLimit) (hg : s₁.gens = #[])
    (ha : s₁.heap.get? a = some { cls := .type "list", data := .seq vs.toArray }) (hr : Room k callerA)
    (F : ∀ base : Heap, K.In base → base.Ns mainGlobals mg → FnG P w K mg base CX k fa fd [x] sp) (hbind : ∀ (s : Shared) (u : Value), BindsTo s fd ⟨[u], []⟩ [(x, u)])
    (hsp : sp [.ref a] H (fun v _ => v = .bl true) fun _ _ _ => False) (hCX : ∀ e s', CX [] H s₁ (fun _ _ _ => False) e s' → False)
    (hok : HOk P w H s₁.heap) (hA : ∀ b u, H b = some u → b = a ∧ K.lookup a = none ∧ ∃ ob xs, u = .frz ob (.lst xs)) :
    codeAny (model P w) callerA (.call (.ref fa) ⟨[.ref a], []⟩) (fun r s' => r = .ok (.ret (.bool true)) ∧ OldK s₁.heap s'.heap ∧ s'.os = s₁.os ∧ AllBare s'.gens) s₁ := by
  have seen : ∀ {b : Addr} {o : Obj}, s₁.heap.get? b = some o → b ≠ a → (hidT s₁.heap H).get? b = some o := fun {b o} e n => hidT_get e (by
    cases q : H b with
    | none => rfl
    | some u => exact absurd (hA b u q).1 n)
  have nsK : ∀ {b : Addr} {m : Str → Option Value}, s₁.heap.Ns b m → (hidT s₁.heap H).Ns b m := by
    rintro b m ⟨o, es, ep, e, d, r⟩
    refine ⟨o, es, ep, seen e fun z => ?_, d, r⟩
    subst z
    rw [ha] at e
    cases e
    cases d
  have hKb : K.In (hidT s₁.heap H) := fun b o e => hidT_get (KX b o e) (by
    cases q : H b with
    | none => rfl
    | some u =>
      obtain ⟨z, n, _⟩ := hA b u q
      rw [z, n] at e
      cases e)
  have hM : Mod K mg (hidT s₁.heap H) := ⟨hKb, nsK hns, ⟨mb, nsK hb, hbb⟩, by
    obtain ⟨mc, h1, h2⟩ := hlim
    exact ⟨mc, nsK h1, h2⟩⟩
  have e0 : Env0 P w K mg (hidT s₁.heap H) callerA [] s₁ H := ⟨rfl, hM, fun b o e => of_hidT e, Nat.le_of_eq (hidT_size _ _), trivial, fun b hb => absurd (show b ∈ ([] : List Addr) from hb) (by simp), hok, .of_eq hg⟩
  refine codeAny_mono ((F _ hKb (nsK hns)).run callerA [] s₁ H ⟨[.ref a], []⟩ [.ref a] [.ref a] _ _ guards_caller hr e0 (hbind s₁ (.ref a)) (.cons rfl .nil) hsp) fun r s' h => ?_
  match r, h with
  | .error e, h => exact (hCX e s' h).elim
  | .ok (.ret u), h =>
    obtain ⟨v, H', os, bare, un, hok', rv, q⟩ := h
    cases (show v = V.bl true from q)
    cases (show u = Value.bool true from rv)
    refine ⟨rfl, OldK.of_keep fun b o e => ?_, os, bare⟩
    cases q : H b with
    | none => exact un.keep b o e q (by intro z; exact absurd (show b ∈ ([] : List Addr) from z) (by simp)) (by simp)
    | some u =>
      obtain ⟨_, _, ob, xs, z⟩ := hA b u q
      subst z
      have k1 := (hok b _ q).1
      have k2 := (hok' b _ (un.frzs b ob _ q)).1
      rw [e] at k1
      cases k1
      exact k2
theorem law_callG {P : Program} {w : World} {K : PySem.W.Frag} {mg mb : Str → Option Value} {CX : CXT} {k : Nat} {fa a : Addr} {fd : FuncData} {x : Str} {sp : Sp} {s₁ : Shared} {vs : List Value} {ns : List Int}
    (KX : K.In s₁.heap) (hns : s₁.heap.Ns mainGlobals mg) (hb : s₁.heap.Ns builtinsNs mb) (hbb : ∀ x : Str, x ≠ "__name__" → mb x = bootBuiltins x) (hlim : s₁.heap.NoLimit) (hg : s₁.gens = #[])
    (ha : s₁.heap.get? a = some { cls := .type "list", data := .seq vs.toArray }) (hi : IntsAre vs ns) (hl : ns.length ≤ sizeLine) (hr : Room k callerA)
    (F : ∀ base : Heap, K.In base → base.Ns mainGlobals mg → FnG P w K mg base CX k fa fd [x] sp) (hbind : ∀ (s : Shared) (u : Value), BindsTo s fd ⟨[u], []⟩ [(x, u)])
    (hsp : ∀ H : Hp, Only H → SqL K H a (ns.map V.int) → sp [.ref a] H (fun v _ => v = .bl true) fun _ _ _ => False)
    (hCX : ∀ H e s', CX [] H s₁ (fun _ _ _ => False) e s' → False) :
    codeAny (model P w) callerA (.call (.ref fa) ⟨[.ref a], []⟩) (fun r s' => r = .ok (.ret (.bool true)) ∧ OldK s₁.heap s'.heap ∧ s'.os = s₁.os ∧ AllBare s'.gens) s₁ := by
  have rv := vals_ints hi
  cases hk : K.lookup a with
  | some o =>
    have e := KX a o hk
    rw [ha] at e
    cases e
    exact callG KX hns hb hbb hlim hg ha hr F hbind (hsp (fun _ => none) (fun _ => .inl rfl) (.inr ⟨_, vs.toArray, _, hk, rfl, rfl, rfl, by rw [List.size_toArray, hi.length]; exact hl, by simpa using rv⟩)) (hCX _)
      (fun b u z => by cases z) (fun b u z => by cases z)
  | none =>
    refine callG (H := onlyH a (.frz { cls := .type "list", data := .seq vs.toArray } (.lst (ns.map V.int)))) KX hns hb hbb hlim hg ha hr F hbind (hsp _ (fun b => ?_) (.inl (.inr ⟨_, onlyH_self⟩))) (hCX _) (fun b u z => ?_) (fun b u z => ?_)
    · unfold onlyH
      split
      · exact .inr ⟨_, _, rfl⟩
      · exact .inl rfl
    · obtain ⟨rfl, rfl⟩ := onlyH_some z
      exact ⟨ha, by rw [List.length_map]; exact hl, vs, _, rv, ha⟩
    · obtain ⟨rfl, rfl⟩ := onlyH_some z
      exact ⟨rfl, hk, _, _, rfl⟩
theorem walk_ofG {l : PySem.W.OpenLaw} {n k : Nat} {q : Program} {loose : List Str} {XP : (Str → Option Value) → Heap → Prop} {YP : World → Heap → Prop} {d : DefRec} {K : Params → PySem.W.Frag} {CX : World → CXT} {sp : World → Sp} {x : Str}
    (hn : l.most = some n) (hn2 : n ≤ sizeLine) (hdf : d.params.defaults = []) (hr : Room k callerA)
    (hY : ∀ (w : World) (h : Heap), YP w h → (K w.params).In h)
    (F : ∀ (w : World) (mg : Str → Option Value) (fa : Addr) (h : Heap), (K w.params).In h → h.Ns mainGlobals mg → mg d.name = some (.ref fa) →
      ∃ fd : FuncData, (∀ (s : Shared) (u : Value), BindsTo s fd ⟨[u], []⟩ [(x, u)]) ∧
        ∀ base : Heap, (K w.params).In base → base.Ns mainGlobals mg → FnG l.prog w (K w.params) mg base (CX w) k fa fd [x] (sp w))
    (hsp : ∀ (w : World) (H : Hp) (a : Addr) (ns : List Int), ns.length ≤ n → Only H → SqL (K w.params) H a (ns.map V.int) → sp w [.ref a] H (fun v _ => v = .bl true) fun _ _ _ => False)
    (hCX : ∀ (w : World) (H : Hp) (s : Shared) (e : Value) (s' : Shared), CX w [] H s (fun _ _ _ => False) e s' → False) :
    PySem.W.WalkO q loose XP YP l.row.toRowW d [] (fun f vs => PySem.call f vs) := by
  refine Att.attach_call hn hdf fun w s₀ s₁ mg mb fa o pm cd doc a vs ns G Y ho hd hcd hmg hobj hints hlen hg => ?_
  obtain ⟨fd, hb, hF⟩ := F w mg fa _ (hY w _ Y) G.T.g hmg
  exact law_callG (hY w _ Y) G.T.g G.T.b G.T.builtins G.T.nolimit hg hobj hints (Nat.le_trans hlen hn2) hr hF hb (fun H hO hS => hsp w H a ns hlen hO hS) fun H e s' => hCX w H s₁ e s'
/-! ### stems and rings; a couple of walks as data -/
/-- no room twice side by side, nothing straight back -/
structure Gd (W : List Str) : Prop where
  one : ∀ (i : Nat) (a b : Str), W[i]? = some a → W[i + 1]? = some b → a ≠ b
  two : ∀ (i : Nat) (a b : Str), W[i]? = some a → W[i + 2]? = some b → a ≠ b
def Pal (W : List Str) (t : Nat) : Prop := ∀ i, i ≤ t → W[i]? = W[W.length - 1 - i]?
structure CoreAt (W : List Str) (t : Nat) : Prop where
  lt : 2 * t < W.length
  pal : Pal W t
  fin : W.length = 1 ∨ (2 * t + 4 ≤ W.length ∧ W[t + 1]? ≠ W[W.length - 2 - t]?)
theorem pal_room {W : List Str} {t : Nat} (g : Gd W) (h : Pal W t) (hl : 2 * t + 1 < W.length) : 2 * t + 4 ≤ W.length := by
  have e := h t (Nat.le_refl t)
  rcases Nat.lt_or_ge (2 * t + 3) W.length with c | c
  · exact c
  · exfalso
    have hh : W.length = 2 * t + 2 ∨ W.length = 2 * t + 3 := by omega
    rcases hh with q | q
    · rw [show W.length - 1 - t = t + 1 by omega] at e
      exact g.one t W[t] W[t + 1] (List.getElem?_eq_getElem (by omega)) (List.getElem?_eq_getElem (by omega)) (by
        rw [List.getElem?_eq_getElem (by omega), List.getElem?_eq_getElem (by omega)] at e
        exact Option.some.inj e)
    · rw [show W.length - 1 - t = t + 2 by omega] at e
      exact g.two t W[t] W[t + 2] (List.getElem?_eq_getElem (by omega)) (List.getElem?_eq_getElem (by omega)) (by
        rw [List.getElem?_eq_getElem (by omega), List.getElem?_eq_getElem (by omega)] at e
        exact Option.some.inj e)
theorem pal_end {W : List Str} {t : Nat} (g : Gd W) (h : Pal W t) (hl : 2 * t < W.length) (he : W.length ≤ 2 * t + 1) : W.length = 1 ∧ t = 0 := by
  cases t with
  | zero => exact ⟨by omega, rfl⟩
  | succ t =>
    have h2 := pal_room (t := t) g (fun i hi => h i (by omega)) (by omega)
    omega
theorem core_uniq {W : List Str} {t s : Nat} (h : CoreAt W t) (h' : CoreAt W s) : t = s := by
  have key : ∀ {t s : Nat}, CoreAt W t → CoreAt W s → ¬ t < s := by
    intro t s h h' c
    rcases h.fin with e | ⟨_, e⟩
    · have := h'.lt; omega
    · exact e (by rw [show W.length - 2 - t = W.length - 1 - (t + 1) by omega]; exact h'.pal (t + 1) (by omega))
  have := key h h'
  have := key h' h
  omega
/-- the ring behind so many steps of the stem -/
def rg (W : List Str) (t : Nat) : List Str := (W.drop t).take (W.length - 2 * t)
def sm (W : List Str) (t : Nat) : List Str := W.take (t + 1)
theorem rg_len {W : List Str} {t : Nat} : (rg W t).length = W.length - 2 * t := by
  unfold rg
  rw [List.length_take, List.length_drop]
  omega
theorem rg_get {W : List Str} {t i : Nat} (h : i < W.length - 2 * t) : (rg W t)[i]? = W[t + i]? := by
  unfold rg
  rw [List.getElem?_take, if_pos h, List.getElem?_drop]
theorem rg_next {W : List Str} {t : Nat} : ((rg W t).drop 1).take ((rg W t).length - 2) = rg W (t + 1) := by
  unfold rg
  rw [List.drop_take, List.drop_drop, List.take_take, List.length_take, List.length_drop]
  congr 1
  omega
theorem sm_next {W : List Str} {t : Nat} (h : t + 1 < W.length) : sm W t ++ (rg W (t + 1)).take 1 = sm W (t + 1) ∨ W.length - 2 * (t + 1) = 0 := by
  by_cases c : W.length - 2 * (t + 1) = 0
  · exact .inr c
  · left
    unfold sm rg
    rw [List.take_take, Nat.min_eq_left (by omega), List.take_one]
    have e : (W.drop (t + 1)).head? = some W[t + 1] := by rw [List.head?_drop, List.getElem?_eq_getElem h]
    rw [e]
    have e3 : W.take (t + 1 + 1) = W.take (t + 1) ++ W[t + 1]?.toList := List.take_succ
    rw [e3, List.getElem?_eq_getElem h]
    first | done | rfl
theorem pal_iff {W : List Str} {t : Nat} (ht : t < W.length) : (W.take (t + 1)).reverse = W.drop (W.length - 1 - t) ↔ Pal W t := by
  constructor
  · intro h i hi
    have e : (W.take (t + 1)).reverse[t - i]? = (W.drop (W.length - 1 - t))[t - i]? := by rw [h]
    rw [List.getElem?_reverse (by rw [List.length_take]; omega), List.length_take, List.getElem?_take, if_pos (by omega), List.getElem?_drop] at e
    rw [show min (t + 1) W.length - 1 - (t - i) = i by omega, show W.length - 1 - t + (t - i) = W.length - 1 - i by omega] at e
    exact e
  · intro h
    refine List.ext_getElem? fun j => ?_
    by_cases c : j ≤ t
    · rw [List.getElem?_reverse (by rw [List.length_take]; omega), List.length_take, List.getElem?_take, if_pos (by omega), List.getElem?_drop]
      have e := h (t - j) (by omega)
      rw [show min (t + 1) W.length - 1 - j = t - j by omega, e]
      congr 1
      omega
    · rw [List.getElem?_eq_none (by rw [List.length_reverse, List.length_take]; omega), List.getElem?_eq_none (by rw [List.length_drop]; omega)]
theorem core_whole {W : List Str} {t : Nat} (h : CoreAt W t) : sm W t ++ (rg W t).tail ++ (sm W t).reverse.tail = W := by
  have hl := h.lt
  have e1 : (sm W t).reverse = W.drop (W.length - 1 - t) := (pal_iff (by omega)).mpr h.pal
  rw [e1]
  have e2 : (W.drop (W.length - 1 - t)).tail = W.drop (W.length - t) := by
    rw [← List.drop_one, List.drop_drop]
    congr 1
    omega
  have e3 : (rg W t).tail = (W.drop (t + 1)).take (W.length - 2 * t - 1) := by
    unfold rg
    rw [← List.drop_one, List.drop_take, List.drop_drop]
  rw [e2, e3]
  unfold sm
  have e4 : W.take (t + 1) ++ (W.drop (t + 1)).take (W.length - 2 * t - 1) = W.take (W.length - t) := by
    have e5 : W.take (t + 1 + (W.length - 2 * t - 1)) = W.take (t + 1) ++ (W.drop (t + 1)).take (W.length - 2 * t - 1) := List.take_add ..
    rw [← e5]
    congr 1
    omega
  rw [e4, List.take_append_drop]
theorem rg_core {W : List Str} {t : Nat} (h : CoreAt W t) : CoreAt (rg W t) 0 := by
  have hl := h.lt
  refine ⟨by rw [rg_len]; omega, fun i hi => ?_, ?_⟩
  · have e : i = 0 := by omega
    subst e
    rw [rg_len, rg_get (by omega), rg_get (by omega)]
    have e := h.pal t (Nat.le_refl t)
    rw [Nat.add_zero, e]
    congr 1
    omega
  · rw [rg_len]
    rcases h.fin with e | ⟨e1, e2⟩
    · left; omega
    · right
      refine ⟨by omega, ?_⟩
      rw [rg_get (by omega), rg_get (by omega)]
      rw [show t + (0 + 1) = t + 1 by omega, show t + (W.length - 2 * t - 2 - 0) = W.length - 2 - t by omega]
      exact e2
theorem rg_gd {W : List Str} {t : Nat} (g : Gd W) : Gd (rg W t) := by
  have get : ∀ {i : Nat} {a : Str}, (rg W t)[i]? = some a → W[t + i]? = some a := by
    intro i a h
    have hi : i < W.length - 2 * t := by
      rcases Nat.lt_or_ge i (rg W t).length with c | c
      · rwa [rg_len] at c
      · rw [List.getElem?_eq_none c] at h; cases h
    rwa [rg_get hi] at h
  exact ⟨fun i a b ha hb => g.one (t + i) a b (get ha) (by rw [show t + i + 1 = t + (i + 1) by omega]; exact get hb), fun i a b ha hb => g.two (t + i) a b (get ha) (by rw [show t + i + 2 = t + (i + 2) by omega]; exact get hb)⟩
theorem sm_zero (W : List Str) : sm W 0 = W.take 1 := rfl
theorem rg_zero (W : List Str) : rg W 0 = W := by unfold rg; rw [List.drop_zero]; exact List.take_of_length_le (by omega)
/-- what shrinks leaves unlike ones side by side where they were -/
theorem shr_gd {w : List Str} (h : ∀ (i : Nat) (a b : Str), w[i]? = some a → w[i + 1]? = some b → a ≠ b) : Gd (shr w) := by
  refine ⟨?_, fun i a b ha hb e => shr_rdc w i a b ha hb e⟩
  suffices hh : ∀ n, n ≤ w.length → (∀ (i : Nat) (a b : Str), (shr (w.take n))[i]? = some a → (shr (w.take n))[i + 1]? = some b → a ≠ b) by
    have := hh w.length (Nat.le_refl _)
    rwa [List.take_length] at this
  intro n
  induction n with
  | zero => intro _ i a b ha; simp [shr] at ha
  | succ n ih =>
    intro hn i a b ha hb
    have hr : w[n]? = some w[n] := List.getElem?_eq_getElem (by omega)
    rw [take_succ_get hr, shr_snoc] at ha hb
    unfold stepS at ha hb
    split at ha
    · rename_i c
      rw [if_pos c] at hb
      rw [List.getElem?_dropLast] at ha hb
      split at hb
      · rw [if_pos (by omega)] at ha
        exact ih (by omega) i a b ha hb
      · cases hb
    · rename_i c
      rw [if_neg c] at hb
      rcases Nat.lt_or_ge (i + 1) (shr (w.take n)).length with z | z
      · rw [List.getElem?_append_left (by omega)] at ha
        rw [List.getElem?_append_left z] at hb
        exact ih (by omega) i a b ha hb
      · rw [List.getElem?_append_right z] at hb
        have hi : i + 1 = (shr (w.take n)).length := by
          rcases Nat.lt_or_ge (i + 1 - (shr (w.take n)).length) 1 with y | y
          · omega
          · rw [List.getElem?_eq_none (by simp; omega)] at hb; cases hb
        rw [hi, Nat.sub_self] at hb
        rw [List.getElem?_append_left (by omega)] at ha
        cases n with
        | zero => simp [shr] at hi
        | succ n =>
          have hl : lst (w.take (n + 1)) = some w[n] := by
            unfold lst
            rw [List.length_take, Nat.min_eq_left (by omega), Nat.add_sub_cancel, List.getElem?_take, if_pos (by omega)]
            exact List.getElem?_eq_getElem (by omega)
          have hl2 := lst_shr hl
          unfold lst at hl2
          rw [show (shr (w.take (n + 1))).length - 1 = i by omega, ha] at hl2
          have e2 : b = w[n + 1] := (Option.some.inj hb).symm
          rw [Option.some.inj hl2, e2]
          exact h n _ _ (List.getElem?_eq_getElem (by omega)) (List.getElem?_eq_getElem (by omega))
/-! data: a couple of walks -/
def dTT (xs ys : List Str) : PyData := .tuple [.tuple (xs.map .str), .tuple (ys.map .str)]
section
variable {K : PySem.W.Frag} {H : Hp} {c s g c' s' g' : Addr} {xs ys xs' ys' : List Str} {Q : VK}
theorem dp_TT (h : SqT K H c [.ref s, .ref g]) (h1 : SqT K H s (xs.map V.str)) (h2 : SqT K H g (ys.map V.str)) : Dp K H (.ref c) (dTT xs ys) :=
  .tup h (.cons (.tup h1 (dp_strs _)) (.cons (.tup h2 (dp_strs _)) .nil))
theorem sh_TT (a : ∀ z ∈ xs, SOk z) (b : ∀ z ∈ ys, SOk z) : SeqAt.shaped (dTT xs ys) = true := by
  simp [dTT, SeqAt.shaped, PyData.canLay0, PyData.canLayAll0, PyData.depth, PyData.depthAll, lay_strs xs a, lay_strs ys b, deep_strs]
theorem eqv_TT : PyData.eqv (dTT xs ys) (dTT xs' ys') = (decide (xs = xs') && decide (ys = ys')) := by
  simp only [dTT, PyData.eqv, PyData.eqvAll, eqv_strs, Bool.and_true]
theorem r_neTT2 (h : SqT K H c [.ref s, .ref g]) (h1 : SqT K H s (xs.map V.str)) (h2 : SqT K H g (ys.map V.str)) (h' : SqT K H c' [.ref s', .ref g']) (h1' : SqT K H s' (xs.map V.str)) (h2' : SqT K H g' (ys.map V.str))
    (a : ∀ z ∈ xs, SOk z) (b : ∀ z ∈ ys, SOk z) (q : Q (.bl false) H) : rNeD K (.ref c) (.ref c') H Q :=
  ⟨_, _, dp_TT h h1 h2, dp_TT h' h1' h2', sh_TT a b, sh_TT a b, by rw [eqv_TT, decide_eq_true rfl, decide_eq_true rfl]; exact q⟩
theorem shows_strs : ∀ ns : List Str, PyData.showableAll (ns.map PyData.str) = true
  | [] => rfl
  | _ :: r => by simp [PyData.showableAll, PyData.showable, shows_strs r]
theorem nodict_strs : ∀ ns : List Str, PyData.hasDictAll (ns.map PyData.str) = false
  | [] => rfl
  | _ :: r => by simp [PyData.hasDictAll, PyData.hasDict, nodict_strs r]
theorem shown_strs : ∀ ns : List Str, PyData.shownAll (ns.map PyData.str) = ns.map reprText
  | [] => rfl
  | _ :: r => by simp [PyData.shownAll, PyData.shown, shown_strs r]
theorem sum_shown : ∀ ns : List Str, (∀ z ∈ ns, NmOk z) → ((ns.map reprText).map (·.length)).sum ≤ 82 * ns.length
  | [], _ => Nat.zero_le _
  | x :: r, h => by
    have h1 := h x List.mem_cons_self
    have h2 := sum_shown r fun z hz => h z (List.mem_cons_of_mem _ hz)
    have h3 := StrLaws.reprText_len x (fun c hc => by have := (h1.2.2 c hc).2; omega)
    have h4 := h1.2.1
    simp only [List.map_cons, List.sum_cons, List.length_cons]
    omega
theorem len_tt (ns : List Str) (h : ∀ z ∈ ns, NmOk z) : (tupleText (ns.map reprText)).length ≤ 84 * ns.length + 3 := by
  have h1 := tupleText_len_le (ns.map reprText)
  have h2 := sum_shown ns h
  rw [List.length_map] at h1
  omega
theorem c_reprTT (h : SqT K H c [.ref s, .ref g]) (h1 : SqT K H s (xs.map V.str)) (h2 : SqT K H g (ys.map V.str)) (a : ∀ z ∈ xs, NmOk z) (b : ∀ z ∈ ys, NmOk z) (la : xs.length ≤ 10000) (lb : ys.length ≤ 10000)
    (q : Q (.str (dTT xs ys).shown) H) : kRepr K [.ref c] H Q := by
  refine c_repr (dp_TT h h1 h2) ?_ ?_ ?_ ?_ q
  · simp [dTT, PyData.showable, PyData.showableAll, shows_strs]
  · simp [dTT, PyData.hasDict, PyData.hasDictAll, nodict_strs]
  · simp [dTT, PyData.depth, PyData.depthAll, deep_strs]
  · have e : (dTT xs ys).shown = tupleText [tupleText (xs.map reprText), tupleText (ys.map reprText)] := by simp only [dTT, PyData.shown, PyData.shownAll, shown_strs]
    rw [e, sizeLine_eq]
    have h1 := tupleText_len_le [tupleText (xs.map reprText), tupleText (ys.map reprText)]
    have h3 := len_tt xs a
    have h4 := len_tt ys b
    simp only [List.map_cons, List.map_nil, List.sum_cons, List.sum_nil, List.length_cons, List.length_nil] at h1
    omega
end
theorem cut_mid {l : List Str} {i j : Int} (a b : Nat) (ei : i = (a : Int)) (ej : j = (b : Int)) (ha : a ≤ l.length) (hb : b ≤ l.length) : cutV (l.map V.str) (some i) (some j) = ((l.drop a).take (b - a)).map V.str := by
  subst ei ej
  unfold cutV
  rw [HT.sIx_nat, HT.sIx_nat, List.length_map, Nat.min_eq_left ha, Nat.min_eq_left hb, ← List.map_drop, ← List.map_take]
theorem cut_in {l : List Str} {i j : Int} (ei : i = 1) (ej : j = -1) (h : 2 ≤ l.length) : cutV (l.map V.str) (some i) (some j) = ((l.drop 1).take (l.length - 2)).map V.str := by
  subst ei ej
  have e0 : HT.sIx l.length 0 (some 1) = 1 := by
    have := HT.sIx_nat l.length 0 1
    rw [show ((1 : Nat) : Int) = 1 from rfl] at this
    rw [this]
    omega
  have e1 : HT.sIx l.length l.length (some (-1)) = l.length - 1 := by
    show (if (-1 : Int) < 0 then ((-1 : Int) + (l.length : Int)).toNat else min (-1 : Int).toNat l.length) = _
    rw [if_pos (by decide)]
    omega
  unfold cutV
  rw [List.length_map, e0, e1, ← List.map_drop, ← List.map_take]
  congr 2
theorem if_and {b : Bool} {te : TE} {σ : L2.St} {H : Hp} {Q : VK} (R : Bool → Prop) (h1 : b = true → ∀ Q' : VK, (∀ c, R c → Q' (.bl c) H) → te σ H Q') (h2 : b = false → R false) (q : ∀ c, R c → Q (.bl c) H) : if b = true then te σ H Q else Q (.bl false) H := by
  cases b with
  | true => exact h1 rfl Q q
  | false => exact q false (h2 rfl)
/-! ### min of a list of tuples of texts -/
def dT (w : List Str) : PyData := .tuple (w.map .str)
theorem alike_strs : ∀ a b : List Str, PySem.W.alikeAll (a.map PyData.str) (b.map PyData.str) = true
  | [], _ => by simp [PySem.W.alikeAll]
  | _ :: _, [] => by simp [PySem.W.alikeAll]
  | _ :: r, _ :: t => by simp [PySem.W.alikeAll, PySem.W.alike, alike_strs r t]
theorem alike_dT (ds : List (List Str)) : PySem.W.AlikeAll (ds.map dT) := by
  refine ⟨fun x hx y hy => ?_, fun x hx => ?_⟩
  · obtain ⟨a, _, rfl⟩ := List.mem_map.mp hx
    obtain ⟨b, _, rfl⟩ := List.mem_map.mp hy
    simp [dT, PySem.W.alike, alike_strs]
  · obtain ⟨a, _, rfl⟩ := List.mem_map.mp hx
    intro z
    cases z
theorem deep_dT : ∀ ds : List (List Str), PyData.depthAll (ds.map dT) ≤ 1
  | [] => by simp [PyData.depthAll]
  | a :: r => by
    have h := deep_dT r
    simp only [List.map_cons, PyData.depthAll, dT, PyData.depth, deep_strs]
    omega
/-- a before b, as tuples of texts -/
def ltW (a b : List Str) : Bool := PySem.W.dataLt (dT a) (dT b)
def minW (x : List Str) (xs : List (List Str)) : List Str := xs.foldl (fun a y => if ltW y a = true then y else a) x
theorem minD_dT : ∀ (xs : List (List Str)) (x : List Str), PySem.W.minD (dT x) (xs.map dT) = dT (minW x xs)
  | [], _ => rfl
  | y :: xs, x => by
    have h : ∀ z, PySem.W.minD (dT z) (xs.map dT) = dT (minW z xs) := minD_dT xs
    show PySem.W.minD (if PySem.W.dataLt (dT y) (dT x) = true then dT y else dT x) (xs.map dT) = dT (minW (if ltW y x = true then y else x) xs)
    unfold ltW
    split
    · exact h y
    · exact h x
/-- rows of texts in a heap -/
def Rws (K : PySem.W.Frag) (H : Hp) (xs : List V) (ds : List (List Str)) : Prop := xs.length = ds.length ∧ ∀ (i : Nat) (d : List Str), ds[i]? = some d → ∃ t, xs[i]? = some (.ref t) ∧ SqT K H t (d.map V.str)
theorem Rws.dps {K : PySem.W.Frag} {H : Hp} : ∀ {xs : List V} {ds : List (List Str)}, Rws K H xs ds → DpAll K H xs (ds.map dT)
  | [], [], _ => .nil
  | [], _ :: _, h => by cases h.1
  | _ :: _, [], h => by cases h.1
  | x :: xs, d :: ds, h => by
    obtain ⟨t, e, hs⟩ := h.2 0 d rfl
    cases Option.some.inj e
    exact .cons (.tup hs (dp_strs d)) (Rws.dps ⟨by have := h.1; simpa using this, fun i d hd => h.2 (i + 1) d hd⟩)
theorem Rws.same {K : PySem.W.Frag} {G H : Hp} {xs : List V} {ds : List (List Str)} (e : Same G H) (h : Rws K G xs ds) : Rws K H xs ds :=
  ⟨h.1, fun i d hd => by obtain ⟨t, h1, h2⟩ := h.2 i d hd; exact ⟨t, h1, Same.sqt e h2⟩⟩
theorem Rws.snoc {K : PySem.W.Frag} {G : Hp} {xs : List V} {ds : List (List Str)} {t : Addr} {d : List Str} (h : Rws K G xs ds) (e : SqT K G t (d.map V.str)) : Rws K G (xs ++ [.ref t]) (ds ++ [d]) := by
  refine ⟨by rw [List.length_append, List.length_append, h.1]; rfl, fun i z hz => ?_⟩
  rcases Nat.lt_or_ge i ds.length with c | c
  · rw [List.getElem?_append_left c] at hz
    obtain ⟨s, h1, h2⟩ := h.2 i z hz
    exact ⟨s, by rw [List.getElem?_append_left (by rw [h.1]; exact c)]; exact h1, h2⟩
  · rw [List.getElem?_append_right c] at hz
    have hi : i - ds.length = 0 := by
      rcases Nat.lt_or_ge (i - ds.length) 1 with y | y
      · omega
      · rw [List.getElem?_eq_none (by simp; omega)] at hz; cases hz
    rw [hi] at hz
    cases Option.some.inj hz
    exact ⟨t, by rw [List.getElem?_append_right (by rw [h.1]; exact c), h.1, hi]; rfl, e⟩
def rMinT (K : PySem.W.Frag) : List V → Hp → VK → Prop := fun vs H Q => ∃ (a : Addr) (xs : List V) (m0 : List Str) (ms : List (List Str)), vs = [V.ref a] ∧ SqL K H a xs ∧ Rws K H xs (m0 :: ms) ∧ (∀ m ∈ m0 :: ms, ∀ z ∈ m, SOk z) ∧
  ∀ t, SqT K H t ((minW m0 ms).map V.str) → (∃ i : Nat, (m0 :: ms)[i]? = some (minW m0 ms) ∧ xs[i]? = some (V.ref t)) → Q (.ref t) H
theorem lay_dT {d : List Str} (h : ∀ z ∈ d, SOk z) : (dT d).canLay0 = true := by
  simp only [dT, PyData.canLay0]
  exact lay_strs d h
theorem minW_mem : ∀ (xs : List (List Str)) (x : List Str), minW x xs ∈ x :: xs
  | [], x => List.mem_cons_self
  | y :: xs, x => by
    show minW (if ltW y x = true then y else x) xs ∈ _
    split
    · exact List.mem_cons_of_mem _ (minW_mem xs y)
    · rcases List.mem_cons.mp (minW_mem xs x) with h | h
      · rw [h]; exact List.mem_cons_self
      · exact List.mem_cons_of_mem _ (List.mem_cons_of_mem _ h)
theorem strs_inj : ∀ {a b : List Str}, a.map PyData.str = b.map PyData.str → a = b
  | [], [], _ => rfl
  | [], _ :: _, h => by cases h
  | _ :: _, [], h => by cases h
  | x :: a, y :: b, h => by
    rw [List.map_cons, List.map_cons] at h
    have h1 := List.cons.inj h
    rw [PyData.str.inj h1.1, strs_inj h1.2]
theorem dT_inj {a b : List Str} (h : dT a = dT b) : a = b := strs_inj (PyData.tuple.inj h)
theorem cr_minT {X : Cx} (hc : X.calm = true) (hu : X.A.units + 64 < cLine) : CallR X (.builtin "min") (rMinT X.K) := by
  intro pins s σ H vs us Q I r h
  obtain ⟨a, xs, m0, ms, rfl, hs, hR, hok, q⟩ := h
  obtain ⟨its, rv, hl, _⟩ := I.list hs
  rw [Vals.ref1 r]
  obtain ⟨as, rd⟩ := Dp.readsAll I ((m0 :: ms).map dT) xs its hR.dps rv
  have hdp := deep_dT (m0 :: ms)
  refine PySem.W.min_list_data (I.ok.hd hc) hl.isList (x := dT m0) (xs := ms.map dT) (as := as) (by simpa using rd) (alike_dT (m0 :: ms)) (by simp only [List.map_cons] at hdp; omega) fun i v h' tk bs hv hr hk => ?_
  rw [minD_dT] at hr
  have hv' : its[i]? = some v := by simpa using hv
  obtain ⟨x, hx, rx⟩ : ∃ x, xs[i]? = some x ∧ RelV x v := by
    obtain ⟨hi, hiv⟩ := List.getElem?_eq_some_iff.mp hv'
    have hlen := rv.length
    have hxi : xs[i]? = some (xs[i]'(by omega)) := List.getElem?_eq_getElem (by omega)
    obtain ⟨u, hu2, ru⟩ := rv.get hxi
    rw [hv'] at hu2
    cases Option.some.inj hu2
    exact ⟨_, hxi, ru⟩
  have hil : i < (m0 :: ms).length := by
    rw [← hR.1]
    exact (List.getElem?_eq_some_iff.mp hx).1
  obtain ⟨t, ht, hS⟩ := hR.2 i _ (List.getElem?_eq_getElem hil)
  rw [hx] at ht
  cases Option.some.inj ht
  cases rx
  obtain ⟨as2, r2⟩ := Dp.reads I (dT ((m0 :: ms)[i])) (.ref t) (.ref t) (.tup hS (dp_strs _)) rfl
  have e := (PySem.Reads.unique (Reads.keeps hk r2) _ _ hr).1
  have e2 := dT_inj e
  rw [e2] at hS
  exact ⟨.ref t, H, I.kept (t' := tk) hk, rfl, q t hS ⟨i, by rw [List.getElem?_eq_getElem hil, e2], hx⟩⟩
/-! ### rings of a walk that is led elsewhere -/
/-- R begun at its second place -/
def turn1 (R : List Str) : List Str := R.tail ++ R.tail.take 1
/-- R is a ring or one room -/
structure IsR (R : List Str) : Prop where
  gd : Gd R
  co : CoreAt R 0
/-- w shrinks to the stem S, the ring R, the stem turned about -/
def HasR (w R : List Str) : Prop := ∃ t, CoreAt (shr w) t ∧ R = rg (shr w) t
theorem shr_of_gd {W : List Str} (g : Gd W) : shr W = W := shr_irr fun i a b ha hb e => g.two i a b ha hb e
theorem hasR_uniq {w R R' : List Str} (h : HasR w R) (h' : HasR w R') : R = R' := by
  obtain ⟨t, h1, rfl⟩ := h
  obtain ⟨s, h2, rfl⟩ := h'
  rw [core_uniq h1 h2]
theorem gd_cons {x a : Str} {r : List Str} (g : Gd (a :: r)) (h1 : x ≠ a) (h2 : ∀ b, r[0]? = some b → x ≠ b) : Gd (x :: a :: r) := by
  refine ⟨fun i p q hp hq => ?_, fun i p q hp hq => ?_⟩
  · cases i with
    | zero => rw [← Option.some.inj hp, ← Option.some.inj hq]; exact h1
    | succ i => exact g.one i p q hp hq
  · cases i with
    | zero => rw [← Option.some.inj hp]; exact h2 q hq
    | succ i => exact g.two i p q hp hq
theorem gd_rev {W : List Str} (g : Gd W) : Gd W.reverse := by
  have key : ∀ (k i : Nat) (a b : Str), W.reverse[i]? = some a → W.reverse[i + k]? = some b → ∃ j, W[j]? = some b ∧ W[j + k]? = some a := by
    intro k i a b ha hb
    have hl : i + k < W.length := by
      rcases Nat.lt_or_ge (i + k) W.reverse.length with z | z
      · rwa [List.length_reverse] at z
      · rw [List.getElem?_eq_none z] at hb; cases hb
    rw [List.getElem?_reverse (by omega)] at ha hb
    exact ⟨W.length - 1 - (i + k), hb, by rw [show W.length - 1 - (i + k) + k = W.length - 1 - i by omega]; exact ha⟩
  refine ⟨fun i a b ha hb e => ?_, fun i a b ha hb e => ?_⟩
  · obtain ⟨j, h1, h2⟩ := key 1 i a b ha hb
    exact g.one j b a h1 h2 e.symm
  · obtain ⟨j, h1, h2⟩ := key 2 i a b ha hb
    exact g.two j b a h1 h2 e.symm
theorem gd_snoc {x a : Str} {W : List Str} (g : Gd W) (hl : lst W = some a) (h1 : a ≠ x) (h2 : ∀ b, 2 ≤ W.length → W[W.length - 2]? = some b → b ≠ x) : Gd (W ++ [x]) := by
  have hr := gd_rev g
  have e : W.reverse = a :: W.reverse.tail := (fst_tl (fst_rev hl)).symm
  rw [e] at hr
  have h3 := gd_rev (gd_cons hr (x := x) (fun q => h1 q.symm) (fun b hb q => by
    have hb2 : W.reverse[1]? = some b := by rw [e]; exact hb
    have hl2 : 1 < W.length := by
      rcases Nat.lt_or_ge 1 W.reverse.length with z | z
      · rwa [List.length_reverse] at z
      · rw [List.getElem?_eq_none z] at hb2; cases hb2
    rw [List.getElem?_reverse hl2] at hb2
    exact h2 b (by omega) (by rw [show W.length - 2 = W.length - 1 - 1 by omega]; exact hb2) q.symm))
  rw [← e] at h3
  simpa using h3
/-- the stem grows by a room -/
theorem core_grow {W : List Str} {t : Nat} {x : Str} (h : CoreAt W t) (h1 : W.length ≠ 1) : CoreAt (x :: (W ++ [x])) (t + 1) ∧ rg (x :: (W ++ [x])) (t + 1) = rg W t := by
  have hl := h.lt
  have hn : (x :: (W ++ [x])).length = W.length + 2 := by simp
  have get : ∀ i, i < W.length → (x :: (W ++ [x]))[i + 1]? = W[i]? := fun i hi => by
    rw [List.getElem?_cons_succ, List.getElem?_append_left hi]
  refine ⟨⟨by rw [hn]; omega, fun i hi => ?_, ?_⟩, ?_⟩
  · rw [hn]
    cases i with
    | zero =>
      show some x = _
      rw [show W.length + 2 - 1 - 0 = W.length + 1 by omega, List.getElem?_cons_succ, List.getElem?_append_right (Nat.le_refl _), Nat.sub_self]
      rfl
    | succ i =>
      rw [get i (by omega), show W.length + 2 - 1 - (i + 1) = (W.length - 1 - i) + 1 by omega, get _ (by omega)]
      exact h.pal i (by omega)
  · obtain ⟨f1, f2⟩ := h.fin.resolve_left h1
    right
    rw [hn]
    refine ⟨by omega, ?_⟩
    rw [get (t + 1) (by omega), show W.length + 2 - 2 - (t + 1) = (W.length - 2 - t) + 1 by omega, get _ (by omega)]
    exact f2
  · unfold rg
    rw [hn, List.drop_succ_cons, List.drop_append_of_le_length (by omega), List.take_append_of_le_length (by rw [List.length_drop]; omega)]
    congr 1
    omega
/-- the stem loses a room -/
theorem core_lose {W : List Str} {t : Nat} (h : CoreAt W (t + 1)) : CoreAt W.tail.dropLast t ∧ rg W.tail.dropLast t = rg W (t + 1) := by
  have hl := h.lt
  have hn : W.tail.dropLast.length = W.length - 2 := by rw [List.length_dropLast, List.length_tail]; omega
  have get : ∀ i, i + 2 < W.length → W.tail.dropLast[i]? = W[i + 1]? := fun i hi => by
    rw [List.getElem?_dropLast, if_pos (by rw [List.length_tail]; omega), List.getElem?_tail]
  obtain ⟨f1, f2⟩ := h.fin.resolve_left (by omega)
  refine ⟨⟨by rw [hn]; omega, fun i hi => ?_, .inr ⟨by rw [hn]; omega, ?_⟩⟩, ?_⟩
  · rw [hn, get i (by omega), get _ (by omega), h.pal (i + 1) (by omega)]
    congr 1
    omega
  · rw [hn, get (t + 1) (by omega), get _ (by omega), show W.length - 2 - 2 - t + 1 = W.length - 2 - (t + 1) by omega]
    exact f2
  · unfold rg
    refine List.ext_getElem? fun i => ?_
    rw [List.getElem?_take, List.getElem?_take, hn]
    by_cases c : i < W.length - 2 * (t + 1)
    · rw [if_pos (by omega), if_pos c, List.getElem?_drop, List.getElem?_drop, get _ (by omega)]
      congr 1
      omega
    · rw [if_neg (by omega), if_neg c]
/-- z goes round as the rooms C do, closed up -/
def Rd (C z : List Str) : Prop := ∃ p q, C = p ++ q ∧ q ≠ [] ∧ z = q ++ p ++ q.take 1
theorem rd_rot (c : Str) (r z : List Str) : Rd (c :: r) z ↔ Rd (r ++ [c]) z := by
  constructor
  · rintro ⟨p, q, e, hq, rfl⟩
    cases p with
    | nil =>
      rw [List.nil_append] at e
      subst e
      exact ⟨r, [c], rfl, by simp, by simp⟩
    | cons d p =>
      rw [List.cons_append] at e
      obtain ⟨rfl, rfl⟩ := List.cons.inj e
      refine ⟨p, q ++ [c], by simp, by simp, ?_⟩
      cases q with
      | nil => exact absurd rfl hq
      | cons y q => simp
  · rintro ⟨p, q, e, hq, rfl⟩
    obtain ⟨q', d, rfl⟩ : ∃ q' d, q = q' ++ [d] := ⟨q.dropLast, q.getLast hq, (List.dropLast_concat_getLast hq).symm⟩
    rw [← List.append_assoc] at e
    have h1 := List.append_inj' e rfl
    obtain ⟨rfl, h2⟩ := h1
    obtain rfl : c = d := by simpa using h2
    cases q' with
    | nil => exact ⟨[], c :: p, by simp, by simp, by simp⟩
    | cons y q' => exact ⟨c :: p, y :: q', by simp, by simp, by simp⟩
/-- two rings that go round alike -/
def SameR (R R' : List Str) : Prop := R.length = R'.length ∧ ∀ z, Rd R.dropLast z ↔ Rd R'.dropLast z
theorem SameR.refl (R : List Str) : SameR R R := ⟨rfl, fun _ => Iff.rfl⟩
theorem SameR.trans {A B C : List Str} (h : SameR A B) (h' : SameR B C) : SameR A C := ⟨h.1.trans h'.1, fun z => (h.2 z).trans (h'.2 z)⟩
theorem rd_nil (z : List Str) : ¬ Rd [] z := fun ⟨p, q, e, hq, _⟩ => hq (by
  have h := congrArg List.length e
  rw [List.length_append] at h
  exact List.eq_nil_of_length_eq_zero (by simp at h; omega))
theorem shr_one (x : Str) : shr [x] = [x] := rfl
theorem gd_tail {W : List Str} (g : Gd W) : Gd W.tail := ⟨fun i a b ha hb => g.one (i + 1) a b (by rwa [List.getElem?_tail] at ha) (by rwa [List.getElem?_tail] at hb), fun i a b ha hb => g.two (i + 1) a b (by rwa [List.getElem?_tail] at ha) (by rwa [List.getElem?_tail] at hb)⟩
theorem gd_dl {W : List Str} (g : Gd W) : Gd W.dropLast := by
  have get : ∀ {i : Nat} {a : Str}, W.dropLast[i]? = some a → W[i]? = some a := by
    intro i a h
    rw [List.getElem?_dropLast] at h
    split at h
    · exact h
    · cases h
  exact ⟨fun i a b ha hb => g.one i a b (get ha) (get hb), fun i a b ha hb => g.two i a b (get ha) (get hb)⟩
theorem lst_snoc' (l : List Str) (x : Str) : lst (l ++ [x]) = some x := by
  unfold lst
  rw [List.length_append]
  show (l ++ [x])[l.length + 1 - 1]? = some x
  rw [Nat.add_sub_cancel, List.getElem?_append_right (Nat.le_refl _), Nat.sub_self]
  rfl
/-- led by one step the ring turns by one room at most -/
theorem ring_step {w R : List Str} {a x : Str} (g : Gd (shr w)) (hf : fst0 w = some a) (hl : lst w = some a) (hx : x ≠ a) (h : HasR w R) : ∃ R', HasR (x :: (w ++ [x])) R' ∧ SameR R R' ∧ Gd (shr (x :: (w ++ [x]))) := by
  have e0 : shr (x :: (w ++ [x])) = shr (x :: (shr w ++ [x])) := by
    have := shr_in [x] w [x]
    simpa using this.symm
  unfold HasR
  rw [e0]
  obtain ⟨t, hC, rfl⟩ := h
  have hfW := fst_shr hf
  have hlW := lst_shr hl
  generalize shr w = W at g hC hfW hlW
  have hlt := hC.lt
  by_cases hn : W.length = 1
  · obtain rfl : W = [a] := by
      match W, hn, hfW with
      | [z], _, hfW => rw [Option.some.inj (show some z = some a from hfW)]
    have ht : t = 0 := by simp at hlt; omega
    subst ht
    have e1 : shr (x :: ([a] ++ [x])) = [x] := (shr_red [] [] x a).trans rfl
    rw [e1]
    refine ⟨[x], ⟨0, ⟨by simp, fun i hi => ?_, .inl rfl⟩, rfl⟩, ⟨rfl, fun z => ?_⟩, ⟨fun i p q _ hq => ?_, fun i p q _ hq => ?_⟩⟩
    · have : i = 0 := by omega
      subst this
      rfl
    · exact ⟨fun h => absurd h (rd_nil z), fun h => absurd h (rd_nil z)⟩
    · rw [List.getElem?_eq_none (by simp)] at hq; cases hq
    · rw [List.getElem?_eq_none (by simp)] at hq; cases hq
  obtain ⟨f1, f2⟩ := hC.fin.resolve_left hn
  -- W = a :: M ++ [a]
  obtain ⟨M, rfl⟩ : ∃ M, W = a :: (M ++ [a]) := by
    have e1 := (fst_tl hfW).symm
    have e2 : lst W.tail = some a := by
      unfold lst at hlW ⊢
      rw [List.getElem?_tail, List.length_tail, show W.length - 1 - 1 + 1 = W.length - 1 by omega]
      exact hlW
    exact ⟨W.tail.dropLast, by rw [lst_dl e2]; exact e1⟩
  have hnn : (a :: (M ++ [a])).length = M.length + 2 := by simp
  rw [hnn] at f1 f2 hlt
  have hM : 2 ≤ M.length := by omega
  obtain ⟨b, hb⟩ : ∃ b, M[0]? = some b := ⟨_, List.getElem?_eq_getElem (by omega)⟩
  obtain ⟨y, hy⟩ : ∃ y, lst M = some y := ⟨_, List.getElem?_eq_getElem (by omega)⟩
  have eM := fst_tl hb
  have eM2 := lst_dl hy
  have g1 : ∀ (V : List Str), V = a :: (M ++ [a]) → V[1]? = some b ∧ V[V.length - 2]? = some y := by
    rintro V rfl
    refine ⟨by rw [List.getElem?_cons_succ, List.getElem?_append_left (by omega)]; exact hb, ?_⟩
    rw [hnn, show M.length + 2 - 2 = M.length - 1 + 1 by omega, List.getElem?_cons_succ, List.getElem?_append_left (by omega)]
    exact hy
  obtain ⟨gb, gy⟩ := g1 _ rfl
  rw [hnn, Nat.add_sub_cancel] at gy
  have hba : a ≠ b := g.one 0 a b rfl gb
  by_cases cb : x = b
  · by_cases cy : x = y
    · -- both: the stem loses a room
      obtain ⟨t', rfl⟩ : ∃ t', t = t' + 1 := by
        cases t with
        | zero =>
          exfalso
          rw [Nat.sub_zero, Nat.zero_add, show M.length + 2 - 2 = M.length by omega, gb, gy, ← cb, ← cy] at f2
          exact f2 rfl
        | succ t' => exact ⟨t', rfl⟩
      obtain ⟨k1, k2⟩ := core_lose hC
      have e1 : shr (x :: (a :: (M ++ [a]) ++ [x])) = (a :: (M ++ [a])).tail.dropLast := by
        have gM : Gd M := by
          have := gd_dl (gd_tail g)
          simpa using this
        have e2 : x :: (a :: (M ++ [a]) ++ [x]) = [] ++ x :: a :: x :: (M.tail ++ [a] ++ [x]) := by
          have q : x :: (a :: (M ++ [a]) ++ [x]) = x :: (a :: ((b :: M.tail) ++ [a]) ++ [x]) := by rw [eM]
          rw [q, cb]
          simp
        rw [e2, shr_red, List.nil_append]
        have e3 : x :: (M.tail ++ [a] ++ [x]) = M.dropLast ++ x :: a :: x :: [] := by
          have e4 : x :: (M.tail ++ [a] ++ [x]) = M ++ [a, x] := by
            have q : M ++ [a, x] = (b :: M.tail) ++ [a, x] := by rw [eM]
            rw [q, cb]
            simp
          have q : M ++ [a, x] = (M.dropLast ++ [y]) ++ [a, x] := by rw [eM2]
          rw [e4, q, ← cy]
          simp
        rw [e3, shr_red]
        have e5 : M.dropLast ++ [x] = M := by rw [cy]; exact eM2
        rw [e5, shr_of_gd gM]
        simp
      rw [e1]
      exact ⟨_, ⟨t', k1, rfl⟩, by rw [k2]; exact SameR.refl _, gd_dl (gd_tail g)⟩
    · -- along the ring
      have ht : t = 0 := by
        cases t with
        | zero => rfl
        | succ t' =>
          exfalso
          have e := hC.pal 1 (by omega)
          rw [hnn, show M.length + 2 - 1 - 1 = M.length by omega, gb, gy] at e
          exact cy (by rw [cb]; exact Option.some.inj e)
      subst ht
      have lW : lst (M ++ [a]) = some a := lst_snoc' M a
      have gR : Gd (M ++ [a] ++ [x]) := gd_snoc (by have := gd_tail g; simpa using this) lW (fun q => hx q.symm) (fun z _ hz q => cy (by
        rw [List.length_append, show M.length + [a].length - 2 = M.length - 1 by simp, List.getElem?_append_left (by omega)] at hz
        rw [← q, Option.some.inj ((show M[M.length - 1]? = some y from hy).symm.trans hz)]))
      have e1 : shr (x :: (a :: (M ++ [a]) ++ [x])) = M ++ [a] ++ [x] := by
        have e2 : x :: (a :: (M ++ [a]) ++ [x]) = [] ++ x :: a :: x :: (M.tail ++ [a] ++ [x]) := by
          have q : x :: (a :: (M ++ [a]) ++ [x]) = x :: (a :: ((b :: M.tail) ++ [a]) ++ [x]) := by rw [eM]
          rw [q, cb]
          simp
        rw [e2, shr_red, List.nil_append]
        have e4 : x :: (M.tail ++ [a] ++ [x]) = M ++ [a] ++ [x] := by
          have q : M ++ [a] ++ [x] = (b :: M.tail) ++ [a] ++ [x] := by rw [eM]
          rw [q, cb]
          simp
        rw [e4, shr_of_gd gR]
      have hln : (M ++ [a] ++ [x]).length = M.length + 2 := by simp
      rw [e1, rg_zero]
      refine ⟨_, ⟨0, ⟨by rw [hln]; omega, fun i hi => ?_, .inr ⟨by rw [hln]; omega, ?_⟩⟩, rfl⟩, ?_, gR⟩
      · have : i = 0 := by omega
        subst this
        rw [hln, List.append_assoc, List.getElem?_append_left (by omega), hb, Nat.sub_zero, ← List.append_assoc, List.getElem?_append_right (by simp), cb]
        simp
      · rw [hln, show M.length + 2 - 2 - 0 = M.length by omega]
        intro q
        have q1 : (M ++ [a] ++ [x])[M.length]? = some a := by rw [List.append_assoc, List.getElem?_append_right (Nat.le_refl _), Nat.sub_self]; rfl
        have q2 : (a :: (M ++ [a]))[2]? = some a := by
          rw [List.getElem?_cons_succ, List.getElem?_append_left (by omega), ← q1, ← q, List.append_assoc, List.getElem?_append_left (by omega)]
        exact g.two 0 a a rfl q2 rfl
      · rw [rg_zero]
        refine ⟨by rw [hnn, hln], fun z => ?_⟩
        have d1 : (a :: (M ++ [a])).dropLast = a :: M := by
          have := List.dropLast_concat (l₁ := a :: M) (b := a)
          simpa using this
        have d2 : (M ++ [a] ++ [x]).dropLast = M ++ [a] := List.dropLast_concat
        rw [d1, d2]
        exact rd_rot a M z
  · by_cases cy : x = y
    · -- against the ring
      have ht : t = 0 := by
        cases t with
        | zero => rfl
        | succ t' =>
          exfalso
          have e := hC.pal 1 (by omega)
          rw [hnn, show M.length + 2 - 1 - 1 = M.length by omega, gb, gy] at e
          exact cb (by rw [cy]; exact (Option.some.inj e).symm)
      subst ht
      have d1 : (a :: (M ++ [a])).dropLast = a :: M := by
        have := List.dropLast_concat (l₁ := a :: M) (b := a)
        simpa using this
      have gR : Gd (x :: a :: M) := gd_cons (by have := gd_dl g; rwa [d1] at this) hx (fun z hz q => cb (by rw [q]; exact (Option.some.inj (hb.symm.trans hz)).symm))
      have e1 : shr (x :: (a :: (M ++ [a]) ++ [x])) = x :: a :: M := by
        have e2 : x :: (a :: (M ++ [a]) ++ [x]) = (x :: a :: M.dropLast) ++ x :: a :: x :: [] := by
          have q : x :: (a :: (M ++ [a]) ++ [x]) = x :: (a :: ((M.dropLast ++ [y]) ++ [a]) ++ [x]) := by rw [eM2]
          rw [q, ← cy]
          simp
        have e3 : (x :: a :: M.dropLast) ++ [x] = x :: a :: M := by
          have q : x :: a :: M = x :: a :: (M.dropLast ++ [y]) := by rw [eM2]
          rw [q, ← cy]
          simp
        rw [e2, shr_red, e3, shr_of_gd gR]
      have hln : (x :: a :: M).length = M.length + 2 := by simp
      rw [e1, rg_zero]
      refine ⟨_, ⟨0, ⟨by rw [hln]; omega, fun i hi => ?_, .inr ⟨by rw [hln]; omega, ?_⟩⟩, rfl⟩, ?_, gR⟩
      · have : i = 0 := by omega
        subst this
        rw [hln, show M.length + 2 - 1 - 0 = (M.length - 1) + 1 + 1 by omega, List.getElem?_cons_succ, List.getElem?_cons_succ]
        rw [show M[M.length - 1]? = some y from hy, cy]
        rfl
      · have q0 : (x :: a :: M)[0 + 1]? = some a := rfl
        rw [q0, hln, show M.length + 2 - 2 - 0 = (M.length - 2) + 1 + 1 by omega, List.getElem?_cons_succ, List.getElem?_cons_succ]
        intro q
        have q1 : (a :: (M ++ [a]))[M.length - 1]? = some a := by
          rw [show M.length - 1 = (M.length - 2) + 1 by omega, List.getElem?_cons_succ, List.getElem?_append_left (by omega), ← q]
        have q2 : (a :: (M ++ [a]))[M.length - 1 + 2]? = some a := by
          rw [show M.length - 1 + 2 = M.length + 1 by omega, List.getElem?_cons_succ, List.getElem?_append_right (Nat.le_refl _), Nat.sub_self]
          rfl
        exact g.two (M.length - 1) a a q1 q2 rfl
      · rw [rg_zero]
        refine ⟨by rw [hnn, hln], fun z => ?_⟩
        have d2 : (x :: a :: M).dropLast = x :: a :: M.dropLast := by
          cases M with
          | nil => simp at hM
          | cons m M => rfl
        have d3 : a :: M = a :: M.dropLast ++ [x] := by
          have q : a :: M = a :: (M.dropLast ++ [y]) := by rw [eM2]
          rw [q, ← cy]
          rfl
        rw [d1, d2, d3]
        exact (rd_rot x (a :: M.dropLast) z).symm
    · -- neither: the stem grows
      have gs : Gd (a :: (M ++ [a]) ++ [x]) := gd_snoc g (by unfold lst; rw [hnn]; show (a :: (M ++ [a]))[M.length + 1]? = _; rw [List.getElem?_cons_succ, List.getElem?_append_right (Nat.le_refl _), Nat.sub_self]; rfl) (fun q => hx q.symm) (fun z _ hz q => cy (by
        rw [hnn, Nat.add_sub_cancel, gy] at hz
        rw [← q, Option.some.inj hz]))
      have gg : Gd (x :: (a :: (M ++ [a]) ++ [x])) := gd_cons gs hx (fun z hz q => cb (by
        rw [q]
        have q3 : (M ++ [a] ++ [x])[0]? = some b := by rw [List.append_assoc, List.getElem?_append_left (by omega)]; exact hb
        exact (Option.some.inj (q3.symm.trans hz)).symm))
      obtain ⟨k1, k2⟩ := core_grow (x := x) hC hn
      rw [shr_of_gd gg]
      exact ⟨_, ⟨t + 1, k1, rfl⟩, by rw [k2]; exact SameR.refl _, gg⟩
/-- led by any walk: the ring goes round alike -/
theorem ring_led : ∀ (v : List Str) {w R : List Str} {a : Str}, Gd (shr w) → fst0 w = some a → lst w = some a → HasR w R → (∀ (i : Nat) (p q : Str), (a :: v)[i]? = some p → (a :: v)[i + 1]? = some q → q ≠ p) →
    ∃ R', HasR (v.reverse ++ w ++ v) R' ∧ SameR R R' ∧ Gd (shr (v.reverse ++ w ++ v))
  | [], w, R, a, g, _, _, h, _ => ⟨R, by simpa using h, SameR.refl R, by simpa using g⟩
  | x :: v, w, R, a, g, hf, hl, h, hr => by
    obtain ⟨R1, h1, s1, g1⟩ := ring_step g hf hl (hr 0 a x rfl rfl) h
    have hf1 : fst0 (x :: (w ++ [x])) = some x := rfl
    have hl1 : lst (x :: (w ++ [x])) = some x := lst_snoc' (x :: w) x
    obtain ⟨R2, h2, s2, g2⟩ := ring_led v g1 hf1 hl1 h1 (fun i p q hp hq => hr (i + 1) p q hp hq)
    have e : v.reverse ++ (x :: (w ++ [x])) ++ v = (x :: v).reverse ++ w ++ (x :: v) := by simp
    rw [e] at h2 g2
    exact ⟨R2, h2, s1.trans s2, g2⟩
/-! ### the least of rows of texts -/
theorem toksAll_inj : ∀ {a b : List Str}, PySem.W.keyToksAll (a.map PyData.str) = PySem.W.keyToksAll (b.map PyData.str) → a = b
  | [], [], _ => rfl
  | [], _ :: _, h => by simp [PySem.W.keyToksAll] at h
  | _ :: _, [], h => by simp [PySem.W.keyToksAll] at h
  | x :: a, y :: b, h => by
    simp only [List.map_cons, PySem.W.keyToksAll, PySem.W.keyToks, List.cons.injEq, List.cons_append, List.nil_append, Sum.inr.injEq, true_and] at h
    rw [PySem.W.str_of_cps h.1, toksAll_inj h.2]
theorem ltW_eq (a b : List Str) : ltW a b = PyProof.Rows.lexLt PyProof.Rows.itemOrd (PySem.W.keyToksAll (a.map PyData.str)) (PySem.W.keyToksAll (b.map PyData.str)) := PySem.W.dataLt_tuple _ _
theorem ltW_irr (a : List Str) : ltW a a = false := by rw [ltW_eq]; exact PyProof.Rows.lex_irrefl _
theorem ltW_trans {a b c : List Str} (h : ltW a b = true) (h' : ltW b c = true) : ltW a c = true := by
  rw [ltW_eq] at h h' ⊢
  exact PyProof.Rows.lex_trans _ _ _ h h'
theorem ltW_total {a b : List Str} (h : ltW a b = false) (h' : ltW b a = false) : a = b := by
  rw [ltW_eq] at h h'
  exact toksAll_inj (PyProof.Rows.lex_total _ _ h h')
theorem minW_le : ∀ (xs : List (List Str)) (x : List Str), ∀ y ∈ x :: xs, ltW y (minW x xs) = false
  | [], x, y, h => by
    rw [List.mem_singleton.mp h]
    exact ltW_irr x
  | z :: xs, x, y, h => by
    show ltW y (minW (if ltW z x = true then z else x) xs) = false
    have least : ∀ m, ltW m (minW m xs) = false := fun m => minW_le xs m m List.mem_cons_self
    by_cases c : ltW z x = true
    · rw [if_pos c]
      rcases List.mem_cons.mp h with e | h
      · rw [e]
        cases q : ltW x (minW z xs) with
        | false => rfl
        | true => have := least z; rw [ltW_trans c q] at this; cases this
      · exact minW_le xs z y h
    · rw [if_neg c]
      rcases List.mem_cons.mp h with e | h
      · rw [e]; exact least x
      · rcases List.mem_cons.mp h with e | h
        · rw [e]
          cases q : ltW z (minW x xs) with
          | false => rfl
          | true =>
            cases q2 : ltW x z with
            | true => have := least x; rw [ltW_trans q2 q] at this; cases this
            | false =>
              have e2 := ltW_total q2 (by simpa using c)
              rw [← e2, least x] at q
              cases q
        · exact minW_le xs x y (List.mem_cons_of_mem _ h)
theorem minW_same {x y : List Str} {xs ys : List (List Str)} (h : ∀ z, z ∈ x :: xs ↔ z ∈ y :: ys) : minW x xs = minW y ys :=
  ltW_total (minW_le ys y _ ((h _).mp (minW_mem xs x))) (minW_le xs x _ ((h _).mpr (minW_mem ys y)))
/-! ### all turns of a ring; one walk as data for repr -/
/-- the ring begun at its k-th place -/
def tn (R : List Str) (k : Nat) : List Str := (R.drop k).dropLast ++ R.take (k + 1)
def rds (R : List Str) : List (List Str) := (List.range (R.length - 1)).map (tn R)
theorem rds_len (R : List Str) : (rds R).length = R.length - 1 := by unfold rds; rw [List.length_map, List.length_range]
theorem closed_cat {R : List Str} (h : 2 ≤ R.length) (hc : R[0]? = R[R.length - 1]?) : ∃ c C, R = c :: C ++ [c] := by
  obtain ⟨c, hc0⟩ : ∃ c, R[0]? = some c := ⟨_, List.getElem?_eq_getElem (by omega)⟩
  have e1 : c :: R.tail = R := fst_tl hc0
  have e2 : lst R.tail = some c := by
    unfold lst
    rw [List.getElem?_tail, List.length_tail, show R.length - 1 - 1 + 1 = R.length - 1 by omega, ← hc, hc0]
  exact ⟨c, R.tail.dropLast, by rw [List.cons_append, lst_dl e2]; exact e1.symm⟩
theorem tn_eq {c : Str} {C : List Str} {k : Nat} (hk : k ≤ C.length) : tn (c :: C ++ [c]) k = (c :: C).drop k ++ (c :: C).take k ++ ((c :: C).drop k).take 1 := by
  have h1 : k ≤ (c :: C).length := by rw [List.length_cons]; omega
  unfold tn
  rw [List.drop_append_of_le_length h1, List.dropLast_concat, List.take_append_of_le_length (by rw [List.length_cons]; omega), List.append_assoc]
  congr 1
  have h2 : (c :: C).take (k + 1) = (c :: C).take k ++ (c :: C)[k]?.toList := List.take_succ
  have h3 : k < (c :: C).length := by rw [List.length_cons]; omega
  rw [h2, List.getElem?_eq_getElem h3, List.drop_eq_getElem_cons h3]
  rfl
theorem rds_mem {R : List Str} (hc : R.length = 1 ∨ (2 ≤ R.length ∧ R[0]? = R[R.length - 1]?)) (z : List Str) : z ∈ rds R ↔ Rd R.dropLast z := by
  rcases hc with h | ⟨h, hc⟩
  · have e : R.dropLast = [] := List.eq_nil_of_length_eq_zero (by rw [List.length_dropLast]; omega)
    rw [e]
    constructor
    · intro q
      unfold rds at q
      rw [h] at q
      simp at q
    · exact fun q => absurd q (rd_nil z)
  · obtain ⟨c, C, rfl⟩ := closed_cat h hc
    rw [List.dropLast_concat]
    have hl : (c :: C ++ [c]).length - 1 = C.length + 1 := by simp
    unfold rds
    rw [hl]
    constructor
    · intro q
      obtain ⟨k, hk, rfl⟩ := List.mem_map.mp q
      rw [List.mem_range] at hk
      rw [tn_eq (by omega)]
      exact ⟨(c :: C).take k, (c :: C).drop k, (List.take_append_drop k _).symm, fun e => by
        have := congrArg List.length e
        rw [List.length_drop, List.length_cons] at this
        simp at this
        omega, rfl⟩
    · rintro ⟨p, q, e, hq, rfl⟩
      have hlen := congrArg List.length e
      rw [List.length_append, List.length_cons] at hlen
      have hq0 : 0 < q.length := by
        cases q with
        | nil => exact absurd rfl hq
        | cons a b => simp
      refine List.mem_map.mpr ⟨p.length, List.mem_range.mpr (by omega), ?_⟩
      rw [tn_eq (by omega), e, List.drop_left, List.take_left]
theorem rds_same {R R' : List Str} (hR : R.length = 1 ∨ (2 ≤ R.length ∧ R[0]? = R[R.length - 1]?)) (hR' : R'.length = 1 ∨ (2 ≤ R'.length ∧ R'[0]? = R'[R'.length - 1]?)) (h : SameR R R') (z : List Str) : z ∈ rds R ↔ z ∈ rds R' := by
  rw [rds_mem hR, rds_mem hR']
  exact h.2 z
/-- the name of a ring -/
def nmR (R : List Str) : List Str := match rds R with
  | [] => []
  | x :: xs => minW x xs
theorem nmR_same {R R' : List Str} (hR : R.length = 1 ∨ (2 ≤ R.length ∧ R[0]? = R[R.length - 1]?)) (hR' : R'.length = 1 ∨ (2 ≤ R'.length ∧ R'[0]? = R'[R'.length - 1]?)) (h : SameR R R') : nmR R = nmR R' := by
  have hm := rds_same hR hR' h
  have h1 := rds_len R
  have h2 := rds_len R'
  have hl := h.1
  unfold nmR
  cases e : rds R with
  | nil =>
    cases e' : rds R' with
    | nil => rfl
    | cons y ys => rw [e] at h1; rw [e', List.length_cons] at h2; rw [List.length_nil] at h1; omega
  | cons x xs =>
    cases e' : rds R' with
    | nil => rw [e, List.length_cons] at h1; rw [e'] at h2; rw [List.length_nil] at h2; omega
    | cons y ys =>
      rw [e, e'] at hm
      exact minW_same hm
section
variable {K : PySem.W.Frag} {H : Hp} {s : Addr} {xs : List Str} {Q : VK}
theorem c_reprT (h1 : SqT K H s (xs.map V.str)) (a : ∀ z ∈ xs, NmOk z) (la : xs.length ≤ 10000) (q : Q (.str (dT xs).shown) H) : kRepr K [.ref s] H Q := by
  refine c_repr (.tup h1 (dp_strs _)) ?_ ?_ ?_ ?_ q
  · simp [PyData.showable, shows_strs]
  · simp [PyData.hasDict, nodict_strs]
  · simp [PyData.depth, deep_strs]
  · have e : (PyData.tuple (xs.map .str)).shown = tupleText (xs.map reprText) := by simp only [PyData.shown, shown_strs]
    rw [e, sizeLine_eq]
    have h3 := len_tt xs a
    omega
end
theorem k_minT {X : Cx} {K : PySem.W.Frag} (e : X.K = K) (hc : X.calm = true) (hu : X.A.units + 64 < cLine) : CallR X (.builtin "min") (rMinT K) := by subst e; exact cr_minT hc hu
/-! ### periods, roots; t * k of a long row -/
/-- f goes round alike behind k of n places -/
def Per {α : Type} (f : Nat → α) (n k : Nat) : Prop := ∀ i, i < n → f ((i + k) % n) = f i
section
variable {α : Type} {f : Nat → α} {n k d e : Nat}
theorem per_n (f : Nat → α) (n : Nat) : Per f n n := fun i hi => by rw [Nat.add_mod_right, Nat.mod_eq_of_lt hi]
theorem per_iter (h : Per f n k) (m : Nat) : ∀ i, i < n → f ((i + m * k) % n) = f i := by
  induction m with
  | zero => intro i hi; rw [Nat.zero_mul, Nat.add_zero, Nat.mod_eq_of_lt hi]
  | succ m ih =>
    intro i hi
    have hn : 0 < n := by omega
    have e : (i + (m + 1) * k) % n = ((i + m * k) % n + k) % n := by
      rw [Nat.mod_add_mod]
      congr 1
      rw [Nat.succ_mul]
      omega
    rw [e, h _ (Nat.mod_lt _ hn), ih i hi]
/-- the fewest places behind which f goes round alike -/
structure Few (f : Nat → α) (n d : Nat) : Prop where
  one : 1 ≤ d
  le : d ≤ n
  per : Per f n d
  least : ∀ k, 1 ≤ k → k < d → ¬ Per f n k
theorem few_dvd (h : Few f n d) : n % d = 0 := by
  apply Classical.byContradiction
  intro c
  have h1 := h.one
  have h2 := h.le
  have hr : n % d < d := Nat.mod_lt _ h1
  refine h.least (n % d) (by omega) hr (fun i hi => ?_)
  have hn : 0 < n := by omega
  have e := per_iter h.per (n / d) ((i + n % d) % n) (Nat.mod_lt _ hn)
  rw [Nat.mod_add_mod] at e
  have e2 : i + n % d + n / d * d = i + n := by
    have := Nat.div_add_mod n d
    rw [Nat.mul_comm] at this
    omega
  rw [e2, Nat.add_mod_right, Nat.mod_eq_of_lt hi] at e
  exact e.symm
theorem few_ex (hn : 1 ≤ n) : ∃ d, Few f n d := by
  have key : ∀ m, 1 ≤ m → m ≤ n → Per f n m → ∃ d, Few f n d := by
    intro m
    induction m using Nat.strongRecOn with
    | ind m ih =>
      intro h1 h2 h3
      by_cases c : ∃ k, 1 ≤ k ∧ k < m ∧ Per f n k
      · obtain ⟨k, a, b, q⟩ := c
        exact ih k b a (by omega) q
      · exact ⟨m, h1, h2, h3, fun k a b q => c ⟨k, a, b, q⟩⟩
  exact key n hn (Nat.le_refl n) (per_n f n)
theorem few_uniq (h : Few f n d) (h' : Few f n e) : d = e := by
  rcases Nat.lt_trichotomy d e with c | c | c
  · exact absurd h.per (h'.least d h.one c)
  · exact c
  · exact absurd h'.per (h.least e h'.one c)
theorem per_mod (hk : n % k = 0) (h1 : 1 ≤ k) : Per f n k ↔ ∀ i, i < n → f (i % k) = f i := by
  constructor
  · intro h i hi
    have hkn : k ≤ n := Nat.le_of_dvd (by omega) (Nat.dvd_of_mod_eq_zero hk)
    have hlt := Nat.mod_lt i h1
    have e := per_iter h (i / k) (i % k) (by omega)
    have e2 : i % k + i / k * k = i := by
      have := Nat.mod_add_div i k
      rw [Nat.mul_comm] at this
      exact this
    rw [e2, Nat.mod_eq_of_lt hi] at e
    exact e.symm
  · intro h i hi
    have hn : 0 < n := by omega
    have e1 := h ((i + k) % n) (Nat.mod_lt _ hn)
    rw [Nat.mod_mod_of_dvd _ (Nat.dvd_of_mod_eq_zero hk), Nat.add_mod_right, h i hi] at e1
    exact e1.symm
theorem repF_len (q : Nat) (L : List α) : (List.replicate q L).flatten.length = q * L.length := by simp
theorem repF_get {L : List α} (hL : 0 < L.length) : ∀ (q i : Nat), i < q * L.length → (List.replicate q L).flatten[i]? = L[i % L.length]?
  | 0, i, h => by rw [Nat.zero_mul] at h; omega
  | q + 1, i, h => by
    rw [List.replicate_succ, List.flatten_cons]
    by_cases c : i < L.length
    · rw [List.getElem?_append_left c, Nat.mod_eq_of_lt c]
    · rw [List.getElem?_append_right (by omega), repF_get hL q (i - L.length) (by rw [Nat.succ_mul] at h; omega), ← Nat.mod_eq_sub_mod (by omega)]
end
section
variable {R W : List Str} {n k d t : Nat}
theorem tn_get {i : Nat} (hl : R.length = n + 1) (hk : k < n) (hi : i < n) : (tn R k)[i]? = R[(i + k) % n]? := by
  unfold tn
  have e0 : ((R.drop k).dropLast).length = n - k := by rw [List.length_dropLast, List.length_drop]; omega
  by_cases c : i < n - k
  · rw [List.getElem?_append_left (by omega), List.getElem?_dropLast, if_pos (by rw [List.length_drop]; omega), List.getElem?_drop, Nat.mod_eq_of_lt (by omega), Nat.add_comm]
  · rw [List.getElem?_append_right (by omega), e0, List.getElem?_take, if_pos (by omega)]
    congr 1
    rw [Nat.mod_eq_sub_mod (by omega), Nat.mod_eq_of_lt (by omega)]
    omega
theorem tn_len' (hl : R.length = n + 1) (hk : k < n) : (tn R k).length = n + 1 := by
  unfold tn
  rw [List.length_append, List.length_dropLast, List.length_drop, List.length_take]
  omega
theorem tn_per (hl : R.length = n + 1) (hc : R[0]? = R[n]?) (hk : k < n) : tn R k = R ↔ Per (fun i => R[i]?) n k := by
  constructor
  · intro e i hi
    show R[(i + k) % n]? = R[i]?
    rw [← tn_get hl hk hi, e]
  · intro h
    refine List.ext_getElem? fun i => ?_
    rcases Nat.lt_trichotomy i n with c | c | c
    · rw [tn_get hl hk c]
      exact h i c
    · subst c
      have h0 : R[(0 + k) % i]? = R[0]? := h 0 (by omega)
      rw [Nat.zero_add, Nat.mod_eq_of_lt hk] at h0
      have e : (tn R k)[i]? = R[k]? := by
        unfold tn
        have e0 : ((R.drop k).dropLast).length = i - k := by rw [List.length_dropLast, List.length_drop]; omega
        rw [List.getElem?_append_right (by omega), e0, List.getElem?_take, if_pos (by omega)]
        congr 1
        omega
      rw [e, h0, hc]
    · rw [List.getElem?_eq_none (by rw [tn_len' hl hk]; omega), List.getElem?_eq_none (by omega)]
theorem rep_per (hl : R.length = n + 1) (h1 : 1 ≤ k) (hk : n % k = 0) (hn : 1 ≤ n) : (List.replicate (n / k) (R.take k)).flatten = R.dropLast ↔ Per (fun i => R[i]?) n k := by
  have hkn : k ≤ n := Nat.le_of_dvd hn (Nat.dvd_of_mod_eq_zero hk)
  have hT : (R.take k).length = k := by rw [List.length_take]; omega
  have hq : n / k * k = n := Nat.div_mul_cancel (Nat.dvd_of_mod_eq_zero hk)
  have get : ∀ i, i < n → (List.replicate (n / k) (R.take k)).flatten[i]? = R[i % k]? := fun i hi => by
    rw [repF_get (by omega) _ _ (by rw [hT, hq]; exact hi), hT, List.getElem?_take, if_pos (Nat.mod_lt _ h1)]
  rw [per_mod hk h1]
  constructor
  · intro e i hi
    show R[i % k]? = R[i]?
    rw [← get i hi, e, List.getElem?_dropLast, if_pos (by omega)]
  · intro h
    refine List.ext_getElem? fun i => ?_
    by_cases c : i < n
    · rw [get i c, List.getElem?_dropLast, if_pos (by omega)]
      exact h i c
    · rw [List.getElem?_eq_none (by rw [repF_len, hT, hq]; omega), List.getElem?_eq_none (by rw [List.length_dropLast]; omega)]
theorem per_ext (hc : R[0]? = R[n]?) (h : Few (fun i => R[i]?) n d) : ∀ j, j ≤ n → R[j % d]? = R[j]? := by
  intro j hj
  have hd := few_dvd h
  rcases Nat.lt_or_ge j n with c | c
  · exact (per_mod hd h.one).mp h.per j c
  · have e : j = n := by omega
    subst e
    rw [hd, hc]
/-- the root: the stem, so many steps of the ring, the stem turned about -/
def rtW (W : List Str) (t d : Nat) : List Str := sm W t ++ ((rg W t).drop 1).take d ++ (sm W t).reverse.tail
theorem sm_len (h : t < W.length) : (sm W t).length = t + 1 := by unfold sm; rw [List.length_take]; omega
theorem rg_closed (hC : CoreAt W t) (hn : W.length = 2 * t + n + 1) : (rg W t)[0]? = (rg W t)[n]? := by
  rw [rg_get (by omega), rg_get (by omega), Nat.add_zero]
  have e := hC.pal t (Nat.le_refl t)
  rw [e]
  congr 1
  omega
theorem rt_len (hC : CoreAt W t) (hn : W.length = 2 * t + n + 1) (hd : d ≤ n) : (rtW W t d).length = 2 * t + d + 1 := by
  unfold rtW
  rw [List.length_append, List.length_append, List.length_tail, List.length_reverse, sm_len (by omega), List.length_take, List.length_drop, rg_len]
  omega
theorem rt_low (hn : W.length = 2 * t + n + 1) (hd : d ≤ n) {i : Nat} (hi : i ≤ t + d) : (rtW W t d)[i]? = W[i]? := by
  unfold rtW
  have e1 : (sm W t).length = t + 1 := sm_len (by omega)
  have e2 : (((rg W t).drop 1).take d).length = d := by rw [List.length_take, List.length_drop, rg_len]; omega
  rw [List.getElem?_append_left (by rw [List.length_append]; omega)]
  by_cases c : i ≤ t
  · rw [List.getElem?_append_left (by omega)]
    unfold sm
    rw [List.getElem?_take, if_pos (by omega)]
  · rw [List.getElem?_append_right (by omega), e1, List.getElem?_take, if_pos (by omega), List.getElem?_drop, rg_get (by omega)]
    congr 1
    omega
theorem rt_high (hC : CoreAt W t) (hn : W.length = 2 * t + n + 1) (h : Few (fun i => (rg W t)[i]?) n d) {i : Nat} (h1 : t ≤ i) (h2 : i ≤ 2 * t + d) : (rtW W t d)[i]? = W[i + (n - d)]? := by
  have hd := h.le
  have hdv := few_dvd h
  by_cases c : i ≤ t + d
  · rw [rt_low hn hd c]
    have hx := per_ext (rg_closed hC hn) h
    have a1 := hx (i - t) (by omega)
    have a2 := hx (i - t + (n - d)) (by omega)
    have e : (i - t + (n - d)) % d = (i - t) % d := by
      have e3 : n - d = (n / d - 1) * d := by
        have := Nat.div_add_mod n d
        rw [hdv, Nat.add_zero, Nat.mul_comm] at this
        rw [Nat.sub_mul, Nat.one_mul, this]
      rw [e3, Nat.add_mul_mod_self_right]
    rw [e] at a2
    have a3 := a1.symm.trans a2
    rw [rg_get (by omega), rg_get (by omega)] at a3
    rw [show t + (i - t) = i by omega, show t + (i - t + (n - d)) = i + (n - d) by omega] at a3
    exact a3
  · unfold rtW
    have e1 : (sm W t).length = t + 1 := sm_len (by omega)
    have e2 : (((rg W t).drop 1).take d).length = d := by rw [List.length_take, List.length_drop, rg_len]; omega
    rw [List.getElem?_append_right (by rw [List.length_append]; omega), List.length_append, e1, e2, List.getElem?_tail, List.getElem?_reverse (by omega), e1]
    unfold sm
    rw [List.getElem?_take, if_pos (by omega), hC.pal _ (by omega)]
    congr 1
    omega
theorem few_three (hC : CoreAt W t) (hn : W.length = 2 * t + n + 1) (hn1 : 1 ≤ n) (h : Few (fun i => (rg W t)[i]?) n d) : 3 ≤ d ∧ 3 ≤ n ∧ W[t + 1]? ≠ W[t + n - 1]? := by
  have h1 := h.one
  have hd := h.le
  have hf := hC.fin.resolve_left (by omega)
  have hne : W[t + 1]? ≠ W[t + n - 1]? := by
    have := hf.2
    rw [show W.length - 2 - t = t + n - 1 by omega] at this
    exact this
  refine ⟨?_, by omega, hne⟩
  apply Classical.byContradiction
  intro c
  have hx := per_ext (rg_closed hC hn) h
  have a1 := hx 1 (by omega)
  have a2 := hx (n - 1) (by omega)
  have hdv := few_dvd h
  have e : 1 % d = (n - 1) % d := by
    have h12 : d = 1 ∨ d = 2 := by omega
    rcases h12 with rfl | rfl
    · rw [Nat.mod_one, Nat.mod_one]
    · omega
  rw [e] at a1
  have a3 := a1.symm.trans a2
  rw [rg_get (by omega), rg_get (by omega)] at a3
  exact hne (by rw [show t + n - 1 = t + (n - 1) by omega]; exact a3)
structure RootOk (W : List Str) (t n d : Nat) : Prop where
  gd : Gd (rtW W t d)
  co : CoreAt (rtW W t d) t
  sm : TT.sm (rtW W t d) t = TT.sm W t
  rg : TT.rg (rtW W t d) t = (TT.rg W t).take (d + 1)
  few : Few (fun i => (TT.rg (rtW W t d) t)[i]?) d d
  same : rtW (rtW W t d) t d = rtW W t d
theorem root_ok (g : Gd W) (hC : CoreAt W t) (hn : W.length = 2 * t + n + 1) (hn1 : 1 ≤ n) (h : Few (fun i => (rg W t)[i]?) n d) : RootOk W t n d := by
  obtain ⟨h3, hn3, hne⟩ := few_three hC hn hn1 h
  have hd := h.le
  have hl := rt_len hC hn hd
  have some_lt : ∀ {i : Nat} {a : Str}, (rtW W t d)[i]? = some a → i < 2 * t + d + 1 := by
    intro i a e
    rcases Nat.lt_or_ge i (rtW W t d).length with c | c
    · omega
    · rw [List.getElem?_eq_none c] at e; cases e
  have e_sm : TT.sm (rtW W t d) t = TT.sm W t := by
    have e1 : (TT.sm W t).length = t + 1 := sm_len (by omega)
    unfold rtW
    rw [List.append_assoc]
    show List.take (t + 1) _ = _
    rw [List.take_append_of_le_length (by omega)]
    exact List.take_of_length_le (by omega)
  have e_rg : TT.rg (rtW W t d) t = (TT.rg W t).take (d + 1) := by
    refine List.ext_getElem? fun i => ?_
    by_cases c : i < d + 1
    · rw [rg_get (by omega), rt_low hn hd (by omega), List.getElem?_take, if_pos c, rg_get (by omega)]
    · rw [List.getElem?_eq_none (by rw [rg_len]; omega), List.getElem?_eq_none (by rw [List.length_take]; omega)]
  refine ⟨⟨fun i a b ha hb => ?_, fun i a b ha hb => ?_⟩, ⟨by omega, fun i hi => ?_, .inr ⟨by omega, ?_⟩⟩, e_sm, e_rg, ?_, ?_⟩
  · have hi := some_lt hb
    by_cases c : i + 1 ≤ t + d
    · rw [rt_low hn hd (by omega)] at ha hb
      exact g.one i a b ha hb
    · rw [rt_high hC hn h (by omega) (by omega)] at ha hb
      exact g.one (i + (n - d)) a b ha (by rw [show i + (n - d) + 1 = i + 1 + (n - d) by omega]; exact hb)
  · have hi := some_lt hb
    by_cases c : i + 2 ≤ t + d
    · rw [rt_low hn hd (by omega)] at ha hb
      exact g.two i a b ha hb
    · rw [rt_high hC hn h (by omega) (by omega)] at ha hb
      exact g.two (i + (n - d)) a b ha (by rw [show i + (n - d) + 2 = i + 2 + (n - d) by omega]; exact hb)
  · rw [hl, rt_low hn hd (by omega), rt_high hC hn h (by omega) (by omega), hC.pal i hi]
    congr 1
    omega
  · rw [hl, rt_low hn hd (by omega), rt_high hC hn h (by omega) (by omega), show 2 * t + d + 1 - 2 - t + (n - d) = t + n - 1 by omega]
    exact hne
  · have gt : ∀ i, i < d → ((TT.rg W t).take (d + 1))[i]? = (TT.rg W t)[i]? := fun i hi => by rw [List.getElem?_take, if_pos (by omega)]
    rw [e_rg]
    refine ⟨h.one, Nat.le_refl d, per_n _ d, fun k k1 k2 hp => h.least k k1 k2 (fun i hi => ?_)⟩
    have hx := per_ext (rg_closed hC hn) h
    have hd0 : 0 < d := by omega
    have hn0 : 0 < n := by omega
    have b1 := hx ((i + k) % n) (Nat.le_of_lt (Nat.mod_lt _ hn0))
    have b2 := hx i (by omega)
    rw [Nat.mod_mod_of_dvd _ (Nat.dvd_of_mod_eq_zero (few_dvd h))] at b1
    have b3 : ((TT.rg W t).take (d + 1))[(i % d + k) % d]? = ((TT.rg W t).take (d + 1))[i % d]? := hp (i % d) (Nat.mod_lt _ hd0)
    rw [gt _ (Nat.mod_lt _ hd0), gt _ (Nat.mod_lt _ hd0), Nat.mod_add_mod] at b3
    show (TT.rg W t)[(i + k) % n]? = (TT.rg W t)[i]?
    rw [← b1, b3, b2]
  · show TT.sm (rtW W t d) t ++ ((TT.rg (rtW W t d) t).drop 1).take d ++ (TT.sm (rtW W t d) t).reverse.tail = rtW W t d
    rw [e_sm, e_rg, List.drop_take, List.take_take]
    unfold rtW
    rw [show min d (d + 1 - 1) = d by omega]
/-! powers -/
def powW (A : List Str) : Nat → List Str
  | 0 => A.take 1
  | m + 1 => beh (powW A m) A
theorem lst_catT {A X : List Str} {c : Str} (h : lst X = some c) : lst (A ++ X) = some c := by
  have h0 : 0 < X.length := by
    rcases Nat.lt_or_ge 0 X.length with z | z
    · exact z
    · unfold lst at h; rw [List.getElem?_eq_none (by omega)] at h; cases h
  unfold lst at h ⊢
  rw [List.length_append, List.getElem?_append_right (by omega), ← h]
  congr 1
  omega
theorem pow_stem {S X : List Str} {c : Str} (hS : lst S = some c) (hX : lst X = some c) : ∀ m, powW (S ++ X ++ S.reverse.tail) m = shr (S ++ (List.replicate m X).flatten ++ S.reverse.tail)
  | 0 => by
    cases S with
    | nil => cases hS
    | cons x o =>
      have e := shr_out [] [] o x
      rw [List.nil_append, List.append_nil, List.nil_append] at e
      have e2 : (x :: o) ++ (List.replicate 0 X).flatten ++ (x :: o).reverse.tail = (x :: o) ++ (x :: o).reverse.tail := by simp
      rw [e2, e]
      rfl
  | m + 1 => by
    show beh (powW (S ++ X ++ S.reverse.tail) m) (S ++ X ++ S.reverse.tail) = _
    rw [pow_stem hS hX m]
    unfold beh
    have hz : lst (S ++ (List.replicate m X).flatten) = some c := by
      cases m with
      | zero => simpa using hS
      | succ m => rw [List.replicate_succ', List.flatten_concat, ← List.append_assoc]; exact lst_catT hX
    have e1 := shr_in [] (S ++ (List.replicate m X).flatten ++ S.reverse.tail) (S ++ X ++ S.reverse.tail).tail
    rw [List.nil_append, List.nil_append] at e1
    rw [e1]
    have eR : S.reverse = c :: S.reverse.tail := (fst_tl (fst_rev hS)).symm
    have eA := (lst_dl hz).symm
    have eT : (S ++ X ++ S.reverse.tail).tail = S.tail ++ X ++ S.reverse.tail := by
      cases S with
      | nil => cases hS
      | cons x o => rfl
    have eS : S.tail = (c :: S.reverse.tail).reverse.tail := by rw [← eR, List.reverse_reverse]
    have e3 := shr_out (S ++ (List.replicate m X).flatten).dropLast (X ++ S.reverse.tail) S.reverse.tail c
    rw [eT]
    have e4 : S ++ (List.replicate m X).flatten ++ S.reverse.tail ++ (S.tail ++ X ++ S.reverse.tail) = (S ++ (List.replicate m X).flatten).dropLast ++ (c :: S.reverse.tail) ++ (c :: S.reverse.tail).reverse.tail ++ (X ++ S.reverse.tail) := by
      rw [← eS]
      conv => lhs; rw [eA]
      simp
    rw [e4, e3]
    have e5 : (S ++ (List.replicate m X).flatten).dropLast ++ c :: (X ++ S.reverse.tail) = S ++ (List.replicate m X).flatten ++ X ++ S.reverse.tail := by
      conv => rhs; rw [eA]
      simp
    rw [e5, List.replicate_succ', List.flatten_concat, List.append_assoc S]
theorem rt_split (hC : CoreAt W t) (hn : W.length = 2 * t + n + 1) (hn1 : 1 ≤ n) (h : Few (fun i => (rg W t)[i]?) n d) : ∃ c, lst (sm W t) = some c ∧ lst (((rg W t).drop 1).take d) = some c := by
  have h1 := h.one
  have hd := h.le
  refine ⟨W[t]'(by omega), ?_, ?_⟩
  · unfold lst
    rw [sm_len (by omega)]
    unfold sm
    rw [List.getElem?_take, if_pos (by omega)]
    exact List.getElem?_eq_getElem (by omega)
  · have e2 : (((rg W t).drop 1).take d).length = d := by rw [List.length_take, List.length_drop, rg_len]; omega
    have hx := per_ext (rg_closed hC hn) h
    have a := hx d hd
    rw [Nat.mod_self] at a
    unfold lst
    rw [e2, List.getElem?_take, if_pos (by omega), List.getElem?_drop, show 1 + (d - 1) = d by omega, ← a, rg_get (by omega)]
    exact List.getElem?_eq_getElem (by omega)
theorem pow_root (g : Gd W) (hC : CoreAt W t) (hn : W.length = 2 * t + n + 1) (hn1 : 1 ≤ n) (h : Few (fun i => (rg W t)[i]?) n d) : powW (rtW W t d) (n / d) = W := by
  obtain ⟨c, c1, c2⟩ := rt_split hC hn hn1 h
  have h1 := h.one
  have hd := h.le
  unfold rtW
  rw [pow_stem c1 c2]
  have e : (List.replicate (n / d) (((rg W t).drop 1).take d)).flatten = (rg W t).tail := by
    have e2 : (((rg W t).drop 1).take d).length = d := by rw [List.length_take, List.length_drop, rg_len]; omega
    have hq : n / d * d = n := Nat.div_mul_cancel (Nat.dvd_of_mod_eq_zero (few_dvd h))
    have hx := per_ext (rg_closed hC hn) h
    refine List.ext_getElem? fun i => ?_
    by_cases ci : i < n
    · have hm := Nat.mod_lt i h1
      rw [repF_get (by omega) _ _ (by rw [e2, hq]; exact ci), e2, List.getElem?_take, if_pos hm, List.getElem?_drop, List.getElem?_tail]
      have a1 := hx (i + 1) (by omega)
      have a2 := hx (1 + i % d) (by omega)
      have e3 : (1 + i % d) % d = (i + 1) % d := by rw [Nat.add_mod_mod, Nat.add_comm]
      rw [e3] at a2
      exact a2.symm.trans a1
    · rw [List.getElem?_eq_none (by rw [repF_len, e2, hq]; omega), List.getElem?_eq_none (by rw [List.length_tail, rg_len]; omega)]
  rw [e, core_whole hC]
  exact shr_of_gd g
theorem pow_len (hC : CoreAt W t) (hn : W.length = 2 * t + n + 1) (hn1 : 1 ≤ n) (h : Few (fun i => (rg W t)[i]?) n d) (j : Nat) (hj : j ≤ n / d) : (powW (rtW W t d) j).length ≤ W.length := by
  obtain ⟨c, c1, c2⟩ := rt_split hC hn hn1 h
  have hd := h.le
  unfold rtW
  rw [pow_stem c1 c2]
  refine Nat.le_trans (shr_len _) ?_
  have e2 : (((rg W t).drop 1).take d).length = d := by rw [List.length_take, List.length_drop, rg_len]; omega
  rw [List.length_append, List.length_append, repF_len, e2, List.length_tail, List.length_reverse, sm_len (by omega)]
  have hq : n / d * d = n := Nat.div_mul_cancel (Nat.dvd_of_mod_eq_zero (few_dvd h))
  have := Nat.mul_le_mul_right d hj
  omega
end
/-! a walk so many times -/
section
variable {A : List Str} {x : Str}
theorem pow_fst (hf : fst0 A = some x) : ∀ m, fst0 (powW A m) = some x
  | 0 => by
    show (A.take 1)[0]? = some x
    rw [List.getElem?_take, if_pos (by omega)]
    exact hf
  | m + 1 => fst_beh (pow_fst hf m)
theorem pow_one (hf : fst0 A = some x) : A.take 1 = [x] := by
  cases A with
  | nil => cases hf
  | cons y r =>
    have e : y = x := Option.some.inj hf
    subst e
    rfl
theorem pow_lst (hf : fst0 A = some x) (hl : lst A = some x) : ∀ m, lst (powW A m) = some x
  | 0 => by
    show lst (A.take 1) = some x
    rw [pow_one hf]
    rfl
  | m + 1 => lst_beh (pow_lst hf hl m) hf hl
theorem pow_mem : ∀ (m : Nat) (z : Str), z ∈ powW A m → z ∈ A
  | 0, z, h => List.mem_of_mem_take h
  | m + 1, z, h => by
    rcases beh_mem h with h | h
    · exact pow_mem m z h
    · exact h
theorem pow_le : ∀ m, (powW A m).length ≤ 1 + m * A.length
  | 0 => by
    show (A.take 1).length ≤ _
    rw [List.length_take]
    omega
  | m + 1 => by
    have h := pow_le m
    have h2 := beh_len (powW A m) A
    show (beh (powW A m) A).length ≤ _
    rw [Nat.succ_mul]
    omega
/-- unlike ones side by side -/
def Unl (w : List Str) : Prop := ∀ (i : Nat) (a b : Str), w[i]? = some a → w[i + 1]? = some b → a ≠ b
theorem unl_glue {a b : List Str} {x : Str} (ha : lst a = some x) (hb : fst0 b = some x) (ua : Unl a) (ub : Unl b) : Unl (a ++ b.tail) := by
  intro i p q hp hq
  have h0 : 0 < a.length := by
    rcases Nat.lt_or_ge 0 a.length with z | z
    · exact z
    · unfold lst at ha; rw [List.getElem?_eq_none (by omega)] at ha; cases ha
  by_cases c : i + 1 < a.length
  · rw [List.getElem?_append_left (by omega)] at hp
    rw [List.getElem?_append_left c] at hq
    exact ua i p q hp hq
  · rw [List.getElem?_append_right (by omega), List.getElem?_tail] at hq
    have hp2 : b[i + 1 - a.length]? = some p := by
      by_cases c2 : i < a.length
      · rw [List.getElem?_append_left c2] at hp
        have e : i = a.length - 1 := by omega
        rw [e] at hp
        rw [show i + 1 - a.length = 0 by omega, ← hp]
        exact hb.trans ha.symm
      · rw [List.getElem?_append_right (by omega), List.getElem?_tail] at hp
        rw [show i + 1 - a.length = i - a.length + 1 by omega]
        exact hp
    exact ub _ p q hp2 hq
theorem pow_unl (hf : fst0 A = some x) (hl : lst A = some x) (hu : Unl A) : ∀ m, Unl (powW A m)
  | 0 => fun i a b ha hb => by
    change (A.take 1)[i + 1]? = some b at hb
    rw [pow_one hf, List.getElem?_eq_none (by simp)] at hb
    cases hb
  | m + 1 => (shr_gd (unl_glue (pow_lst hf hl m) hf (pow_unl hf hl hu m) hu)).one
end
/-! ### t * k of a longer row -/
def rRepB (K : PySem.W.Frag) : R2 := fun x y H Q => ∃ l k xs, x = .ref l ∧ y = .int k ∧ SqT K H l xs ∧ xs ≠ [] ∧ 1 ≤ k ∧ k.toNat * xs.length ≤ 1000000 ∧ (k = 1 → Q (.ref l) H) ∧ (2 ≤ k → ∀ p, H p = none → Q (.ref p) (upd H p (.tup (List.replicate k.toNat xs).flatten)))
theorem op_repB {X : Cx} : OpR X (binaryOp .Mult) (rRepB X.K) := by
  intro pins s σ H x y v u Q I rx ry h
  obtain ⟨l, k, xs, rfl, rfl, hT, hne, h1, hz, q1, q2⟩ := h
  have hx0 : 1 ≤ xs.length := by
    cases xs with
    | nil => exact absurd rfl hne
    | cons a b => simp
  by_cases hk : k = 1
  · have hsm : rRepA X.K (.ref l) (.int k) H Q ∨ 1000 < xs.length := by
      rcases Nat.lt_or_ge 1000 xs.length with c | c
      · exact .inr c
      · exact .inl ⟨l, k, xs, rfl, rfl, hT, hne, h1, by omega, c, q1, q2⟩
    rcases hsm with hsm | hbig
    · exact op_repA pins s σ H _ _ v u Q I rx ry hsm
    subst hk
    cases rx
    obtain ⟨t, rfl⟩ := ry
    obtain ⟨itm, rv, ⟨⟨cl, od, dt, sv⟩, hob, hcl, no, hdt⟩, hsz⟩ := I.tuple hT
    simp only at hcl hdt
    subst hcl hdt
    have b0 : (decide ((1 : Int) < -(2 ^ 63)) || decide ((1 : Int) ≥ 2 ^ 63)) = false := by decide
    have b1 : (itm.toArray.isEmpty || (1 : Int) == 1) = true := by rw [Bool.or_eq_true]; exact .inr rfl
    have m1 := call_meets (prog := X.prog) (w := X.w) (A := X.A) (E := X.xe) (Q := EP X pins σ Q) (s := s) (self := .ref l) F.slot_tuple_mul ⟨_, hob, rfl⟩ F.entry_tuple_mul (F.args_tuple_mul_2 _ _) (tuple_mulW1 l itm.toArray no sv od 1 t b0 b1) ⟨hob, ⟨.ref l, H, I, rfl, q1 rfl⟩⟩
    refine wpAny_binaryOp_repeat_ref (T := "tuple") (U := "int") (by decide) ⟨_, hob, rfl⟩ (fun s' => typeIs_int s' 1 t) noFill_tuple_mul F.fills_int_mul F.slot_int_rmul repeat_tuple F.slot_int_index.lookup
      (call_meets F.slot_int_rmul (typeIs_int s 1 t) F.entry_int_rmul (F.args_int_rmul_2 _ _) (int_rmul_tuple 1 t l itm.toArray no od sv) ⟨hob, rfl, ⟨_, hob, rfl⟩, m1⟩)
  have hk2 : 2 ≤ k := by omega
  cases rx
  obtain ⟨t, rfl⟩ := ry
  obtain ⟨itm, rv, ⟨⟨cl, od, dt, sv⟩, hob, hcl, no, hdt⟩, hsz⟩ := I.tuple hT
  simp only at hcl hdt
  subst hcl hdt
  have hlen : itm.length = xs.length := rv.length.symm
  obtain ⟨z, zs, rfl⟩ : ∃ z zs, itm = z :: zs := by
    cases itm with
    | nil => rw [← hlen] at hx0; simp at hx0
    | cons z zs => exact ⟨z, zs, rfl⟩
  generalize hitm : z :: zs = itm at hlen hob rv
  have hemp : itm.toArray.isEmpty = false := by subst hitm; rfl
  obtain ⟨m, rfl⟩ : ∃ m : Nat, k = (m : Int) := ⟨k.toNat, by omega⟩
  have htn : ((m : Nat) : Int).toNat = m := by omega
  rw [htn] at hz q2
  have hsz0 : itm.toArray.size = xs.length := by rw [List.size_toArray, hlen]
  have hprod : ((itm.toArray.size : Nat) : Int) * (m : Int) ≤ 1000000 := by
    rw [hsz0, ← Int.natCast_mul, Nat.mul_comm]
    omega
  have hm1 : m ≤ 1000000 := Nat.le_trans (Nat.le_mul_of_pos_right m hx0) hz
  have hfl : (List.replicate m itm).flatten.length ≤ sizeLine := by
    rw [PyProof.Rows.lm_len_rep_flat, hlen, sizeLine_eq]
    omega
  have b0 : (decide ((m : Int) < -(2 ^ 63)) || decide ((m : Int) ≥ 2 ^ 63)) = false := by
    rw [Bool.or_eq_false_iff]
    exact ⟨decide_eq_false (by omega), decide_eq_false (by omega)⟩
  have b1 : (itm.toArray.isEmpty || (m : Int) == 1) = false := by
    rw [hemp, Bool.false_or]
    exact beq_eq_false_iff_ne.mpr (by omega)
  have b2 : (decide ((m : Int) ≤ 0) || itm.toArray.isEmpty) = false := by
    rw [hemp, Bool.or_false]
    exact decide_eq_false (by omega)
  have b3 : ¬ ((itm.toArray.size : Nat) : Int) * (m : Int) > (2 ^ 63 - 1) / 8 := by omega
  have b4 : Builtin.Tuple.tupleTooMany (((itm.toArray.size : Nat) : Int) * (m : Int)) = false := by
    unfold Builtin.Tuple.tupleTooMany
    exact decide_eq_false (by rw [sizeLine_eq]; omega)
  have fin : EP X pins σ Q (.ref s.heap.objs.size) { s with heap := s.heap.push { cls := .type "tuple", data := .seq (List.replicate m itm).flatten.toArray } } := by
    refine ⟨.ref s.heap.objs.size, _, I.laid (t' := s.toks) (o := .tup (List.replicate m xs).flatten) (fun b ob q => Heap.get?_push_of_some _ q) (Nat.le_refl _) ?_, rfl, q2 hk2 _ (I.hok.fresh (Nat.le_refl _))⟩
    refine ⟨?_, _, rv.rep m, IsTup.new _ _⟩
    rw [PyProof.Rows.lm_len_rep_flat, sizeLine_eq]
    omega
  have m1 := call_meets (prog := X.prog) (w := X.w) (A := X.A) (E := X.xe) (Q := EP X pins σ Q) (s := s) (self := .ref l) F.slot_tuple_mul ⟨_, hob, rfl⟩ F.entry_tuple_mul (F.args_tuple_mul_2 _ _) (tuple_mulW l itm.toArray no od sv (m : Int) t b0 b1 b2 b3 b4 (by rw [htn, size_rep, List.size_toArray]; exact hfl))
    ⟨hob, by rw [htn, size_rep]; exact fin⟩
  exact wpAny_binaryOp_repeat_ref (T := "tuple") (U := "int") (by decide) ⟨_, hob, rfl⟩ (fun s' => typeIs_int s' _ t) noFill_tuple_mul F.fills_int_mul F.slot_int_rmul repeat_tuple F.slot_int_index.lookup
    (call_meets F.slot_int_rmul (typeIs_int s _ t) F.entry_int_rmul (F.args_int_rmul_2 _ _) (int_rmul_tuple _ t l itm.toArray no od sv) ⟨hob, rfl, ⟨_, hob, rfl⟩, m1⟩)
theorem k_op_repB {X : Cx} {K : PySem.W.Frag} (e : X.K = K) : OpR X (binaryOp .Mult) (rRepB K) := by subst e; exact op_repB
section
variable {K : PySem.W.Frag} {G H : Hp} {Q : VK} {a : Addr} {xs : List V} {k : Int} {m : Nat}
theorem kn_repB (g : Same G H) (h : SqT K G a xs) (hne : xs ≠ []) (e : k = (m : Int)) (h1 : 1 ≤ m) (hz : m * xs.length ≤ 1000000) (q : ∀ r G' H', Stp M0 G H G' H' → SqT K G' r (List.replicate m xs).flatten → Q (.ref r) H') : rRepB K (.ref a) (.int k) H Q := by
  subst e
  refine ⟨a, _, xs, rfl, rfl, Same.sqt g h, hne, by omega, by rw [show ((m : Nat) : Int).toNat = m by omega]; exact hz, fun e => ?_, fun _ p np => q p (upd G p _) _ (Stp.new g np) (tof upd_same)⟩
  have em : m = 1 := by omega
  subst em
  refine q a G H (Stp.refl g) ?_
  have e2 : (List.replicate 1 xs).flatten = xs := by simp
  rw [e2]
  exact h
end
/-! repr of a number -/
def kReprI : List V → Hp → VK → Prop := fun xs H Q => ∃ i : Int, xs = [.int i] ∧ i.natAbs.log2 < 1920 ∧ Q (.str (toString i)) H
theorem call_reprI {X : Cx} : CallR X (.builtin "repr") kReprI := SkE.call_repr_int
theorem c_reprI {i : Int} {H : Hp} {Q : VK} (h : i.natAbs.log2 < 1920) (q : Q (.str (toString i)) H) : kReprI [.int i] H Q := ⟨i, rfl, h, q⟩
/-! l.index(x) of data -/
theorem k_indexD {X : Cx} {K : PySem.W.Frag} (e : X.K = K) (hu : X.A.units + 65 < cLine) : MtR X "list.index" (rIndexD K) := by subst e; exact mt_indexD hu
theorem hu65_of {k : Nat} {A : Around} (hr : Room k A) : A.units + 65 < cLine := by have := hr.un; omega
/-! ### powers and roots: roots of powers, turned about, led elsewhere -/
/-- where the ring begins, its steps, the steps of its root -/
structure RD (W : List Str) (t n d : Nat) : Prop where
  co : CoreAt W t
  len : W.length = 2 * t + n + 1
  pos : 1 ≤ n
  few : Few (fun i => (rg W t)[i]?) n d
section
variable {W V : List Str} {t n d t' n' d' m : Nat}
theorem RD.uniq (h : RD W t n d) (h' : RD W t' n' d') : t' = t ∧ n' = n ∧ d' = d := by
  obtain rfl := core_uniq h'.co h.co
  obtain rfl : n' = n := by have := h.len; have := h'.len; omega
  exact ⟨rfl, rfl, few_uniq h'.few h.few⟩
theorem RD.three (h : RD W t n d) : 3 ≤ d ∧ 3 ≤ n ∧ W[t + 1]? ≠ W[t + n - 1]? := few_three h.co h.len h.pos h.few
theorem RD.root (g : Gd W) (h : RD W t n d) : Gd (rtW W t d) ∧ RD (rtW W t d) t d d ∧ rtW (rtW W t d) t d = rtW W t d := by
  have r := root_ok g h.co h.len h.pos h.few
  exact ⟨r.gd, ⟨r.co, rt_len h.co h.len h.few.le, h.few.one, r.few⟩, r.same⟩
/-- the word of so many times round -/
def zW (W : List Str) (t m : Nat) : List Str := sm W t ++ (List.replicate m (rg W t).tail).flatten ++ (sm W t).reverse.tail
theorem z_len (h : RD W t n d) (m : Nat) : (zW W t m).length = 2 * t + m * n + 1 := by
  have := h.len
  unfold zW
  rw [List.length_append, List.length_append, repF_len, List.length_tail, rg_len, List.length_tail, List.length_reverse, sm_len (by omega), show W.length - 2 * t - 1 = n by omega]
  omega
theorem z_low (h : RD W t n d) (m : Nat) {i : Nat} (hi : i ≤ t) : (zW W t m)[i]? = W[i]? := by
  have hl := h.len
  have e1 : (sm W t).length = t + 1 := sm_len (by omega)
  unfold zW
  rw [List.append_assoc, List.getElem?_append_left (by omega)]
  unfold sm
  rw [List.getElem?_take, if_pos (by omega)]
theorem rg_at (h : RD W t n d) {j : Nat} (hj : j ≤ n) : (rg W t)[j]? = W[t + j]? := rg_get (by have := h.len; omega)
theorem rg_mod (h : RD W t n d) {j : Nat} (hj : j ≤ n) : (rg W t)[j % n]? = (rg W t)[j]? := by
  rcases Nat.lt_or_ge j n with c | c
  · rw [Nat.mod_eq_of_lt c]
  · have e : j = n := by omega
    rw [e, Nat.mod_self]
    exact rg_closed h.co h.len
theorem z_mid (h : RD W t n d) (m : Nat) {i : Nat} (h1 : t ≤ i) (h2 : i ≤ t + m * n) : (zW W t m)[i]? = (rg W t)[(i - t) % n]? := by
  have hl := h.len
  have hp := h.pos
  by_cases c : i = t
  · subst c
    rw [z_low h m (Nat.le_refl _), Nat.sub_self, Nat.zero_mod, rg_at h (Nat.zero_le _), Nat.add_zero]
  · have e1 : (sm W t).length = t + 1 := sm_len (by omega)
    have e2 : (rg W t).tail.length = n := by rw [List.length_tail, rg_len]; omega
    unfold zW
    rw [List.getElem?_append_left (by rw [List.length_append, repF_len, e1, e2]; omega), List.getElem?_append_right (by omega), e1, repF_get (by omega) _ _ (by rw [e2]; omega), e2, List.getElem?_tail]
    have hm := Nat.mod_lt (i - (t + 1)) hp
    rw [← rg_mod h (show (i - (t + 1)) % n + 1 ≤ n by omega), Nat.mod_add_mod, show i - (t + 1) + 1 = i - t by omega]
theorem z_high (h : RD W t n d) (hm : 1 ≤ m) {i : Nat} (h1 : t + m * n ≤ i) (h2 : i ≤ 2 * t + m * n) : (zW W t m)[i]? = W[i - m * n + n]? := by
  have hl := h.len
  have hp := h.pos
  by_cases c : i = t + m * n
  · subst c
    rw [z_mid h m (by omega) (Nat.le_refl _), show t + m * n - t = m * n by omega, Nat.mul_mod_left, ← Nat.mod_self n, rg_mod h (Nat.le_refl _), rg_at h (Nat.le_refl _)]
    congr 1
    omega
  · have e1 : (sm W t).length = t + 1 := sm_len (by omega)
    have e2 : (rg W t).tail.length = n := by rw [List.length_tail, rg_len]; omega
    unfold zW
    rw [List.getElem?_append_right (by rw [List.length_append, repF_len, e1, e2]; omega), List.length_append, repF_len, e1, e2, List.getElem?_tail, List.getElem?_reverse (by omega), e1]
    unfold sm
    rw [List.getElem?_take, if_pos (by omega), h.co.pal _ (by omega)]
    congr 1
    omega
theorem mn_ge (h : RD W t n d) (hm : 1 ≤ m) : n ≤ m * n := Nat.le_mul_of_pos_left n hm
theorem mn_last (hn : 1 ≤ n) (hm : 1 ≤ m) : (m * n - 1) % n = n - 1 := by
  obtain ⟨k, rfl⟩ : ∃ k, m = k + 1 := ⟨m - 1, by omega⟩
  rw [Nat.succ_mul, show k * n + n - 1 = n - 1 + k * n by omega, Nat.add_mul_mod_self_right, Nat.mod_eq_of_lt (by omega)]
theorem z_gd (g : Gd W) (h : RD W t n d) (hm : 1 ≤ m) : Gd (zW W t m) := by
  have hl := h.len
  obtain ⟨_, hn3, hne⟩ := h.three
  have hmn := mn_ge h hm
  have hz := z_len h m
  have some_lt : ∀ {i : Nat} {a : Str}, (zW W t m)[i]? = some a → i < 2 * t + m * n + 1 := by
    intro i a e
    rcases Nat.lt_or_ge i (zW W t m).length with c | c
    · omega
    · rw [List.getElem?_eq_none c] at e; cases e
  have nxt : ∀ j, j % n + 1 < n → (j + 1) % n = j % n + 1 := fun j hj => by
    rw [← Nat.mod_add_mod, Nat.mod_eq_of_lt hj]
  have nx0 : ∀ j, j % n + 1 = n → (j + 1) % n = 0 := fun j hj => by
    rw [← Nat.mod_add_mod, hj, Nat.mod_self]
  refine ⟨fun i a b ha hb => ?_, fun i a b ha hb => ?_⟩
  · have hi := some_lt hb
    by_cases c1 : i + 1 ≤ t
    · rw [z_low h m (by omega)] at ha hb
      exact g.one i a b ha hb
    by_cases c2 : t + m * n ≤ i
    · rw [z_high h hm (by omega) (by omega)] at ha hb
      exact g.one (i - m * n + n) a b ha (by rw [show i - m * n + n + 1 = i + 1 - m * n + n by omega]; exact hb)
    rw [z_mid h m (by omega) (by omega)] at ha hb
    have hj := Nat.mod_lt (i - t) h.pos
    rw [show i + 1 - t = i - t + 1 by omega] at hb
    have hb2 : (rg W t)[(i - t) % n + 1]? = some b := by
      rw [← rg_mod h (by omega), Nat.mod_add_mod]
      exact hb
    rw [rg_at h (by omega)] at ha hb2
    exact g.one _ a b ha hb2
  · have hi := some_lt hb
    by_cases c1 : i + 2 ≤ t
    · rw [z_low h m (by omega)] at ha hb
      exact g.two i a b ha hb
    by_cases c2 : t + m * n ≤ i
    · rw [z_high h hm (by omega) (by omega)] at ha hb
      exact g.two (i - m * n + n) a b ha (by rw [show i - m * n + n + 2 = i + 2 - m * n + n by omega]; exact hb)
    by_cases c3 : i < t
    · have ei : i + 2 = t + 1 := by omega
      rw [z_low h m (by omega)] at ha
      rw [ei, z_mid h m (by omega) (by omega), show t + 1 - t = 1 by omega, rg_mod h (by omega), rg_at h (by omega)] at hb
      exact g.two i a b ha (by rw [ei]; exact hb)
    by_cases c4 : i + 2 ≤ t + m * n
    · rw [z_mid h m (by omega) (by omega)] at ha hb
      have hj := Nat.mod_lt (i - t) h.pos
      rw [show i + 2 - t = i - t + 2 by omega, ← Nat.mod_add_mod] at hb
      by_cases c5 : (i - t) % n + 2 ≤ n
      · rw [rg_mod h c5, rg_at h c5] at hb
        rw [rg_at h (by omega)] at ha
        exact g.two _ a b ha hb
      · have ej : (i - t) % n = n - 1 := by omega
        rw [ej] at ha hb
        rw [show n - 1 + 2 = 1 + n by omega, Nat.add_mod_right, rg_mod h (by omega), rg_at h (by omega)] at hb
        rw [rg_at h (by omega)] at ha
        intro e
        refine hne ?_
        rw [hb, show t + n - 1 = t + (n - 1) by omega, ha, e]
    · have ei : i = t + m * n - 1 := by omega
      rw [z_mid h m (by omega) (by omega), show i - t = m * n - 1 by omega, mn_last h.pos hm, rg_at h (by omega)] at ha
      rw [z_high h hm (by omega) (by omega)] at hb
      exact g.two _ a b ha (by rw [show t + (n - 1) + 2 = i + 2 - m * n + n by omega]; exact hb)
theorem z_rd (g : Gd W) (h : RD W t n d) (hm : 1 ≤ m) : RD (zW W t m) t (m * n) d ∧ rtW (zW W t m) t d = rtW W t d := by
  have hl := h.len
  obtain ⟨hd3, hn3, hne⟩ := h.three
  have hmn := mn_ge h hm
  have hz := z_len h m
  have hd := h.few.le
  have rgz : ∀ j, j ≤ m * n → (rg (zW W t m) t)[j]? = (rg W t)[j % n]? := fun j hj => by
    rw [rg_get (by omega), z_mid h m (by omega) (by omega), show t + j - t = j by omega]
  have dv : n ∣ m * n := Nat.dvd_mul_left n m
  have esm : sm (zW W t m) t = sm W t := by
    refine List.ext_getElem? fun i => ?_
    unfold sm
    rw [List.getElem?_take, List.getElem?_take]
    by_cases c : i < t + 1
    · rw [if_pos c, if_pos c, z_low h m (by omega)]
    · rw [if_neg c, if_neg c]
  refine ⟨⟨⟨by omega, fun i hi => ?_, .inr ⟨by omega, ?_⟩⟩, hz, by omega, ⟨h.few.one, by omega, fun i hi => ?_, fun k k1 k2 hp => h.few.least k k1 k2 (fun i hi => ?_)⟩⟩, ?_⟩
  · rw [hz, z_low h m hi, z_high h hm (by omega) (by omega), h.co.pal i hi]
    congr 1
    omega
  · rw [hz, z_mid h m (by omega) (by omega), z_mid h m (by omega) (by omega), show t + 1 - t = 1 by omega, show 2 * t + m * n + 1 - 2 - t - t = m * n - 1 by omega, mn_last h.pos hm, rg_mod h (by omega), rg_at h (by omega), rg_at h (by omega), show t + (n - 1) = t + n - 1 by omega]
    exact hne
  · show (rg (zW W t m) t)[(i + d) % (m * n)]? = (rg (zW W t m) t)[i]?
    rw [rgz _ (Nat.le_of_lt (Nat.mod_lt _ (by omega))), rgz _ (by omega), Nat.mod_mod_of_dvd _ dv]
    have e := h.few.per (i % n) (Nat.mod_lt _ h.pos)
    rw [Nat.mod_add_mod] at e
    exact e
  · show (rg W t)[(i + k) % n]? = (rg W t)[i]?
    have e : (rg (zW W t m) t)[(i + k) % (m * n)]? = (rg (zW W t m) t)[i]? := hp i (by omega)
    rw [rgz _ (Nat.le_of_lt (Nat.mod_lt _ (by omega))), rgz _ (by omega), Nat.mod_mod_of_dvd _ dv, Nat.mod_eq_of_lt hi] at e
    exact e
  · unfold rtW
    rw [esm]
    congr 2
    refine List.ext_getElem? fun i => ?_
    rw [List.getElem?_take, List.getElem?_take]
    by_cases c : i < d
    · rw [if_pos c, if_pos c, List.getElem?_drop, List.getElem?_drop, rgz _ (by omega), rg_mod h (by omega)]
    · rw [if_neg c, if_neg c]
theorem pow_zW (g : Gd W) (h : RD W t n d) (hm : 1 ≤ m) : powW W m = zW W t m := by
  have hl := h.len
  have hc1 : lst (sm W t) = some (W[t]'(by omega)) := by
    unfold lst
    rw [sm_len (by omega)]
    unfold sm
    rw [List.getElem?_take, if_pos (by omega)]
    exact List.getElem?_eq_getElem (by omega)
  have hc2 : lst (rg W t).tail = some (W[t]'(by omega)) := by
    have hp := h.pos
    unfold lst
    rw [List.length_tail, rg_len, List.getElem?_tail, show W.length - 2 * t - 1 - 1 + 1 = n by omega, ← rg_closed h.co h.len, rg_at h (Nat.zero_le _)]
    exact List.getElem?_eq_getElem (by omega)
  have e := pow_stem hc1 hc2 m
  rw [core_whole h.co] at e
  rw [e]
  exact shr_of_gd (z_gd g h hm)
/-- the root of a walk so many times is its own -/
theorem pow_rd (g : Gd W) (h : RD W t n d) (hm : 1 ≤ m) : Gd (powW W m) ∧ RD (powW W m) t (m * n) d ∧ rtW (powW W m) t d = rtW W t d := by
  rw [pow_zW g h hm]
  exact ⟨z_gd g h hm, z_rd g h hm⟩
/-! turned about -/
theorem per_congr {f g : Nat → Option Str} {k : Nat} (e : ∀ j, j < n → f j = g j) (h : Per f n k) : Per g n k := fun i hi => by
  rw [← e i hi, ← e _ (Nat.mod_lt _ (by omega))]
  exact h i hi
theorem per_rev {f : Nat → Option Str} {k : Nat} (hc : f 0 = f n) (h : Per f n k) : Per (fun j => f (n - j)) n k := by
  intro i hi
  have hn : 0 < n := by omega
  have fm : ∀ j, j ≤ n → f (j % n) = f j := fun j hj => by
    rcases Nat.lt_or_ge j n with c | c
    · rw [Nat.mod_eq_of_lt c]
    · have e : j = n := by omega
      rw [e, Nat.mod_self, hc]
  show f (n - (i + k) % n) = f (n - i)
  have ha := Nat.mod_lt (i + k) hn
  have e := h ((n - (i + k) % n) % n) (Nat.mod_lt _ hn)
  rw [Nat.mod_add_mod] at e
  have hq := Nat.mod_add_div (i + k) n
  have e2 : (n - (i + k) % n + k) % n = (n - i) % n := by rw [show n - (i + k) % n + k = n - i + n * ((i + k) / n) by omega, Nat.add_mul_mod_self_left]
  rw [e2, fm (n - i) (by omega), fm (n - (i + k) % n) (by omega)] at e
  exact e.symm
theorem rev_rd (h : RD W t n d) : RD W.reverse t n d ∧ rtW W.reverse t d = (rtW W t d).reverse := by
  have hl := h.len
  obtain ⟨hd3, hn3, hne⟩ := h.three
  have hd := h.few.le
  have get : ∀ i, i < W.length → W.reverse[i]? = W[2 * t + n - i]? := fun i hi => by
    rw [List.getElem?_reverse hi]
    congr 1
    omega
  have hco : CoreAt W.reverse t := by
    refine ⟨by rw [List.length_reverse]; omega, fun i hi => ?_, .inr ⟨by rw [List.length_reverse]; omega, ?_⟩⟩
    · rw [List.length_reverse, get _ (by omega), get _ (by omega), show 2 * t + n - (W.length - 1 - i) = i by omega, h.co.pal i hi]
      congr 1
      omega
    · rw [List.length_reverse, get _ (by omega), get _ (by omega), show 2 * t + n - (W.length - 2 - t) = t + 1 by omega, show 2 * t + n - (t + 1) = t + n - 1 by omega]
      exact fun e => hne e.symm
  have rgr : ∀ j, j ≤ n → (rg W.reverse t)[j]? = (rg W t)[n - j]? := fun j hj => by
    rw [rg_get (by rw [List.length_reverse]; omega), get _ (by omega), rg_at h (by omega)]
    congr 1
    omega
  have hc : (rg W t)[0]? = (rg W t)[n]? := rg_closed h.co h.len
  have hR : RD W.reverse t n d := by
    refine ⟨hco, by rw [List.length_reverse]; exact hl, h.pos, ⟨h.few.one, hd, ?_, fun k k1 k2 hp => h.few.least k k1 k2 ?_⟩⟩
    · exact per_congr (fun j hj => (rgr j (by omega)).symm) (per_rev (f := fun i => (rg W t)[i]?) hc h.few.per)
    · have h1 : Per (fun j => (rg W t)[n - j]?) n k := per_congr (fun j hj => rgr j (by omega)) hp
      have h2 := per_rev (f := fun j => (rg W t)[n - j]?) (by show (rg W t)[n - 0]? = (rg W t)[n - n]?; rw [Nat.sub_zero, Nat.sub_self, hc]) h1
      refine per_congr (fun j hj => ?_) h2
      show (rg W t)[n - (n - j)]? = _
      rw [show n - (n - j) = j by omega]
  refine ⟨hR, ?_⟩
  have l1 := rt_len hco hR.len hd
  have l2 := rt_len h.co hl hd
  refine List.ext_getElem? fun i => ?_
  by_cases c : i < 2 * t + d + 1
  · rw [List.getElem?_reverse (by omega), l2]
    by_cases c2 : i ≤ t + d
    · rw [rt_low hR.len hd c2, get _ (by omega), rt_high h.co hl h.few (by omega) (by omega)]
      congr 1
      omega
    · rw [rt_high hco hR.len hR.few (by omega) (by omega), get _ (by omega), rt_low hl hd (by omega)]
      congr 1
      omega
  · rw [List.getElem?_eq_none (by omega), List.getElem?_eq_none (by rw [List.length_reverse]; omega)]
/-- a closed walk, shrunk, has a ring or is one room -/
theorem core_ex {x : Str} (g : Gd W) (hf : fst0 W = some x) (hl : lst W = some x) : ∃ t, CoreAt W t := by
  have hW0 : 0 < W.length := by
    cases W with
    | nil => cases hf
    | cons z r => simp
  have key : ∀ k t, W.length ≤ 2 * t + k → 2 * t < W.length → Pal W t → ∃ t, CoreAt W t := by
    intro k
    induction k with
    | zero => intro t h1 h2 _; omega
    | succ k ih =>
      intro t h1 h2 hp
      by_cases fin : W.length = 1 ∨ (2 * t + 4 ≤ W.length ∧ W[t + 1]? ≠ W[W.length - 2 - t]?)
      · exact ⟨t, h2, hp, fin⟩
      · have c' : 2 * t + 1 < W.length := by
          rcases Nat.lt_or_ge (2 * t + 1) W.length with h | h
          · exact h
          · exact absurd (.inl (pal_end g hp h2 h).1) fin
        have h4 := pal_room g hp c'
        refine ih (t + 1) (by omega) (by omega) (fun i hi => ?_)
        by_cases hi2 : i ≤ t
        · exact hp i hi2
        · have e6 : i = t + 1 := by omega
          subst e6
          rw [show W.length - 1 - (t + 1) = W.length - 2 - t by omega]
          apply Classical.byContradiction
          intro q
          exact fin (.inr ⟨h4, q⟩)
  refine key W.length 0 (by omega) (by omega) (fun i hi => ?_)
  have e : i = 0 := by omega
  subst e
  rw [Nat.sub_zero]
  exact (show W[0]? = some x from hf).trans (show W[W.length - 1]? = some x from hl).symm
theorem rd_ex {x : Str} (g : Gd W) (hf : fst0 W = some x) (hl : lst W = some x) : W = [x] ∨ ∃ t n d, RD W t n d := by
  obtain ⟨t, hC⟩ := core_ex g hf hl
  have hlt := hC.lt
  by_cases c : W.length = 1
  · left
    match W, c, hf with
    | [z], _, hf => rw [Option.some.inj (show some z = some x from hf)]
  · right
    have hfin := hC.fin.resolve_left c
    obtain ⟨d, hF⟩ := few_ex (f := fun i => (rg W t)[i]?) (n := W.length - 2 * t - 1) (by omega)
    exact ⟨t, _, d, hC, by omega, by omega, hF⟩
end
/-! one behind another, so many times -/
section
variable {A B o u v : List Str} {x z : Str}
theorem beh_one (h : fst0 v = some x) : beh [x] v = shr v := by
  unfold beh
  rw [List.singleton_append, fst_tl h]
theorem beh_end (v : List Str) (x : Str) : beh v [x] = shr v := by
  unfold beh
  rw [List.tail_cons, List.append_nil]
theorem beh_shrL (h : lst u = some x) (h' : fst0 v = some x) : beh (shr u) v = beh u v := by
  rw [← beh_shr (lst_shr h) h', shr_shr, beh_shr h h']
theorem beh_shrR (h : lst u = some x) (h' : fst0 v = some x) : beh u (shr v) = beh u v := by
  rw [← beh_shr h (fst_shr h'), shr_shr, beh_shr h h']
theorem pow_shrunk (hf : fst0 A = some x) : ∀ m, shr (powW A m) = powW A m
  | 0 => by
    show shr (A.take 1) = A.take 1
    rw [pow_one hf]
    rfl
  | m + 1 => shr_shr _
theorem pow_of_shr (hf : fst0 A = some x) (hl : lst A = some x) : ∀ m, powW (shr A) m = powW A m
  | 0 => by
    show (shr A).take 1 = A.take 1
    rw [pow_one hf, pow_one (fst_shr hf)]
  | m + 1 => by
    show beh (powW (shr A) m) (shr A) = beh (powW A m) A
    rw [pow_of_shr hf hl m, beh_shrR (pow_lst hf hl m) hf]
theorem pow_add (hf : fst0 A = some x) (hl : lst A = some x) (m : Nat) : ∀ l, powW A (m + l) = beh (powW A m) (powW A l)
  | 0 => by
    show powW A m = beh (powW A m) (A.take 1)
    rw [pow_one hf, beh_end, pow_shrunk hf]
  | l + 1 => by
    show beh (powW A (m + l)) A = beh (powW A m) (beh (powW A l) A)
    rw [pow_add hf hl m l, beh_assoc (pow_lst hf hl m) (pow_fst hf l) (pow_lst hf hl l) hf]
theorem pow_mul (hf : fst0 A = some x) (hl : lst A = some x) (m : Nat) : ∀ l, powW (powW A m) l = powW A (l * m)
  | 0 => by
    show (powW A m).take 1 = _
    rw [pow_one (pow_fst hf m), Nat.zero_mul]
    show [x] = A.take 1
    rw [pow_one hf]
  | l + 1 => by
    show beh (powW (powW A m) l) (powW A m) = _
    rw [pow_mul hf hl m l, ← pow_add hf hl, Nat.succ_mul]
theorem pow_1 (hf : fst0 A = some x) : powW A 1 = shr A := by
  show beh (A.take 1) A = _
  rw [pow_one hf, beh_one hf]
/-- led along o -/
def cj (o w : List Str) : List Str := beh (beh o.reverse w) o
theorem cj_fst (ho : fst0 o = some x) (hz : lst o = some z) : fst0 (cj o u) = some z := fst_beh (fst_beh (fst_rev hz))
theorem cj_lst (ho : fst0 o = some x) (hz : lst o = some z) (hf : fst0 u = some x) (hl : lst u = some x) : lst (cj o u) = some z := lst_beh (lst_beh (lst_rev ho) hf hl) ho hz
theorem cj_in (ho : fst0 o = some x) (hz : lst o = some z) (hf : fst0 u = some x) (hl : lst u = some x) : beh o (cj o u) = beh u o := by
  have h1 := lst_rev ho
  have h2 := fst_rev hz
  unfold cj
  rw [← beh_assoc hz (fst_beh h2) (lst_beh h1 hf hl) ho, ← beh_assoc hz h2 h1 hf, beh_back ho, beh_one hf, beh_shrL hl ho]
theorem cj_beh (ho : fst0 o = some x) (hz : lst o = some z) (hf : fst0 u = some x) (hl : lst u = some x) (hf' : fst0 v = some x) (hl' : lst v = some x) : beh (cj o u) (cj o v) = cj o (beh u v) := by
  have h1 := lst_rev ho
  conv => lhs; arg 1; unfold cj
  rw [beh_assoc (lst_beh h1 hf hl) ho hz (cj_fst ho hz), cj_in ho hz hf' hl', ← beh_assoc (lst_beh h1 hf hl) hf' hl' ho, beh_assoc h1 hf hl hf']
  rfl
theorem cj_pow (ho : fst0 o = some x) (hz : lst o = some z) (hf : fst0 u = some x) (hl : lst u = some x) : ∀ m, powW (cj o u) m = cj o (powW u m)
  | 0 => by
    show (cj o u).take 1 = cj o (u.take 1)
    rw [pow_one (cj_fst ho hz), pow_one hf]
    unfold cj
    rw [beh_end, beh_shrL (lst_rev ho) ho, beh_back' hz]
  | m + 1 => by
    show beh (powW (cj o u) m) (cj o u) = cj o (beh (powW u m) u)
    rw [cj_pow ho hz hf hl m, cj_beh ho hz (pow_fst hf m) (pow_lst hf hl m) hf hl]
theorem cj_back (ho : fst0 o = some x) (hz : lst o = some z) (hf : fst0 u = some x) (hl : lst u = some x) : cj o.reverse (cj o u) = shr u := by
  conv => lhs; unfold cj
  rw [List.reverse_reverse]
  show beh (beh o (cj o u)) o.reverse = _
  rw [cj_in ho hz hf hl, beh_assoc hl ho hz (fst_rev hz), beh_back ho, beh_end]
theorem unl_rev (h : Unl o) : Unl o.reverse := by
  intro i a b ha hb
  have hl : i + 1 < o.length := by
    rcases Nat.lt_or_ge (i + 1) o.reverse.length with c | c
    · rwa [List.length_reverse] at c
    · rw [List.getElem?_eq_none c] at hb; cases hb
  rw [List.getElem?_reverse (by omega)] at ha hb
  intro e
  exact h (o.length - 1 - (i + 1)) b a hb (by rw [show o.length - 1 - (i + 1) + 1 = o.length - 1 - i by omega]; exact ha) e.symm
theorem cj_gd (ho : fst0 o = some x) (hz : lst o = some z) (hf : fst0 u = some x) (hl : lst u = some x) (uo : Unl o) (uu : Unl u) : Gd (cj o u) := by
  have h1 := lst_rev ho
  have g1 : Gd (beh o.reverse u) := shr_gd (unl_glue h1 hf (unl_rev uo) uu)
  exact shr_gd (unl_glue (lst_beh h1 hf hl) ho g1.one uo)
theorem cj_shr (ho : fst0 o = some x) (hz : lst o = some z) (hf : fst0 u = some x) : cj o (shr u) = cj o u := by
  unfold cj
  rw [beh_shrR (lst_rev ho) hf]
end
section
variable {W o : List Str} {t n d : Nat} {x z : Str}
theorem fst_of_rd (h : RD W t n d) (hf : fst0 W = some x) : lst W = some x := by
  have := h.co.pal 0 (Nat.zero_le _)
  rw [Nat.sub_zero] at this
  exact this.symm.trans hf
theorem rt_fst (h : RD W t n d) (hf : fst0 W = some x) : fst0 (rtW W t d) = some x := by
  unfold fst0
  rw [rt_low h.len h.few.le (Nat.zero_le _)]
  exact hf
/-- the root of what is led along is the root led along -/
theorem cj_rd (g : Gd W) (h : RD W t n d) (hf : fst0 W = some x) (ho : fst0 o = some x) (hz : lst o = some z) (uo : Unl o) :
    ∃ t1 n1 d1, RD (cj o W) t1 n1 d1 ∧ rtW (cj o W) t1 d1 = cj o (rtW W t d) ∧ n1 / d1 = n / d ∧ Gd (cj o W) := by
  have hl := fst_of_rd h hf
  obtain ⟨gT, hT, sT⟩ := h.root g
  have hTf := rt_fst h hf
  have hTl := fst_of_rd hT hTf
  have hW := pow_root g h.co h.len h.pos h.few
  have hk : 1 ≤ n / d := Nat.div_pos h.few.le h.few.one
  generalize hTT : rtW W t d = T at gT hT sT hTf hTl hW
  have gV : Gd (cj o T) := cj_gd ho hz hTf hTl uo gT.one
  have fV := cj_fst (u := T) ho hz
  have lV := cj_lst ho hz hTf hTl
  have bV := cj_back ho hz hTf hTl
  rw [shr_of_gd gT] at bV
  have T1 : T ≠ [x] := fun e => by
    have h1 := hT.len
    have h2 := hT.pos
    rw [e] at h1
    simp at h1
    omega
  have ho' := fst_rev hz
  have hz' := lst_rev ho
  have uo' := unl_rev uo
  have bk1 : cj o.reverse [z] = [x] := by
    unfold cj
    rw [beh_end, List.reverse_reverse, beh_shrL hz ho', beh_back ho]
  rcases rd_ex gV fV lV with e | ⟨t1, n1, d1, hV⟩
  · rw [e, bk1] at bV
    exact absurd bV.symm T1
  obtain ⟨gU, hU, sU⟩ := hV.root gV
  have hUf := rt_fst hV fV
  have hUl := fst_of_rd hU hUf
  have hVU := pow_root gV hV.co hV.len hV.pos hV.few
  have hj : 1 ≤ n1 / d1 := Nat.div_pos hV.few.le hV.few.one
  have hj1 : n1 / d1 = 1 := by
    generalize rtW (cj o T) t1 d1 = U at gU hU sU hUf hUl hVU
    rw [← hVU, ← cj_pow ho' hz' hUf hUl] at bV
    have gY : Gd (cj o.reverse U) := cj_gd ho' hz' hUf hUl uo' gU.one
    have fY := cj_fst (u := U) ho' hz'
    have lY := cj_lst ho' hz' hUf hUl
    generalize cj o.reverse U = Y at bV gY fY lY
    rcases rd_ex gY fY lY with e | ⟨t2, n2, d2, hY⟩
    · subst e
      have : ∀ m, powW [x] m = [x] := by
        intro m
        induction m with
        | zero => rfl
        | succ m ih => show beh (powW [x] m) [x] = [x]; rw [ih]; rfl
      rw [this] at bV
      exact absurd bV.symm T1
    · obtain ⟨_, hP, _⟩ := pow_rd gY hY hj
      rw [bV] at hP
      obtain ⟨_, e2, e3⟩ := RD.uniq hT hP
      have hle := hY.few.le
      have h2 := hY.pos
      have h3 : n1 / d1 * n2 ≤ 1 * n2 := by rw [e2, Nat.one_mul, ← e3]; exact hle
      have := Nat.le_of_mul_le_mul_right h3 h2
      omega
  have eV : rtW (cj o T) t1 d1 = cj o T := by
    rw [hj1, pow_1 hUf, shr_of_gd gU] at hVU
    exact hVU
  have en : n1 = d1 := by
    have := few_dvd hV.few
    have h2 := Nat.div_add_mod n1 d1
    rw [hj1, this, Nat.mul_one] at h2
    omega
  obtain ⟨g3, h3, e3⟩ := pow_rd gV hV hk
  have eW : cj o W = powW (cj o T) (n / d) := by
    rw [cj_pow ho hz hTf hTl, hW]
  rw [eW]
  refine ⟨t1, _, d1, h3, by rw [e3, eV], ?_, g3⟩
  rw [en, Nat.mul_div_cancel _ hV.few.one]
end
/-! ### sets of tuples whose items are plain (ints, texts): the search -/
/-- items that ask nothing of a class -/
def PlainK {P : Program} {w : World} {K : Type} [DecidableEq K] (knd : KeyKind P w K) : Prop := ∀ (k : K) (v : Value), knd.is k v = true → ∀ n, ofAClassStatement n v = pure false ∧ ∃ b, hashByValue n v = pure b
theorem plain_mix (P : Program) (w : World) : PlainK (mixKind P w) := by
  intro k v h n
  cases k with
  | inl i =>
    obtain ⟨t, rfl⟩ := Value.isInt_shape (show v.isInt i = true from h)
    exact ⟨by cases n <;> rfl, true, by cases n <;> rfl⟩
  | inr x =>
    obtain ⟨t, rfl⟩ : ∃ t, v = .str x t := by
      cases v <;> first | exact absurd (show false = true from h) (by decide) | (rename_i y t; exact ⟨t, by rw [show y = x from beq_iff_eq.mp h]⟩)
    exact ⟨by cases n <;> rfl, false, by cases n <;> rfl⟩
section
variable {P : Program} {w : World} {K : Type} [DecidableEq K] {knd : KeyKind P w K} {A : Around} {E : Value → Shared → Prop} {s : Shared}
theorem items_plain (hp : PlainK knd) : ∀ {ks : List K} {vs : List Value}, ItemsAre knd ks vs → ∀ v ∈ vs, ∀ n, ofAClassStatement n v = pure false ∧ ∃ b, hashByValue n v = pure b
  | _, _, .nil, v, hv => by cases hv
  | _, _, .cons h1 h2, v, hv => by
    rcases List.mem_cons.mp hv with rfl | hv
    · exact hp _ _ h1
    · exact items_plain hp h2 v hv
theorem cls_of_tup (hp : PlainK knd) {ks : List K} {b : Addr} {Q : Bool → Shared → Prop} (hk : IsTupleKey knd s.heap ks b) (q : Q false s) : wpAny (model P w) A (ofAClassStatement 8 (.ref b)) Q E s := by
  have ht := hk.typeIs
  obtain ⟨ob, itm, m, hob, _, hda, hit⟩ := hk
  have hall := items_plain hp hit
  unfold ofAClassStatement
  refine wpAny_bind (wpAny_typeOf ht ?_)
  dsimp only
  simp only [show (("tuple" : String) == "tuple") = true by decide, if_true, Bool.not_true, Bool.false_eq_true, if_false]
  try refine wpAny_bind (wpAny_pure ?_)
  try simp only [Bool.not_true, Bool.false_eq_true, if_false]
  show wpAny _ _ (seqItems? (.ref b) >>= _) _ _ s
  refine wpAny_bind (wpAny_seqItems hob hda ?_)
  dsimp only
  refine wpAny_bind ?_
  show wpAny _ _ (forIn itm _ _) _ _ s
  rw [← Array.forIn_toList]
  refine wpAny_forIn_list _ (fun left acc s' => acc.1 = none ∧ s' = s ∧ ∀ v ∈ left, v ∈ itm.toList) _ ?_ ?_ _ _ ⟨rfl, rfl, fun v hv => hv⟩
  · rintro v left acc s' ⟨h1, rfl, h3⟩
    rw [(hall v (h3 v List.mem_cons_self) _).1]
    refine wpAny_bind (wpAny_pure ?_)
    simp only [Bool.false_eq_true, if_false]
    exact wpAny_pure ⟨rfl, rfl, fun u hu => h3 u (List.mem_cons_of_mem _ hu)⟩
  · rintro ⟨r1, r2⟩ s' ⟨h1, rfl, _⟩
    cases (show r1 = none from h1)
    exact wpAny_pure q
theorem hash_of_tup (hp : PlainK knd) {ks : List K} {b : Addr} {Q : Bool → Shared → Prop} (hk : IsTupleKey knd s.heap ks b) (q : ∀ r, Q r s) : wpAny (model P w) A (hashByValue 8 (.ref b)) Q E s := by
  have ht := hk.typeIs
  obtain ⟨ob, itm, m, hob, _, hda, hit⟩ := hk
  have hall := items_plain hp hit
  unfold hashByValue
  refine wpAny_bind (wpAny_specialOf ht F.slot_tuple_hash.lookup ?_)
  show wpAny _ _ (seqItems? (.ref b) >>= _) _ _ s
  refine wpAny_bind (wpAny_seqItems hob hda ?_)
  refine wpAny_bind ?_
  show wpAny _ _ (forIn itm _ _) _ _ s
  rw [← Array.forIn_toList]
  refine wpAny_forIn_list _ (fun left acc s' => acc.1 = none ∧ s' = s ∧ ∀ v ∈ left, v ∈ itm.toList) _ ?_ ?_ _ _ ⟨rfl, rfl, fun v hv => hv⟩
  · rintro v left acc s' ⟨h1, rfl, h3⟩
    obtain ⟨bb, eb⟩ := (hall v (h3 v List.mem_cons_self) _).2
    rw [eb]
    refine wpAny_bind (wpAny_pure ?_)
    cases bb with
    | true =>
      simp only [Bool.not_true, Bool.false_eq_true, if_false]
      exact wpAny_pure ⟨rfl, rfl, fun u hu => h3 u (List.mem_cons_of_mem _ hu)⟩
    | false =>
      simp only [Bool.not_false, if_true]
      first
        | exact wpAny_pure (wpAny_pure (q _))
        | exact wpAny_pure (wpAny_bind (wpAny_pure (q _)))
        | exact wpAny_pure (q _)
  · rintro ⟨r1, r2⟩ s' ⟨h1, rfl, _⟩
    cases (show r1 = none from h1)
    exact wpAny_pure (q _)
/-- tuples alone stand there -/
def TupsAt (knd : KeyKind P w K) (h : Heap) (ys : List Value) : Prop := ∀ y ∈ ys, ∃ ks c, y = Value.ref c ∧ IsTupleKey knd h ks c
theorem unseen_tup (hp : PlainK knd) {ks : List K} {b : Addr} {Q : Bool → Shared → Prop} (hk : IsTupleKey knd s.heap ks b) {ys : List Value} (hy : TupsAt knd s.heap ys) (q : Q false s) :
    wpAny (model P w) A (searchCouldBeSeen (.ref b) ys) Q E s := by
  unfold searchCouldBeSeen
  refine wpAny_bind ?_
  refine wpAny_forIn_list _ (fun left acc s' => acc.1 = none ∧ s' = s ∧ TupsAt knd s.heap left) _ ?_ ?_ _ _ ⟨rfl, rfl, hy⟩
  · rintro v left acc s' ⟨h1, rfl, h3⟩
    obtain ⟨ks2, c, rfl, hc⟩ := h3 v List.mem_cons_self
    have h4 : TupsAt knd s'.heap left := fun u hu => h3 u (List.mem_cons_of_mem _ hu)
    dsimp only
    by_cases hv : (b == c || (carriedByValue (.ref b) && carriedByValue (.ref c))) = true
    · exact wp_if_pos hv (wpAny_pure ⟨rfl, rfl, h4⟩)
    refine wp_if_neg hv (wpAny_bind (wpAny_eqIsQuiet_tuple hk ?_))
    simp only [Bool.not_true, Bool.false_eq_true, if_false]
    refine wpAny_bind (wpAny_eqIsQuiet_tuple hc ?_)
    simp only [Bool.not_true, Bool.false_eq_true, if_false]
    refine wpAny_bind (cls_of_tup hp hk ?_)
    simp only [Bool.false_eq_true, if_false]
    refine wpAny_bind (cls_of_tup hp hc ?_)
    simp only [Bool.false_eq_true, if_false]
    exact wpAny_pure ⟨rfl, rfl, h4⟩
  · rintro ⟨r1, r2⟩ s' ⟨h1, rfl, _⟩
    cases (show r1 = none from h1)
    exact wpAny_pure q
/-- its rows: each with its hash -/
def rowsK (knd : KeyKind P w K) (L : List (Addr × List K)) : List (Int × Value) := L.map fun p => (tupleKeyHash knd p.2, Value.ref p.1)
/-- a set of tuples at a, its table -/
structure SetAt (knd : KeyKind P w K) (h : Heap) (a : Addr) (L : List (Addr × List K)) (es : Array (Int × Value)) (ep : Nat) (t : SetTable) : Prop where
  ob : ∃ o, h.get? a = some o ∧ o.ExactSet ∧ o.data = .set es ep t
  rows : es.toList = rowsK knd L
  tab : TabOk t (L.map fun p => tupleKeyHash knd p.2)
  nd : (L.map (·.2)).Nodup
  tup : ∀ p ∈ L, IsTupleKey knd h p.2 p.1
  led : w.params.followText "set-order" = true ∨ t.led = true
  room : L.length * 5 < t.mask * 3
  few : L.length < 64
variable {a : Addr} {L : List (Addr × List K)} {es : Array (Int × Value)} {ep : Nat} {t : SetTable}
theorem SetAt.len (R : SetAt knd s.heap a L es ep t) : es.size = L.length := by
  rw [← Array.length_toList, R.rows]
  unfold rowsK
  rw [List.length_map]
theorem SetAt.tl (R : SetAt knd s.heap a L es ep t) : t.place.toList.length = L.length := by
  rw [Array.length_toList, R.tab.sz, List.length_map]
theorem SetAt.fit (R : SetAt knd s.heap a L es ep t) : t.fits es.size = true := by
  have h1 := R.tl
  rw [Array.length_toList] at h1
  have h2 := R.len
  have h3 := R.room
  unfold SetTable.fits SetTable.fill
  rw [R.tab.dm, Bool.and_eq_true, beq_iff_eq, decide_eq_true_eq]
  exact ⟨by omega, by show t.place.size + 0 ≤ t.mask; omega⟩
theorem SetAt.row (R : SetAt knd s.heap a L es ep t) {i : Nat} {p : Addr × List K} (h : L[i]? = some p) : es[i]? = some (tupleKeyHash knd p.2, Value.ref p.1) := by
  rw [← Array.getElem?_toList, R.rows]
  unfold rowsK
  rw [List.getElem?_map, h]
  rfl
theorem SetAt.stays (R : SetAt knd s.heap a L es ep t) : ¬ t.gaveWay = true := by
  unfold SetTable.gaveWay
  rw [mask_odd R.tab.mok]
  decide
/-- the c-th step of the way of h -/
abbrev stepAt (t : SetTable) (h : Int) (c : Nat) : SetTable.Probe := nth t.mask (runAt t.mask (SetTable.bits h % (t.mask + 1)) (SetTable.bits h)) c
theorem step_dummy (t : SetTable) (h : Int) (c : Nat) : (stepAt t h c).dummy = none := by
  have key : ∀ (n : Nat) (p : SetTable.Probe), p.dummy = none → (nth t.mask p n).dummy = none := by
    intro n
    induction n with
    | zero => exact fun p hp => hp
    | succ n ih =>
      intro p hp
      refine ih (adv t.mask p) ?_
      unfold adv
      split <;> exact hp
  exact key c _ rfl
theorem step_add (t : SetTable) (h : Int) (c q : Nat) : nth t.mask (stepAt t h c) q = stepAt t h (c + q) := (nth_add t.mask c _ q).symm
theorem step_j (t : SetTable) (h : Int) (c : Nat) : (stepAt t h c).j = way t.mask h c := rfl
theorem find_from (hp : PlainK knd) (R : SetAt knd s.heap a L es ep t) {x : Addr} {k : List K} (hx : IsTupleKey knd s.heap k x) (hu : A.units < cLine) (ad : Bool) {Z : Nat} (hZf : Z < 10 * SetTable.turns t.mask)
    (hZ : way t.mask (tupleKeyHash knd k) Z ∉ t.place.toList) (hZb : ∀ c, c < Z → way t.mask (tupleKeyHash knd k) c ∈ t.place.toList) {Q : SetFound → Shared → Prop}
    (hin : k ∈ L.map (·.2) → ∀ r, (ad = false → r.isSome = true) → Q (.there r) s) (hout : k ∉ L.map (·.2) → Q (.free (way t.mask (tupleKeyHash knd k) Z) false) s) :
    ∀ (f c : Nat) (stand : Option SetTable.Probe), stand.getD (t.probeStart (tupleKeyHash knd k)) = stepAt t (tupleKeyHash knd k) c → c ≤ Z → Z - c < f →
      (∀ (i : Nat) p, L[i]? = some p → p.2 = k → ∃ c', c ≤ c' ∧ c' < Z ∧ t.place.toList[i]? = some (way t.mask (tupleKeyHash knd k) c')) →
      wpAny (model P w) A (setSearchFrom a (.ref x) (tupleKeyHash knd k) ad f stand) Q E s := by
  obtain ⟨ob, hob, hex, hda⟩ := R.ob
  generalize hH : tupleKeyHash knd k = hh at hZ hZb hout
  have hOf : ∀ (i : Nat) p, L[i]? = some p → (es[i]?.map (·.1)).getD 0 = tupleKeyHash knd p.2 := fun i p e => by
    rw [R.row e]
    rfl
  intro f
  induction f with
  | zero => exact fun c stand _ _ hf _ => absurd hf (Nat.not_lt_zero _)
  | succ f ih =>
    intro c stand hst hc hf hre
    have hopen : setSearchFrom a (.ref x) hh ad (f + 1) stand = (do
        let (es, _, t) ← setState a
        if t.gaveWay then unsupported "set:on-a-table-that-gave-way"
        let some met := t.probe (fun i => (es[i]?.map (·.1)).getD 0) hh (stand.getD (t.probeStart hh)) | unsupported "internal:set-table-without-an-empty-slot"
        match met with
        | .empty j dummy =>
          match dummy with
          | none => return .free j false
          | some d =>
            if ad && t.slot d != .dummy then rule "set.search.the-dummy-was-taken"; return ← setSearchFrom a (.ref x) hh ad f none
            return .free d true
        | .candidate j i next =>
          if !t.led then
            if ← searchCouldBeSeen (.ref x) ((es.filter (·.1 == hh)).toList.map (·.2)) then unsupported "set:the-search-would-show-the-table"
          searchRest a (.ref x) hh ad f es t j i next) := setSearchFrom_succ a (.ref x) hh ad f stand
    rw [hopen]
    refine wpAny_bind (wpAny_setState_of hob hda R.fit ?_)
    dsimp only
    refine wp_if_neg R.stays ?_
    try refine wpAny_bind (wpAny_pure ?_)
    have spec := go_spec t R.tab.ris R.tab.dm (fun i => (es[i]?.map (·.1)).getD 0) hh (10 * SetTable.turns t.mask) (Z - c) _ (step_dummy t hh c) (by omega)
      (fun q hq => by rw [step_add]; exact hZb (c + q) (by omega)) (by rw [step_add, show c + (Z - c) = Z by omega]; exact hZ)
    rw [hst]
    rcases spec with ⟨q, i, hq, hi, hh1, hno, hpr⟩ | ⟨hno, hpr⟩
    · rw [step_add, step_j] at hi
      rw [step_add, step_add] at hpr
      have hil : i < L.length := by
        have := (List.getElem?_eq_some_iff.mp hi).1
        rw [R.tl] at this
        exact this
      obtain ⟨p, hLp⟩ : ∃ p, L[i]? = some p := ⟨_, List.getElem?_eq_getElem hil⟩
      have hmem := List.mem_of_getElem? hLp
      have hlive : t.slot (way t.mask hh (c + q)) = .live i := slot_live R.tab.ris hi
      have rest : wpAny (model P w) A (searchRest a (.ref x) hh ad f es t (way t.mask hh (c + q)) i (stepAt t hh (c + (q + 1)))) Q E s := by
        unfold searchRest
        rw [R.row hLp]
        dsimp only
        refine wpAny_bind (wpAny_holding (wpAny_eqBool_tuple hu (R.tup p hmem) hx ?_))
        refine wpAny_bind (wpAny_setState_of hob hda R.fit ?_)
        dsimp only
        by_cases hkk : p.2 = k
        · have hm : k ∈ L.map (·.2) := List.mem_map.mpr ⟨p, hmem, hkk⟩
          cases ad with
          | true =>
            refine wp_if_pos (by simp [hkk]) ?_
            exact wpAny_pure (hin hm none (fun z => by cases z))
          | false =>
            refine wp_if_neg (by simp) ?_
            try refine wpAny_bind (wpAny_pure ?_)
            rw [sameMem]
            dsimp only
            simp only [if_true, hlive, R.row hLp]
            refine wpAny_bind (wpAny_isSame_ref_self (wpAny_bind (wpAny_pure ?_)))
            simp only [if_true]
            refine wp_if_pos (by simp [hkk]) ?_
            exact wpAny_pure (hin hm (some i) (fun _ => rfl))
        · refine wp_if_neg (by simp [hkk]) ?_
          try refine wpAny_bind (wpAny_pure ?_)
          rw [sameMem]
          dsimp only
          simp only [if_true, hlive, R.row hLp]
          refine wpAny_bind (wpAny_isSame_ref_self (wpAny_bind (wpAny_pure ?_)))
          simp only [if_true]
          refine wp_if_neg (by simp [hkk]) ?_
          refine ih (c + (q + 1)) (some _) rfl (by omega) (by omega) fun i0 p0 h0 hk0 => ?_
          obtain ⟨c', a1, a2, a3⟩ := hre i0 p0 h0 hk0
          have a3' := a3
          rcases Nat.lt_trichotomy c' (c + q) with z | z | z
          · exfalso
            refine hno (c' - c) i0 (by omega) (by rw [step_add, show c + (c' - c) = c' by omega]; exact a3) ?_
            rw [hOf i0 p0 h0, hk0, hH]
          · exfalso
            rw [z] at a3
            have s0 := slot_live R.tab.ris a3
            rw [hlive] at s0
            injection s0 with s0
            rw [← s0, hLp] at h0
            exact hkk (by rw [Option.some.inj h0]; exact hk0)
          · exact ⟨c', by omega, a2, a3'⟩
      have hpr' : t.probe (fun i => (es[i]?.map (·.1)).getD 0) hh (stepAt t hh c) = some (.candidate (way t.mask hh (c + q)) i (stepAt t hh (c + (q + 1)))) := hpr
      rw [hpr']
      dsimp only
      by_cases hl : t.led = true
      · refine wp_if_neg (by simp [hl]) ?_
        try refine wpAny_bind (wpAny_pure ?_)
        exact rest
      · refine wp_if_pos (by simp [hl]) ?_
        refine wpAny_bind (unseen_tup hp hx (fun y hy => ?_) ?_)
        · obtain ⟨e, he, rfl⟩ := List.mem_map.mp hy
          have he1 : e ∈ es ∧ e.1 = hh := by simpa using he
          have he2 : e ∈ es.toList := by simpa using he1.1
          rw [R.rows] at he2
          obtain ⟨p2, hp2, rfl⟩ := List.mem_map.mp he2
          exact ⟨p2.2, p2.1, rfl, R.tup p2 hp2⟩
        · refine wp_if_neg (by decide) ?_
          try refine wpAny_bind (wpAny_pure ?_)
          exact rest
    · rw [step_add, show c + (Z - c) = Z by omega] at hpr
      have hpr' : t.probe (fun i => (es[i]?.map (·.1)).getD 0) hh (stepAt t hh c) = some (.empty (way t.mask hh Z) none) := hpr
      rw [hpr']
      dsimp only
      refine wpAny_pure (hout fun hm => ?_)
      obtain ⟨p0, h0, hk0⟩ := List.mem_map.mp hm
      obtain ⟨i0, hi0, e0⟩ := List.getElem_of_mem h0
      have h00 : L[i0]? = some p0 := by rw [List.getElem?_eq_getElem hi0, e0]
      obtain ⟨c', a1, a2, a3⟩ := hre i0 p0 h00 hk0
      refine hno (c' - c) i0 (by omega) (by rw [step_add, show c + (c' - c) = c' by omega]; exact a3) ?_
      rw [hOf i0 p0 h00, hk0, hH]
theorem find_at (hp : PlainK knd) (R : SetAt knd s.heap a L es ep t) {x : Addr} {k : List K} (hx : IsTupleKey knd s.heap k x) (hu : A.units < cLine) (ad : Bool) {Q : SetFound → Shared → Prop}
    (hin : k ∈ L.map (·.2) → ∀ r, (ad = false → r.isSome = true) → Q (.there r) s)
    (hout : ∀ Z, k ∉ L.map (·.2) → way t.mask (tupleKeyHash knd k) Z ∉ t.place.toList → (∀ c, c < Z → way t.mask (tupleKeyHash knd k) c ∈ t.place.toList) → Q (.free (way t.mask (tupleKeyHash knd k) Z) false) s) :
    wpAny (model P w) A (setSearch a (.ref x) (tupleKeyHash knd k) ad) Q E s := by
  have hroom := R.room
  obtain ⟨Z, hZf, hZ, hZb⟩ := R.tab.first (by rw [List.length_map]; omega) (tupleKeyHash knd k)
  have hZ1 : Z < 100000 := by
    have h := hZf
    unfold SetTable.turns at h
    rcases R.tab.mok with e | e | e <;> omega
  unfold setSearch
  refine find_from hp R hx hu ad hZf hZ hZb hin (fun hn => hout Z hn hZ hZb) 100000 0 none rfl (Nat.zero_le _) (by omega) fun i p hp2 hk => ?_
  have hi : (L.map fun p => tupleKeyHash knd p.2)[i]? = some (tupleKeyHash knd k) := by rw [List.getElem?_map, hp2, ← hk]; rfl
  have hil : i < t.place.toList.length := by
    rw [R.tl]
    exact (List.getElem?_eq_some_iff.mp hp2).1
  obtain ⟨c, hc, e⟩ := R.tab.before hZ hi (List.getElem?_eq_getElem hil)
  exact ⟨c, Nat.zero_le _, hc, by rw [List.getElem?_eq_getElem hil, e]⟩
end
/-! ### sets of tuples: adding, asking -/
section
variable {P : Program} {w : World} {K : Type} [DecidableEq K] {knd : KeyKind P w K} {A : Around} {E : Value → Shared → Prop} {s : Shared}
theorem tup_but {h h' : Heap} {k : List K} {a b : Addr} {o : Obj} {es : Array (Int × Value)} {ep : Nat} {t : SetTable} (hb : IsTupleKey knd h k b) (ho : h.get? a = some o) (hd : o.data = .set es ep t) (hs : Heap.SameBut a h h') : IsTupleKey knd h' k b := by
  obtain ⟨ob, itm, n, hob, r1, r2, r3⟩ := hb
  refine ⟨ob, itm, n, (hs.2 b fun e => ?_).trans hob, r1, r2, r3⟩
  subst e
  rw [ho] at hob
  cases hob
  rw [hd] at r2
  cases r2
theorem rows_ins (L : List (Addr × List K)) (p : Nat) (x : Addr) (k : List K) : rowsK knd (L.take p ++ (x, k) :: L.drop p) = (rowsK knd L).take p ++ (tupleKeyHash knd k, Value.ref x) :: (rowsK knd L).drop p := by
  simp only [rowsK, List.map_append, List.map_cons, List.map_take, List.map_drop]
theorem all_again {α : Type} : ∀ L : List α, (List.range L.length).filterMap (fun i => L[i]?) = L := by
  intro L
  refine snoc_ind (R := fun L => (List.range L.length).filterMap (fun i => L[i]?) = L) rfl (fun l z ih => ?_) L
  have e : (l ++ [z]).length = l.length + 1 := by simp
  have e2 : (List.range l.length).filterMap (fun i => (l ++ [z])[i]?) = l := by
    conv => rhs; rw [← ih]
    exact fm_congr fun i hi => List.getElem?_append_left (List.mem_range.mp hi)
  rw [e, List.range_succ, List.filterMap_append, e2]
  congr 1
  rw [List.filterMap_cons_some (b := z) (by rw [List.getElem?_append_right (Nat.le_refl _), Nat.sub_self]; rfl)]
  rfl
theorem rows_order (L : List (Addr × List K)) (es : Array (Int × Value)) (order : Array Nat) (hr : es.toList = rowsK knd L) (hp : order.toList.Perm (List.range L.length)) :
    ∃ L2, (order.filterMap (es[·]?)).toList = rowsK knd L2 ∧ L2.Perm L ∧ (L2.map fun p => tupleKeyHash knd p.2) = order.toList.map fun i => (es.map (·.1)).getD i 0 := by
  have ent : ∀ i : Nat, es[i]? = (L[i]?).map fun p => (tupleKeyHash knd p.2, Value.ref p.1) := fun i => by
    rw [← Array.getElem?_toList, hr]
    unfold rowsK
    rw [List.getElem?_map]
  refine ⟨order.toList.filterMap (fun i => L[i]?), ?_, ?_, ?_⟩
  · rw [Array.toList_filterMap]
    unfold rowsK
    rw [List.map_filterMap]
    exact fm_congr fun i _ => ent i
  · have h := hp.filterMap (fun i => L[i]?)
    rwa [all_again] at h
  · have hl : ∀ i ∈ order.toList, i < L.length := fun i hi => List.mem_range.mp (hp.mem_iff.mp hi)
    revert hl
    generalize order.toList = l
    intro hl
    induction l with
    | nil => rfl
    | cons i l ih =>
      have hi := hl i List.mem_cons_self
      rw [List.filterMap_cons_some (List.getElem?_eq_getElem hi), List.map_cons, List.map_cons, ih fun j hj => hl j (List.mem_cons_of_mem _ hj)]
      congr 1
      have e5 : (es.map (·.1))[i]? = some (tupleKeyHash knd (L[i]).2) := by rw [Array.getElem?_map, ent i, List.getElem?_eq_getElem hi]; rfl
      rw [Array.getD_eq_getD_getElem?, e5]
      rfl
variable {a : Addr} {L : List (Addr × List K)} {es : Array (Int × Value)} {ep : Nat} {t : SetTable}
theorem relay_set {o : Obj} (ho : s.heap.get? a = some o) (hex : o.ExactSet) (hd : o.data = .set es ep t) (hrows : es.toList = rowsK knd L) (hsz : t.place.size = es.size) (hdm : t.dummies = #[]) (hfl : es.size ≤ t.mask)
    (nd : (L.map (·.2)).Nodup) (tup : ∀ p ∈ L, IsTupleKey knd s.heap p.2 p.1) (ld : w.params.followText "set-order" = true ∨ t.led = true) (few : L.length < 64) {wanted M : Nat}
    (hw : SetTable.sizeAbove wanted - 1 = M) (hM : MaskOk M) (hw2 : SetTable.sizeAbove wanted ≤ 128) (hn : L.length * 5 < M * 3) {Q : Unit → Shared → Prop}
    (q : ∀ h' L' es' ep' t', Heap.SameBut a s.heap h' → SetAt knd h' a L' es' ep' t' → L'.Perm L → Q () { s with heap := h' }) : wpAny (model P w) A (setRelay a wanted) Q E s := by
  have hsl : es.size = L.length := by
    rw [← Array.length_toList, hrows]
    unfold rowsK
    rw [List.length_map]
  have hfits : t.fits es.size = true := by
    unfold SetTable.fits SetTable.fill
    rw [hdm, Bool.and_eq_true, beq_iff_eq, decide_eq_true_eq]
    exact ⟨hsz, by show t.place.size + 0 ≤ t.mask; omega⟩
  obtain ⟨t2, order, e, hp, T, em, el, _, _⟩ := relaid_ok t (hs := es.map (·.1)) (wanted := wanted) hw hM (by rw [Array.size_map, hsl]; omega)
  rw [Array.size_map, hsl] at hp
  obtain ⟨L2, r1, r2, r3⟩ := rows_order L es order hrows hp
  rw [← r3] at T
  have hs2 : (order.filterMap (es[·]?)).size = es.size := by
    rw [← Array.length_toList, r1, hsl, ← r2.length_eq]
    unfold rowsK
    rw [List.length_map]
  rw [setRelay_eq]
  refine wpAny_bind (wpAny_setState_of ho hd hfits ?_)
  dsimp only
  refine wp_if_neg (by rw [sizeLine_eq]; omega) ?_
  try refine wpAny_bind (wpAny_pure ?_)
  rw [e]
  dsimp only
  refine wpAny_bind (wp_if_neg (by rw [hs2]; simp) ?_)
  try refine wpAny_bind (wpAny_pure ?_)
  refine wpAny_pure (wpAny_storeSet_of ho hd ?_ (by rw [hs2, hsl, sizeLine_eq]; omega))
  have sb : Heap.SameBut a s.heap (s.heap.update a (Obj.putSet (order.filterMap (es[·]?)) t2)) := Heap.SameBut.update ..
  refine q _ L2 (order.filterMap (es[·]?)) (ep + 1) t2 sb ⟨⟨_, store_at ho hd, ⟨hex.1, hex.2.1, hex.2.2⟩, rfl⟩, r1, T, (r2.map (·.2)).nodup_iff.mpr nd, fun p hpm => tup_but (tup p (r2.mem_iff.mp hpm)) ho hd sb, by rw [el]; exact ld, ?_, by rw [r2.length_eq]; exact few⟩ r2
  rw [r2.length_eq, em]
  exact hn
theorem add_set (hp : PlainK knd) (R : SetAt knd s.heap a L es ep t) {x : Addr} {k : List K} (hx : IsTupleKey knd s.heap k x) (hu : A.units < cLine) (hfew : L.length + 1 < 64) {Q : Bool → Shared → Prop}
    (q : ∀ b h' L' es' ep' t', Heap.SameBut a s.heap h' → SetAt knd h' a L' es' ep' t' → (k ∈ L.map (·.2) → L' = L) → (k ∉ L.map (·.2) → L'.Perm ((x, k) :: L)) → Q b { s with heap := h' }) :
    wpAny (model P w) A (setAddHashed a (.ref x) (tupleKeyHash knd k)) Q E s := by
  obtain ⟨o, ho, hex, hd⟩ := R.ob
  have hsl := R.len
  have hroom := R.room
  unfold setAddHashed
  refine wpAny_holding ?_
  rw [show (100000 : Nat) = 99999 + 1 from rfl, setAddHashedIn_succ]
  refine wpAny_bind (wpAny_setState_of ho hd R.fit ?_)
  dsimp only
  refine wp_if_neg (by simp [byScan, Value.scannable]) ?_
  try refine wpAny_bind (wpAny_pure ?_)
  refine wpAny_bind (find_at hp R hx hu true (fun hm r _ => ?_) fun Z hm hZ hb => ?_)
  · exact wpAny_pure (q false s.heap L es ep t (Heap.SameBut.refl a s.heap) R (fun _ => rfl) fun z => absurd hm z)
  dsimp only
  refine wpAny_bind (wpAny_setState_of ho hd R.fit ?_)
  dsimp only
  obtain ⟨q1, q2, q3, q4, q5, q6, q7, q8, q9⟩ := R.tab.put hZ hb
  generalize hpt : t.put (way t.mask (tupleKeyHash knd k) Z) = pt at q1 q3 q4 q5 q6 q7 q8 q9 ⊢
  obtain ⟨t1, p⟩ := pt
  dsimp only at q1 q3 q4 q5 q6 q7 q8 q9 ⊢
  subst q1
  have hb2 : ∀ F : Bool → Sem Bool, (∀ r, wpAny (model P w) A (F r) Q E s) → wpAny (model P w) A (if t1.plain = true then hashByValue 8 (.ref x) >>= F else pure true >>= F) Q E s := fun F h => by
    by_cases c : t1.plain = true
    · exact wp_if_pos c (wpAny_bind (hash_of_tup hp hx h))
    · exact wp_if_neg c (wpAny_bind (wpAny_pure (h true)))
  have hin : (SetTable.insertAt es (SetTable.below t.place (way t.mask (tupleKeyHash knd k) Z)) (tupleKeyHash knd k, Value.ref x)).toList = rowsK knd (L.take (SetTable.below t.place (way t.mask (tupleKeyHash knd k) Z)) ++ (x, k) :: L.drop (SetTable.below t.place (way t.mask (tupleKeyHash knd k) Z))) := by
    rw [SetTable.toList_insertAt, rows_ins, R.rows]
  generalize hpp : SetTable.below t.place (way t.mask (tupleKeyHash knd k) Z) = p at q2 q3 hin ⊢
  have pm : (L.take p ++ (x, k) :: L.drop p).Perm ((x, k) :: L) := by
    have h : (L.take p ++ (x, k) :: L.drop p).Perm ((x, k) :: (L.take p ++ L.drop p)) := List.perm_middle
    rwa [List.take_append_drop] at h
  have hlen : (L.take p ++ (x, k) :: L.drop p).length = L.length + 1 := pm.length_eq
  have hhs : (L.take p ++ (x, k) :: L.drop p).map (fun p => tupleKeyHash knd p.2) = (L.map fun p => tupleKeyHash knd p.2).take p ++ tupleKeyHash knd k :: (L.map fun p => tupleKeyHash knd p.2).drop p := by
    simp only [List.map_append, List.map_cons, List.map_take, List.map_drop]
  rw [← hhs] at q3
  have nd1 : ((L.take p ++ (x, k) :: L.drop p).map (·.2)).Nodup := (pm.map (·.2)).nodup_iff.mpr (by
    rw [List.map_cons]
    exact List.nodup_cons.mpr ⟨hm, R.nd⟩)
  have hes : (SetTable.insertAt es p (tupleKeyHash knd k, Value.ref x)).size = L.length + 1 := by
    rw [← Array.length_toList, hin, ← hlen]
    unfold rowsK
    rw [List.length_map]
  generalize SetTable.insertAt es p (tupleKeyHash knd k, Value.ref x) = es1 at hin hes ⊢
  generalize L.take p ++ (x, k) :: L.drop p = L1 at pm hlen q3 nd1 hin
  refine hb2 _ fun r => ?_
  try dsimp only
  obtain ⟨t2, et2, q3', q4', q5', q9'⟩ : ∃ t2, (if r = true then t1 else { t1 with plain := false }) = t2 ∧ TabOk t2 (L1.map fun p => tupleKeyHash knd p.2) ∧ t2.mask = t.mask ∧ t2.led = t.led ∧ t2.fill = (L.map fun p => tupleKeyHash knd p.2).length + 1 := by
    refine ⟨_, rfl, ?_⟩
    cases r with
    | true => exact ⟨q3, q4, q5, q9⟩
    | false => exact ⟨⟨q3.ris, q3.dm, q3.sz, q3.mok, q3.bd, q3.reach⟩, q4, q5, q9⟩
  rw [et2]
  clear et2 q3 q4 q5 q6 q7 q8 q9 hb2 hpt
  refine wpAny_bind (wpAny_storeSet_of ho hd ?_ (by rw [hes, sizeLine_eq]; omega))
  have sb : Heap.SameBut a s.heap (s.heap.update a (Obj.putSet es1 t2)) := Heap.SameBut.update ..
  have ho1 := store_at (es' := es1) (t' := t2) ho hd
  generalize s.heap.update a (Obj.putSet es1 t2) = h1 at sb ho1 ⊢
  have tup1 : ∀ p ∈ L1, IsTupleKey knd h1 p.2 p.1 := fun p hpm => by
    rcases List.mem_cons.mp (pm.mem_iff.mp hpm) with e | hpm
    · rw [e]; exact tup_but hx ho hd sb
    · exact tup_but (R.tup p hpm) ho hd sb
  have ld1 : w.params.followText "set-order" = true ∨ t2.led = true := by rw [q5']; exact R.led
  by_cases hf : t2.tooFull = true
  · first
      | (refine wpAny_bind ?_; refine wp_if_pos (by simp [hf]) ?_)
      | (refine wp_if_pos (by simp [hf]) ?_; refine wpAny_bind ?_)
    have hfull : (L.length + 1) * 5 ≥ t2.mask * 3 := by
      have h := hf
      unfold SetTable.tooFull at h
      rw [decide_eq_true_eq, q9', List.length_map] at h
      exact h
    rw [hsl]
    have hsz1 : t2.place.size = es1.size := by
      have h := q3'.sz
      rw [List.length_map, hlen] at h
      rw [h, hes]
    have two : (t.mask = 7 ∧ L.length = 4) ∨ (t.mask = 31 ∧ L.length = 18) := by
      rcases R.tab.mok with e | e | e <;> rw [q4', e] at hfull <;> rw [e] at hroom <;> omega
    have go : ∀ M, SetTable.sizeAbove (SetTable.grown (L.length + 1)) - 1 = M → MaskOk M → SetTable.sizeAbove (SetTable.grown (L.length + 1)) ≤ 128 → (L.length + 1) * 5 < M * 3 →
        wpAny (model P w) A (setRelay a (SetTable.grown (L.length + 1))) (fun _ s' => wpAny (model P w) A (pure true) Q E s') E { s with heap := h1 } := fun M a1 a2 a3 a4 => by
      refine relay_set (s := { s with heap := h1 }) ho1 ⟨hex.1, hex.2.1, hex.2.2⟩ rfl hin hsz1 q3'.dm (by rw [hes, q4']; rcases two with ⟨e, e2⟩ | ⟨e, e2⟩ <;> omega) nd1 tup1 ld1 (by rw [hlen]; exact hfew) a1 a2 a3 (by rw [hlen]; exact a4) ?_
      exact fun h2 L2 es2 ep2 t3 sb2 R2 pm2 => wpAny_pure (q true h2 L2 es2 ep2 t3 (sb.trans sb2) R2 (fun z => absurd z hm) fun _ => pm2.trans pm)
    rcases two with ⟨_, e2⟩ | ⟨_, e2⟩
    · exact go 31 (by rw [e2, size_20]) (.inr (.inl rfl)) (by rw [e2, size_20]; decide) (by omega)
    · exact go 127 (by rw [e2, size_76]) (.inr (.inr rfl)) (by rw [e2, size_76]; decide) (by omega)
  · first
      | refine wp_if_neg (by simp [hf]) ?_
      | (refine wpAny_bind ?_; refine wp_if_neg (by simp [hf]) ?_; refine wpAny_pure ?_)
    refine wpAny_pure (q true h1 L1 es1 (ep + 1) t2 sb ⟨⟨_, ho1, ⟨hex.1, hex.2.1, hex.2.2⟩, rfl⟩, hin, q3', nd1, tup1, ld1, ?_, by rw [hlen]; exact hfew⟩ (fun z => absurd z hm) fun _ => pm)
    have h := hf
    unfold SetTable.tooFull at h
    rw [decide_eq_true_eq, q9', List.length_map] at h
    rw [hlen]
    omega
theorem has_set (hp : PlainK knd) (R : SetAt knd s.heap a L es ep t) {x : Addr} {k : List K} (hx : IsTupleKey knd s.heap k x) (hu : A.units < cLine) {Q : Option Nat → Shared → Prop}
    (q : ∀ r, (r.isSome = true ↔ k ∈ L.map (·.2)) → Q r s) : wpAny (model P w) A (setFind a (.ref x) (tupleKeyHash knd k)) Q E s := by
  obtain ⟨o, ho, hex, hd⟩ := R.ob
  unfold setFind
  rw [show (100000 : Nat) = 99999 + 1 from rfl]
  unfold setFindIn
  refine wpAny_bind (wpAny_setState_of ho hd R.fit ?_)
  dsimp only
  refine wp_if_neg (by simp [byScan, Value.scannable]) ?_
  try refine wpAny_bind (wpAny_pure ?_)
  refine wpAny_bind (find_at hp R hx hu false (fun hm r hr => ?_) fun Z hm hZ hb => ?_)
  · exact wpAny_pure (q r ⟨fun _ => hm, fun _ => hr rfl⟩)
  · exact wpAny_pure (q none ⟨(fun z => by cases z), fun z => absurd z hm⟩)
end
/-! ### sets of tuples of texts: the rules -/
/-- a set of such tuples, said of the heap; where the tuples stand is told beside it -/
structure Set0 (P : Program) (w : World) (h : Heap) (a : Addr) (L : List (Addr × List Key)) : Prop where
  ex : ∃ (es : Array (Int × Value)) (ep : Nat) (t : SetTable), (∃ o, h.get? a = some o ∧ o.ExactSet ∧ o.data = .set es ep t) ∧ es.toList = rowsK (mixKind P w) L ∧ TabOk t (L.map fun p => tupleKeyHash (mixKind P w) p.2) ∧ (L.map (·.2)).Nodup ∧
    (w.params.followText "set-order" = true ∨ t.led = true) ∧ L.length * 5 < t.mask * 3 ∧ L.length < 64
def SetTT (P : Program) (w : World) (a : Addr) (L : List (Addr × List Key)) : HO := .ext fun h => Set0 P w h a L
section
variable {P : Program} {w : World} {h : Heap} {a : Addr} {L : List (Addr × List Key)}
theorem SetAt.t0 {es : Array (Int × Value)} {ep : Nat} {t : SetTable} (R : SetAt (mixKind P w) h a L es ep t) : Set0 P w h a L := ⟨es, ep, t, R.ob, R.rows, R.tab, R.nd, R.led, R.room, R.few⟩
theorem Set0.full (R : Set0 P w h a L) (ht : ∀ p ∈ L, IsTupleKey (mixKind P w) h p.2 p.1) : ∃ es ep t, SetAt (mixKind P w) h a L es ep t := by
  obtain ⟨es, ep, t, h1, h2, h3, h4, h6, h7, h8⟩ := R.ex
  exact ⟨es, ep, t, h1, h2, h3, h4, ht, h6, h7, h8⟩
theorem setTT_ok {H : Hp} (R : Set0 P w h a L) : ObjOk P w H h a (SetTT P w a L) := by
  obtain ⟨_, _, _, ⟨o, ho, _⟩, _⟩ := id R.ex
  refine ⟨R, ⟨o, ho⟩, fun h1 h2 p k => ?_⟩
  obtain ⟨es, ep, t, ⟨o2, ho2, r⟩, q⟩ := Set0.ex p
  exact ⟨es, ep, t, ⟨o2, k o2 ho2, r⟩, q⟩
theorem set0_fresh (ho : h.get? a = some { cls := .type "set", dict := none, data := .set #[] 0 (.fresh 0 0 (!w.params.followText "set-order")) }) : Set0 P w h a [] := by
  refine ⟨#[], 0, _, ⟨_, ho, ⟨rfl, rfl, rfl⟩, rfl⟩, rfl, ⟨List.Pairwise.nil, rfl, rfl, .inl rfl, (fun x hx => by cases hx), fun i h j hi => by simp at hi⟩, List.nodup_nil, ?_, by show 0 * 5 < 7 * 3; decide, by show 0 < 64; decide⟩
  show _ ∨ (!w.params.followText "set-order") = true
  cases w.params.followText "set-order" with
  | true => exact .inl rfl
  | false => exact .inr rfl
end
section
variable {X : Cx} {pins : List (Addr × Obj)} {σ : L2.St} {H : Hp} {s : Shared}
theorem inv_tup {b : Addr} {k : List Key} (I : Inv X pins σ H s) (h : SqT X.K H b (k.map kV)) : IsTupleKey (mixKind X.prog X.w) s.heap k b := by
  obtain ⟨its, r, ⟨o, ho, hc, n, hd⟩, _⟩ := I.tuple h
  exact ⟨o, its.toArray, n, ho, hc, hd, by simpa using items_are r⟩
/-- set(), to be filled with tuples -/
def rSet0T (P : Program) (w : World) : List V → Hp → VK → Prop := fun xs H Q => xs = [] ∧ ∀ p, H p = none → Q (.ref p) (upd H p (SetTT P w p []))
theorem cr_set0T : CallR X (.type "set") (rSet0T X.prog X.w) := by
  intro pins s σ H xs us Q I r h
  obtain ⟨rfl, q⟩ := h
  cases r
  refine setR_new fun _ => ?_
  have new : Set0 X.prog X.w (s.heap.push { cls := .type "set", dict := none, data := .set #[] 0 (.fresh 0 0 (!X.w.params.followText "set-order")) }) s.heap.objs.size [] := set0_fresh (Heap.get?_push_size _ rfl)
  exact ⟨.ref _, upd H s.heap.objs.size (SetTT X.prog X.w s.heap.objs.size []), I.laid (t' := s.toks) (fun b u e => Heap.get?_push_of_some _ e) (Nat.le_refl _) (setTT_ok new), rfl, q _ (I.hok.fresh (Nat.le_refl _))⟩
/-- all its tuples stand -/
def TupsIn (K : PySem.W.Frag) (H : Hp) (L : List (Addr × List Key)) : Prop := ∀ p ∈ L, SqT K H p.1 (p.2.map kV)
/-- found.add(t) -/
def rSAddT (K : PySem.W.Frag) (P : Program) (w : World) : V → List V → Hp → VK → Prop := fun x xs H Q => ∃ (a b : Addr) (k : List Key) (L : List (Addr × List Key)), x = V.ref a ∧ xs = [V.ref b] ∧ SqT K H b (k.map kV) ∧ H a = some (SetTT P w a L) ∧ TupsIn K H L ∧ L.length + 1 < 64 ∧
  ∀ L', (k ∈ L.map (·.2) → L' = L) → (k ∉ L.map (·.2) → L'.Perm ((b, k) :: L)) → Q .non (upd H a (SetTT P w a L'))
theorem set_noDict {h : Heap} {a : Addr} {o : Obj} (ho : h.get? a = some o) (hx : o.ExactSet) : ∀ b, Value.ref a = .ref b → ∃ ob, h.get? b = some ob ∧ ob.dict = none := fun b e => by
  cases e
  exact ⟨o, ho, hx.2.1⟩
theorem mt_saddT (hu : X.A.units + 2 < cLine) : MtR X "set.add" (rSAddT X.K X.prog X.w) := by
  intro pins s σ H x xs v us Q I rx rxs h
  obtain ⟨a, b, k, L, rfl, rfl, hb, ha, hL, hf, q⟩ := h
  cases rx
  rw [Vals.ref1 rxs]
  obtain ⟨es, ep, t, R⟩ := ((I.hok a _ ha).1 : Set0 X.prog X.w s.heap a L).full fun p hp => inv_tup I (hL p hp)
  have hk := inv_tup I hb
  obtain ⟨o, ho, hex, hd⟩ := R.ob
  have hT : s.TypeIs (.ref a) "set" := ⟨o, ho, hex.1⟩
  refine wpAny_call_entry F.slot_set_add hT F.entry_set_add ?_ (F.args_set_add_2 _ _)
  unfold Builtin.«set.add» Builtin.Frozenset.oneOther
  simp only [List.isEmpty_nil, bind_assoc]
  unfold Builtin.Frozenset.addrOf setAdd
  refine wpAny_bind (wpAny_pure ?_)
  try dsimp only
  refine wpAny_bind (wpAny_pure ?_)
  try dsimp only
  refine wpAny_bind (wpAny_holding (wpAny_bind (wpAny_pyHash_tuple (by first | omega | (show X.A.units < cLine; omega) | (show X.A.units + 1 < cLine; omega)) hk ?_)))
  refine add_set (s := { s with toks := s.toks + (k.length + 1) }) (plain_mix _ _) R hk (by first | omega | (show X.A.units < cLine; omega) | (show X.A.units + 1 < cLine; omega)) hf fun r h' L' es' ep' t' sb R' c1 c2 => ?_
  show wpAny _ _ (ret Value.none) _ _ _
  refine wpAny_pure ⟨_, rfl, ?_⟩
  obtain ⟨o', ho', _⟩ := R'.ob
  exact ⟨.non, upd H a (SetTT X.prog X.w a L'), I.write (e := a) (t' := s.toks + (k.length + 1)) (by rw [ha]; trivial) (.inl rfl) (fun c u hc e => (sb.2 c hc).trans e) ⟨o', ho'⟩ (setTT_ok R'.t0), rfl, q L' c1 c2⟩
/-- t in found -/
def rSInT (K : PySem.W.Frag) (P : Program) (w : World) : V → V → Hp → VK → Prop := fun x y H Q => ∃ (b a : Addr) (k : List Key) (L : List (Addr × List Key)), x = V.ref b ∧ y = V.ref a ∧ SqT K H b (k.map kV) ∧ H a = some (SetTT P w a L) ∧ TupsIn K H L ∧ ∀ c : Bool, (c = true ↔ k ∈ L.map (fun p : Addr × List Key => p.2)) → Q (.bl c) H
theorem or_sinT (hu : X.A.units + 4 < cLine) : OpR X (compareOp .In) (rSInT X.K X.prog X.w) := by
  intro pins s σ H x y v u Q I rx ry h
  obtain ⟨b, a, k, L, rfl, rfl, hb, ha, hL, q⟩ := h
  cases rx
  cases ry
  obtain ⟨es, ep, t, R⟩ := ((I.hok a _ ha).1 : Set0 X.prog X.w s.heap a L).full fun p hp => inv_tup I (hL p hp)
  have hk := inv_tup I hb
  obtain ⟨o, ho, hex, hd⟩ := R.ob
  have hT : s.TypeIs (.ref a) "set" := ⟨o, ho, hex.1⟩
  show wpAny _ _ (do return Value.bool (← contains (.ref a) (.ref b))) _ _ s
  refine wpAny_bind ?_
  unfold contains
  try with_reducible refine wpAny_holding ?_
  refine wpAny_bind (wpAny_specialOf hT F.slot_set_contains.lookup ?_)
  show wpAny _ _ (if (some (Value.builtin "set.__contains__") == some Value.none) = true then _ else _) _ _ s
  rw [if_neg (by rw [beq_builtin_none]; exact Bool.false_ne_true)]
  refine wpAny_bind (wpAny_callSpecialUnlessNone?_slot (name := Str.ofString "__contains__") hT F.slot_set_contains (wpAny_call_entry F.slot_set_contains hT entry_set_contains ?_ (F.args_set_contains_2 _ _)))
  unfold Builtin.«frozenset.__contains__» Builtin.Frozenset.oneOther
  simp only [List.isEmpty_nil, bind_assoc]
  unfold Builtin.Frozenset.addrOf Builtin.Frozenset.withSetAsKey setContains
  refine wpAny_bind (wpAny_pure ?_)
  try dsimp only
  refine wpAny_bind (wpAny_pure ?_)
  try dsimp only
  refine wpAny_bind (wpAny_tryCatch (wpAny_holding (wpAny_bind (wpAny_pyHash_tuple (by first | omega | (show X.A.units < cLine; omega) | (show X.A.units + 1 < cLine; omega)) hk ?_))))
  refine wpAny_bind (has_set (s := { s with toks := s.toks + (k.length + 1) }) (plain_mix _ _) R hk (by first | omega | (show X.A.units < cLine; omega) | (show X.A.units + 1 < cLine; omega)) fun r hr => ?_)
  refine wpAny_pure ?_
  show wpAny _ _ (ret (Value.bool r.isSome)) _ _ _
  exact wpAny_pure ⟨_, rfl, wpAny_truthy_bool (wpAny_pure ⟨.bl r.isSome, H, I.tok _, rfl, q r.isSome hr⟩)⟩
/-! the method call found.add(e) -/
def tSAddT (K : PySem.W.Frag) (P : Program) (w : World) (to : TE) (t : TA) : TE := fun σ H Q => to σ H fun x H1 => (∃ a L, x = V.ref a ∧ H1 a = some (SetTT P w a L)) ∧ t σ H1 fun xs H2 => rSAddT K P w x xs H2 Q
variable {o e : Expr} {es : List Expr} {to : TE} {t : TA} {apos cpos : Pos}
theorem pe_saddT (hu : X.A.units + 2 < cLine) (ho : PE X o to) (ha : PA X (e :: es) t)
    (hbase : attributeBase o "add" X.env (eval o X.env) = eval o X.env := by rfl)
    (hfew : ((backTo cpos (starEach (e :: es) X.env)).all (fun x => !x.1) && (backToKw cpos (keywordEach [] X.env)).all (fun x => x.1.isSome)
      && decide ((e :: es).length + ([] : List Keyword).length + (if ([] : List Keyword).isEmpty then 0 else 1) < 30)) = true := by rfl)
    (hline : (apos.endLine == cpos.line) = true := by rfl) (hs : starEach (e :: es) X.env = (false, eval e X.env) :: starEach es X.env := by rfl) (hplain : (backTo cpos (starEach es X.env)).any (·.1) = false := by rfl) :
    PE X (.Call (.Attribute o "add" apos) (e :: es) [] cpos) (tSAddT X.K X.prog X.w to t) := by
  refine ⟨fun pins s σ H Q I h => ?_⟩
  refine wpAny_Call_method_late hbase hfew hline rfl (thn (ho.run pins s σ H _ I h) fun v s1 ⟨x, H1, I1, r1, ty, q1⟩ => ?_)
  obtain ⟨a, L, rfl, hka⟩ := ty
  obtain ⟨_, _, _, ⟨o1, ho1, hx1, _⟩, _⟩ := Set0.ex ((I1.hok a _ hka).1 : Set0 X.prog X.w s1.heap a L)
  cases r1
  refine ⟨"set", "set.add", F.plainAttrs_set, F.slot_set_add, F.type_set_add, ⟨o1, ho1, hx1.1⟩, set_noDict ho1 hx1, ?_⟩
  have hA := ha.run cpos pins s1 σ H1 _ I1 q1
  rw [hs] at hA ⊢
  refine Calls.callWith_builtin (by show (false || (backTo cpos (starEach es X.env)).any (·.1)) = false; rw [hplain]; rfl) (Calls.evalArgs_plain ?_)
  exact thn hA fun us s2 ⟨vs, H2, I2, r2, q2⟩ => mt_saddT hu pins s2 σ H2 (.ref a) vs (.ref a) us Q I2 rfl r2 q2
end
/-! ### min, max of two texts; sorted of pairs of texts -/
/-- the lesser of two texts, as Python orders them -/
def ltS (a b : Str) : Bool := decide (a.cps.toList < b.cps.toList)
section
variable {prog : Program} {w : World} {A : Around} {E : Value → Shared → Prop} {s : Shared}
theorem cmp_strs (val : Nat → Str) {Pv : Nat → Value → Prop} (hv : ∀ i v, Pv i v → ∃ t, v = .str (val i) t) : CmpOf prog w A .Lt Pv (fun i j => ltS (val i) (val j)) := fun i j vi vj s Q E hi hj h => by
  obtain ⟨t, rfl⟩ := hv i vi hi
  obtain ⟨u, rfl⟩ := hv j vj hj
  exact richCompare_gives (op := .Lt) (typeIs_str s _ t) (typeIs_str s _ u) F.slot_str_lt F.entry_str_lt (F.args_str_lt_2 _ _) (gives_str_lt _ _ t u) (fun x => nomatch x) h
theorem cmp_strs_gt (val : Nat → Str) {Pv : Nat → Value → Prop} (hv : ∀ i v, Pv i v → ∃ t, v = .str (val i) t) : CmpOf prog w A .Gt Pv (fun i j => ltS (val j) (val i)) := fun i j vi vj s Q E hi hj h => by
  obtain ⟨t, rfl⟩ := hv i vi hi
  obtain ⟨u, rfl⟩ := hv j vj hj
  exact richCompare_gives (op := .Gt) (typeIs_str s _ t) (typeIs_str s _ u) F.slot_str_gt F.entry_str_gt (F.args_str_gt_2 _ _) (gives_str_gt _ _ t u) (fun x => nomatch x) h
/-- two values in a tuple, walked -/
theorem two_walk (hh : A.handled = none) {x y : Value} {op : CmpOp} {bt : Nat → Nat → Bool} {Q : Value → Shared → Prop} (hc : CmpOf prog w A.in1 op (fun i v => (#[x, y] : Array Value)[i]? = some v) bt)
    (q : ∀ h' tk, (∀ c o, s.heap.get? c = some o → h'.get? c = some o) → Q (if bt 1 0 = true then y else x) { s with heap := h', toks := tk }) :
    wpAny (model prog w) A.in1 (pyIter (.ref s.heap.objs.size)) (fun it s₂ => ∃ I fp wr n P St bt', it = .ref I ∧ Walks prog w A.in1 I fp wr n P St ∧ St 0 s₂.heap ∧ (∀ b ∈ fp, b < s₂.heap.objs.size) ∧ 0 < n ∧ CmpOf prog w A.in1 op P bt' ∧
      ∀ v h' tk, P (argBest bt' (n - 1)) v → (∀ b o, b ∉ wr → s₂.heap.get? b = some o → h'.get? b = some o) → Q v { s₂ with heap := h', toks := tk }) E
      { s with heap := s.heap.push { cls := .type "tuple", data := .seq #[x, y] } } := by
  have hT : (s.heap.push { cls := .type "tuple", data := .seq #[x, y] }).IsTuple s.heap.objs.size #[x, y] := ⟨_, Heap.get?_push_size _ rfl, rfl, 0, rfl⟩
  have hsz : (s.heap.push { cls := .type "tuple", data := .seq #[x, y] }).objs.size = s.heap.objs.size + 1 := Heap.size_push ..
  refine wpAny_pyIter_tuple hT ⟨_, [_, s.heap.objs.size], [_], _, _, _, _, rfl, Walks.tuple (A := A.in1) hh _ s.heap.objs.size (by rw [hsz]; exact Nat.ne_of_lt (Nat.lt_succ_self _)) #[x, y], ⟨⟨_, Heap.get?_push_size _ rfl, rfl, rfl⟩, hT.push _⟩, fun c hc2 => ?_, by show 0 < 2; decide, hc, fun v h' tk hP hk => ?_⟩
  · show c < ((s.heap.push _).push _).objs.size
    rw [Heap.size_push, hsz]
    rcases List.mem_cons.mp hc2 with rfl | hc2
    · rw [hsz]; exact Nat.lt_succ_self _
    · rw [List.mem_singleton.mp hc2]; exact Nat.lt_succ_of_lt (Nat.lt_succ_self _)
  · have hv : v = if bt 1 0 = true then y else x := by
      have hP' : (#[x, y] : Array Value)[argBest bt 1]? = some v := hP
      unfold argBest argBest at hP'
      by_cases c : bt 1 0 = true
      · rw [if_pos c] at hP' ⊢
        exact (Option.some.inj hP').symm
      · rw [if_neg c] at hP' ⊢
        exact (Option.some.inj hP').symm
    rw [hv]
    refine q h' tk fun c o e => hk c o (fun hm => ?_) (Heap.get?_push_of_some _ (Heap.get?_push_of_some _ e))
    have hlt := Heap.lt_size e
    rw [List.mem_singleton.mp hm, hsz] at hlt
    exact absurd hlt (Nat.not_lt.mpr (Nat.le_succ _))
end
section
variable {X : Cx}
def kMinS : List V → Hp → VK → Prop := fun xs H Q => ∃ a b : Str, xs = [.str a, .str b] ∧ Q (.str (if ltS b a = true then b else a)) H
def kMaxS : List V → Hp → VK → Prop := fun xs H Q => ∃ a b : Str, xs = [.str a, .str b] ∧ Q (.str (if ltS a b = true then b else a)) H
theorem two_at {a b : Str} {t u : Tok} : ∀ (i : Nat) (v : Value), (#[Value.str a t, Value.str b u] : Array Value)[i]? = some v → ∃ t', v = .str ((#[a, b] : Array Str).getD i a) t'
  | 0, v, h => ⟨t, (Option.some.inj h).symm⟩
  | 1, v, h => ⟨u, (Option.some.inj h).symm⟩
  | i + 2, v, h => by simp at h
theorem call_minS (hc : X.calm = true) : CallR X (.builtin "min") kMinS := by
  intro pins s σ H xs us Q I r h
  obtain ⟨a, b, rfl, q⟩ := h
  obtain ⟨u1, u2, rfl, ⟨t, rfl⟩, ⟨u, rfl⟩⟩ := vals2 r
  refine call_min_two (two_walk (I.ok.hd hc) (cmp_strs (fun i => (#[a, b] : Array Str).getD i a) two_at) fun h' tk k => ?_)
  show EP X pins σ Q (if ltS b a = true then Value.str b u else Value.str a t) _
  by_cases c : ltS b a = true
  · rw [if_pos c] at q ⊢
    exact ⟨.str b, H, I.kept k, ⟨_, rfl⟩, q⟩
  · rw [if_neg c] at q ⊢
    exact ⟨.str a, H, I.kept k, ⟨_, rfl⟩, q⟩
theorem call_maxS (hc : X.calm = true) : CallR X (.builtin "max") kMaxS := by
  intro pins s σ H xs us Q I r h
  obtain ⟨a, b, rfl, q⟩ := h
  obtain ⟨u1, u2, rfl, ⟨t, rfl⟩, ⟨u, rfl⟩⟩ := vals2 r
  refine call_max_two (two_walk (I.ok.hd hc) (cmp_strs_gt (fun i => (#[a, b] : Array Str).getD i a) two_at) fun h' tk k => ?_)
  show EP X pins σ Q (if ltS a b = true then Value.str b u else Value.str a t) _
  by_cases c : ltS a b = true
  · rw [if_pos c] at q ⊢
    exact ⟨.str b, H, I.kept k, ⟨_, rfl⟩, q⟩
  · rw [if_neg c] at q ⊢
    exact ⟨.str a, H, I.kept k, ⟨_, rfl⟩, q⟩
end
/-! pairs of texts in a row -/
def PrsT (K : PySem.W.Frag) (H : Hp) (xs : List V) (ds : List Dr) : Prop := xs.length = ds.length ∧ ∀ (i : Nat) (d : Dr), ds[i]? = some d → ∃ t, xs[i]? = some (.ref t) ∧ SqT K H t [.str d.1, .str d.2]
/-- what a pair is ordered by -/
def keyD (d : Dr) : List (Int ⊕ List Nat) := [.inr d.1.cps.toList, .inr d.2.cps.toList]
/-- d is no greater than e -/
def leD (d e : Dr) : Prop := lexLt itemOrd (keyD e) (keyD d) = false
/-- the tuple at v has these two texts -/
def IsPr (h : Heap) (v : Value) (d : Dr) : Prop := ∃ a o n t u, v = .ref a ∧ h.get? a = some o ∧ o.cls = .type "tuple" ∧ o.data = .seq #[.str d.1 t, .str d.2 u] n
theorem IsPr.uniq {h : Heap} {v : Value} {d e : Dr} (x : IsPr h v d) (y : IsPr h v e) : d = e := by
  obtain ⟨a, o, n, t, u, rfl, h1, _, h3⟩ := x
  obtain ⟨a', o', n', t', u', e1, h1', _, h3'⟩ := y
  cases e1
  rw [h1] at h1'
  cases h1'
  rw [h3] at h3'
  injection h3' with e2 _
  have e3 := congrArg Array.toList e2
  simp only [List.cons.injEq, Value.str.injEq] at e3
  exact Prod.ext e3.1.1 e3.2.1.1
theorem IsPr.key {h : Heap} {v : Value} {d : Dr} (x : IsPr h v d) : PyProof.Rows.G.tupKeyC h (fun _ => true) v = some (keyD d) := by
  obtain ⟨a, o, n, t, u, rfl, h1, h2, h3⟩ := x
  unfold PyProof.Rows.G.tupKeyC
  have e1 : PyProof.Rows.G.isTupObj h (.ref a) = true := by simp [PyProof.Rows.G.isTupObj, h1, h2]
  rw [if_pos e1]
  simp only [tupKey, h1, h3]
  rfl
theorem tups_all {h : Heap} : ∀ {vs : List Value}, (∀ v ∈ vs, ∃ d, IsPr h v d) → ∃ fs, TupsOf h (fun _ => true) vs fs
  | [], _ => ⟨[], .nil⟩
  | v :: vs, hv => by
    obtain ⟨fs, hfs⟩ := tups_all fun y hy => hv y (List.mem_cons_of_mem _ hy)
    obtain ⟨d, a, o, n, t, u, rfl, h1, h2, h3⟩ := hv v List.mem_cons_self
    exact ⟨.str d.1 t :: fs, .cons ⟨a, o, _, n, rfl, h1, h2, h3, rfl, (fun z => by cases z), fun _ => ⟨d.1, t, rfl⟩⟩ hfs⟩
section
variable {X : Cx}
def rSortPr (K : PySem.W.Frag) : List V → Hp → VK → Prop := fun vs H Q => ∃ (a : Addr) (xs : List V) (ds : List Dr) (G0 : Hp), vs = [V.ref a] ∧ Same G0 H ∧ SqL K H a xs ∧ PrsT K G0 xs ds ∧ ds.length ≤ 1000 ∧
  ∀ (ys : List V) (es : List Dr) (p : Addr), PrsT K G0 ys es → es.Perm ds → es.Pairwise leD → H p = none → Q (.ref p) (upd H p (.lst ys))
open Classical in
theorem cr_sortPr : CallR X (.builtin "sorted") (rSortPr X.K) := by
  intro pins s σ H vs us Q I r h
  obtain ⟨a, xs, ds, G0, rfl, g0, hs, hP, hn, q⟩ := h
  obtain ⟨its, rv, hl, hz⟩ := I.list hs
  rw [Vals.ref1 r]
  have hlen := rv.length
  have hxr : ∀ x ∈ xs, ∃ a, x = V.ref a := fun x hx => by
    obtain ⟨i, hi, e⟩ := List.getElem_of_mem hx
    obtain ⟨t, h1, _⟩ := hP.2 i _ (List.getElem?_eq_getElem (by rw [← hP.1]; exact hi))
    rw [List.getElem?_eq_getElem hi, e] at h1
    exact ⟨t, Option.some.inj h1⟩
  obtain ⟨e1, e2⟩ := refs_back rv hxr
  have atI : ∀ (i : Nat) (d : Dr), ds[i]? = some d → ∃ v, its[i]? = some v ∧ IsPr s.heap v d ∧ ∃ t, backV v = .ref t ∧ SqT X.K G0 t [.str d.1, .str d.2] := fun i d hd => by
    obtain ⟨t, h1, h2⟩ := hP.2 i d hd
    obtain ⟨u, hu, ru⟩ := rv.get h1
    cases (show u = Value.ref t from ru)
    obtain ⟨its2, r2, ⟨o, ho, hc, n, hd2⟩, _⟩ := I.tuple (Same.sqt g0 h2)
    obtain ⟨v1, v2, rfl, ⟨t1, rfl⟩, ⟨t2, rfl⟩⟩ := vals2 r2
    exact ⟨.ref t, hu, ⟨t, o, n, t1, t2, rfl, ho, hc, hd2⟩, t, rfl, h2⟩
  have allv : ∀ v ∈ its, ∃ d, IsPr s.heap v d ∧ ∃ t, backV v = .ref t ∧ SqT X.K G0 t [.str d.1, .str d.2] := fun v hv => by
    obtain ⟨i, hi, e⟩ := List.getElem_of_mem hv
    have hi2 : i < ds.length := by rw [← hP.1]; omega
    obtain ⟨v', h1, h2, h3⟩ := atI i _ (List.getElem?_eq_getElem hi2)
    rw [List.getElem?_eq_getElem hi, e] at h1
    cases Option.some.inj h1
    exact ⟨_, h2, h3⟩
  obtain ⟨g, hg⟩ : ∃ g : Value → Dr, ∀ v ∈ its, IsPr s.heap v (g v) ∧ ∃ t, backV v = .ref t ∧ SqT X.K G0 t [.str (g v).1, .str (g v).2] :=
    ⟨fun v => if hv : ∃ d, IsPr s.heap v d ∧ ∃ t, backV v = .ref t ∧ SqT X.K G0 t [.str d.1, .str d.2] then Classical.choose hv else ((""), ("")), fun v hv => by
      have := allv v hv
      simp only [dif_pos this]
      exact Classical.choose_spec this⟩
  have eds : ds = its.map g := by
    refine List.ext_getElem? fun i => ?_
    rw [List.getElem?_map]
    by_cases hi : i < ds.length
    · obtain ⟨v, h1, h2, _⟩ := atI i _ (List.getElem?_eq_getElem hi)
      rw [h1, List.getElem?_eq_getElem hi]
      exact congrArg some (h2.uniq (hg v (List.mem_of_getElem? h1)).1)
    · rw [List.getElem?_eq_none (by omega), List.getElem?_eq_none (by rw [← hlen, hP.1]; omega)]
      rfl
  obtain ⟨fs, hfs⟩ := tups_all fun v hv => ⟨g v, (hg v hv).1⟩
  refine PyProof.Rows.G.sorted_tups hl.isList hfs (fun v hv => ⟨_, (hg v hv).1.key⟩) (by rw [← hlen]; exact hz) fun st hperm hsort _ => ?_
  have hpl : (arrOf st).toList.Perm (its.zip its) := by
    have e := Array.perm_iff_toList_perm.mp hperm
    rw [pairsOf_toList] at e
    exact e
  have hsame : ∀ p ∈ (arrOf st).toList, p.1 = p.2 ∧ p.2 ∈ its := fun p hp => by
    have hm := hpl.mem_iff.mp hp
    obtain ⟨h1, h2⟩ := mem_zip_self hm
    exact ⟨h1, by rw [← h1]; exact h2⟩
  obtain ⟨out, hout⟩ : ∃ out, out = (arrOf st).toList.map Prod.snd := ⟨_, rfl⟩
  have hop : out.Perm its := by
    have h1 := hpl.map Prod.snd
    rw [List.map_snd_zip (Nat.le_refl _)] at h1
    rw [hout]
    exact h1
  have hin : ∀ v ∈ out, v ∈ its := fun v hv => hop.mem_iff.mp hv
  have hsrt : (out.map g).Pairwise leD := by
    rw [List.pairwise_map, List.pairwise_iff_getElem]
    intro i j hi hj hij
    have hlo : out.length = (arrOf st).toList.length := by rw [hout, List.length_map]
    have hjs : j < (arrOf st).size := by rw [← Array.length_toList]; omega
    have hsz : (pairsOf its).size = (arrOf st).size := hperm.size_eq.symm
    have key : ∀ k (hk : k < out.length), KK (PyProof.Rows.G.tupKindC s.heap (fun _ => true)) (arrOf st) k = keyD (g out[k]) := fun k hk => by
      have hk2 : k < (arrOf st).toList.length := by omega
      have e3 : (arrOf st)[k]? = some ((arrOf st).toList[k]) := by rw [← Array.getElem?_toList, List.getElem?_eq_getElem hk2]
      have hm := hsame _ (List.getElem_mem hk2)
      have e4 : out[k] = ((arrOf st).toList[k]).2 := by simp [hout]
      unfold KK
      rw [e3]
      show (PyProof.Rows.G.tupKeyC s.heap (fun _ => true) ((arrOf st).toList[k]).1).getD [] = _
      rw [hm.1, e4, (hg _ hm.2).1.key]
      rfl
    have e := hsort i j (Nat.le_of_lt hij) (by rw [hsz]; exact hjs)
    rw [key i hi, key j hj] at e
    exact e
  have hz2 : (out.map backV).length ≤ sizeLine := by rw [List.length_map, hop.length_eq, ← hlen]; exact hz
  obtain ⟨ep, he'⟩ := PyProof.Rows.sortedAll_at s.heap its ((arrOf st).map (·.2))
  have eo : ((arrOf st).map (·.2)) = out.toArray := by
    apply Array.ext'
    rw [Array.toList_map, hout]
  rw [eo] at he' ⊢
  refine ⟨.ref _, upd H (s.heap.objs.size + 1) (.lst (out.map backV)), I.laid (t' := s.toks) (fun _ _ => PyProof.Rows.sortedAll_old) (Nat.le_succ _) ⟨hz2, out, ep, vals_back fun u hu => e2 u (hin u hu), he'⟩, rfl, q _ (out.map g) _ ⟨by rw [List.length_map, List.length_map], fun i d hd => ?_⟩ (by rw [eds]; exact hop.map g) hsrt (I.hok.fresh (Nat.le_succ _))⟩
  rw [List.getElem?_map] at hd
  cases hv : out[i]? with
  | none => rw [hv] at hd; cases hd
  | some v =>
    rw [hv] at hd
    obtain ⟨_, t, h1, h2⟩ := hg v (hin v (List.mem_of_getElem? hv))
    rw [← Option.some.inj hd]
    exact ⟨t, by rw [List.getElem?_map, hv, ← h1]; rfl, h2⟩
end
/-! ### sorted of a row of texts, list or tuple; pieces that are never come to; either of two readings -/
section
variable {prog : Program} {w : World} {A : Around} {E : Value → Shared → Prop} {s : Shared}
/-- the items of a tuple, in a list of one's own -/
theorem collect_tup {l : Addr} {o : Obj} {vs : List Value} {n : Nat} {Q : List Value → Shared → Prop} (ho : s.heap.get? l = some o) (hc : o.cls = .type "tuple") (hd : o.data = .seq vs.toArray n)
    (q : Q vs { s with heap := (s.heap.push (seqObj "list" #[] 0)).update s.heap.objs.size (Obj.mapSeq (· ++ vs.toArray)) }) (hL : vs.length ≤ sizeLine) : wpAny (model prog w) A (collect (.ref l)) Q E s := by
  have h0 : (s.heap.push (seqObj "list" #[] 0)).get? s.heap.objs.size = some (seqObj "list" #[] 0) := Heap.get?_push_size _ rfl
  have h1 : (s.heap.push (seqObj "list" #[] 0)).get? l = some o := Heap.get?_push_of_some _ ho
  unfold collect
  refine wpAny_bind (wpAny_runValue (codeAny_builtin entry_proto_collect' ?_))
  show wpAny _ _ (do again (.builtin "list.__iadd__" ⟨[← newList [], .ref l], []⟩)) _ _ s
  refine wpAny_bind (wpAny_newList (wpAny_pure ⟨Code.quiet_builtin _ (by decide +kernel), codeAny_builtin entry_list_iadd' ?_⟩))
  show wpAny _ _ (Builtin.List.listExtendWith (.ref s.heap.objs.size) (.ref l) (.ref s.heap.objs.size)) _ _ { s with heap := s.heap.push (seqObj "list" #[] 0) }
  unfold Builtin.List.listExtendWith
  refine wpAny_bind (wpAny_typeOf (T := "tuple") ⟨o, h1, hc⟩ ?_)
  have ht : (Value.type "tuple" == Value.type "tuple") = true := by rfl
  rw [if_pos (by rw [ht]; simp)]
  refine wpAny_bind (listItems_at h1 hd ?_)
  refine wpAny_bind (listItems_at (xs := #[]) (n := 0) h0 rfl ?_)
  rw [if_neg (by simp)]
  refine wpAny_bind (listUpdate_at (xs := #[]) (n := 0) h0 rfl ?_ (Nat.zero_le _) (by show (#[] ++ vs.toArray).size ≤ sizeLine + 1; simp only [Array.size_append, List.size_toArray, List.length_nil]; omega))
  refine wpAny_pure ?_
  show wpAny (model prog w) A (do
      let o ← load s.heap.objs.size
      match o.data with
      | .seq xs _ => pure xs.toList
      | _ => unsupported "internal:collect") Q E { s with heap := (s.heap.push (seqObj "list" #[] 0)).update s.heap.objs.size (Obj.mapSeq (· ++ vs.toArray)) }
  refine wpAny_bind (wpAny_load (get?_update_seq h0 _) ?_)
  show wpAny _ _ (pure ((#[] : Array Value) ++ vs.toArray).toList) Q E _
  rw [show ((#[] : Array Value) ++ vs.toArray).toList = vs by simp]
  exact wpAny_pure q
theorem sorted_tupS {l : Addr} {o : Obj} {vs : List Value} {n : Nat} {ss : List Str} {Q : Value → Shared → Prop} (ho : s.heap.get? l = some o) (hc : o.cls = .type "tuple") (hd : o.data = .seq vs.toArray n) (hS : StrsAre vs ss) (hL : vs.length ≤ sizeLine)
    (q : ∀ (out : Array Value) (ss' : List Str), StrsAre out.toList ss' → ss'.Perm ss → sortedS ss' = true → Q (.ref (s.heap.objs.size + 1)) { s with heap := sortedAll s.heap vs out }) :
    wpAny (model prog w) A (call (.builtin "sorted") [.ref l]) Q E s := by
  refine Calls.call_function_entry kind_sorted plain_sorted entry_sorted (args_sorted1 _) ?_
  unfold Builtin.«sorted»
  refine wpAny_bind (m := checkCount "sorted" 1 1 _) (wpAny_pure ?_)
  refine wpAny_bind (collect_tup ho hc hd ?_ hL)
  refine wpAny_bind (wpAny_newList ?_)
  have hz : ((s.heap.push (seqObj "list" #[] 0)).update s.heap.objs.size (Obj.mapSeq (· ++ vs.toArray))).objs.size = s.heap.objs.size + 1 := by rw [Heap.size_update, size_push']
  have hnew : (((s.heap.push (seqObj "list" #[] 0)).update s.heap.objs.size (Obj.mapSeq (· ++ vs.toArray))).push (seqObj "list" vs.toArray 0)).get? (s.heap.objs.size + 1) = some (seqObj "list" vs.toArray 0) := by
    rw [← hz]
    exact Heap.get?_push_size _ rfl
  show wpAny _ _ _ _ _ { s with heap := ((s.heap.push (seqObj "list" #[] 0)).update s.heap.objs.size (Obj.mapSeq (· ++ vs.toArray))).push (seqObj "list" vs.toArray 0) }
  rw [hz]
  refine wpAny_bind (wpAny_holding (wpAny_call_entry slot_list_sort ⟨_, hnew, rfl⟩ entry_list_sort (list_sort_treeKAny strKind_oneLt hnew hS.keysOf (fun v₁ v₂ rest e => keyKind_strs (by rw [← e]; exact hS)) hL fun st hp hs => ⟨_, rfl, ?_⟩) (args_list_sort _)))
  obtain ⟨ss', b1, b2, b3⟩ := sorted_out_str hS hp hs
  exact wpAny_pure ⟨_, rfl, q _ ss' b1 b2 b3⟩
end
/-! sorted of texts in a list or a tuple -/
section
variable {X : Cx}
def rSortedQ (K : PySem.W.Frag) : List V → Hp → VK → Prop := fun vs H Q => ∃ (a : Addr) (xs : List Str), vs = [V.ref a] ∧ (SqL K H a (xs.map V.str) ∨ SqT K H a (xs.map V.str)) ∧ xs.length < 64 ∧
  ∀ (ys : List Str) (p : Addr), ys.Perm xs → sortedS ys = true → H p = none → Q (.ref p) (upd H p (.lst (ys.map V.str)))
theorem cr_sortedQ : CallR X (.builtin "sorted") (rSortedQ X.K) := by
  intro pins s σ H vs us Q I r h
  obtain ⟨a, xs, rfl, hs | hs, h64, q⟩ := h
  · exact cr_sortedS pins s σ H _ us Q I r ⟨a, xs, rfl, hs, h64, q⟩
  · obtain ⟨its, rv, ⟨o, ho, hc, n, hd⟩, hz⟩ := I.tuple hs
    rw [Vals.ref1 r]
    have hlen0 := rv.length
    rw [List.length_map] at hlen0
    refine sorted_tupS ho hc hd rv.strs (by rw [sizeLine_eq]; omega) fun out ys h1 h2 h3 => ?_
    obtain ⟨ep, he'⟩ := PyProof.Rows.sortedAll_at s.heap its out
    have hlen : (ys.map V.str).length ≤ sizeLine := by rw [List.length_map, h2.length_eq]; exact small64 h64
    exact ⟨.ref _, upd H (s.heap.objs.size + 1) (.lst (ys.map V.str)), I.laid (t' := s.toks) (fun _ _ => PyProof.Rows.sortedAll_old) (Nat.le_succ _) ⟨hlen, out.toList, ep, vals_of_strs h1, he'⟩, rfl, q ys _ h2 h3 (I.hok.fresh (Nat.le_succ _))⟩
/-! never come to; one of two -/
theorem ps_never {st : Stmt} : PS X st (fun _ _ _ => False) := ⟨fun _ _ _ _ _ _ h => h.elim⟩
theorem pss_never {st : List Stmt} : PSs X st (fun _ _ _ => False) := ⟨fun _ _ _ _ _ _ h => h.elim⟩
theorem pe_never {e : Expr} : PE X e (fun _ _ _ => False) := ⟨fun _ _ _ _ _ _ h => h.elim⟩
def tEith (t u : TE) : TE := fun σ H Q => t σ H Q ∨ u σ H Q
theorem pe_eith {e : Expr} {t u : TE} (h : PE X e t) (h' : PE X e u) : PE X e (tEith t u) := ⟨fun pins s σ H Q I x => x.elim (fun x => h.run pins s σ H Q I x) (fun x => h'.run pins s σ H Q I x)⟩
def iEith (t u : TI) : TI := fun σ H R => t σ H R ∨ u σ H R
theorem pi_eith {tg it : Expr} {t u : TI} (h : PI X tg it t) (h' : PI X tg it u) : PI X tg it (iEith t u) := ⟨fun pins s σ H R I x => x.elim (fun x => h.run pins s σ H R I x) (fun x => h'.run pins s σ H R I x)⟩
def gEith (t u : TG) : TG := fun v σ H Q => t v σ H Q ∨ u v σ H Q
theorem pg_eith {tg : Expr} {t u : TG} (h : PG X tg t) (h' : PG X tg u) : PG X tg (gEith t u) := ⟨fun pins s σ H v u Q I r x => x.elim (fun x => h.run pins s σ H v u Q I r x) (fun x => h'.run pins s σ H v u Q I r x)⟩
end
theorem k_sortedQ {X : Cx} {K : PySem.W.Frag} (e : X.K = K) : CallR X (.builtin "sorted") (rSortedQ K) := by subst e; exact cr_sortedQ
theorem k_sortPr {X : Cx} {K : PySem.W.Frag} (e : X.K = K) : CallR X (.builtin "sorted") (rSortPr K) := by subst e; exact cr_sortPr
theorem k_all {X : Cx} {K : PySem.W.Frag} (e : X.K = K) (hc : X.calm = true) : CallR X (.builtin "all") (rAll K) := by subst e; exact cr_all hc
theorem k_isiT {X : Cx} {K : PySem.W.Frag} (e : X.K = K) : CallR X (.builtin "isinstance") (rIsiT K) := by subst e; exact call_isiT
/-! ### instances: fields, methods, making; the written part named -/
section
variable {X : Cx} {K : PySem.W.Frag} {P : Program} {w : World} {o e value : Expr} {es : List Expr} {f : Str} {pos pos' apos cpos p1 p2 : Pos} {ta tv to : TE} {t : TA} {C : Addr}
theorem k_fld (h : X.K = K) (he : PE X e ta) (hb : attributeBase e f X.env (eval e X.env) = eval e X.env := by rfl) : PE X (.Attribute e f pos) (tFld K ta f) := h ▸ pe_fld he hb
theorem k_ps_fld (h : X.K = K) (ha : PE X o ta) (hv : PE X value tv) (hs : swapsWith value (some (.Attribute o f pos')) pos.line X.env = pure false := by rfl) : PS X (.Assign [.Attribute o f pos'] value pos) (sFld K ta tv f) := h ▸ ps_fld ha hv hs
/-! sets -/
theorem k_set0K (hp : X.prog = P) (hw : X.w = w) : CallR X (.type "set") (rSet0K P w) := by subst hp hw; exact cr_set0K
theorem k_set0T (hp : X.prog = P) (hw : X.w = w) : CallR X (.type "set") (rSet0T P w) := by subst hp hw; exact cr_set0T
theorem k_sinK (hp : X.prog = P) (hw : X.w = w) : OpR X (compareOp .In) (rSInK P w false) := by subst hp hw; exact or_sinK
theorem k_snotinK (hp : X.prog = P) (hw : X.w = w) : OpR X (compareOp .NotIn) (rSInK P w true) := by subst hp hw; exact or_snotinK
theorem k_sinT (h : X.K = K) (hp : X.prog = P) (hw : X.w = w) (hu : X.A.units + 4 < cLine) : OpR X (compareOp .In) (rSInT K P w) := by subst h hp hw; exact or_sinT hu
theorem k_saddK (hp : X.prog = P) (hw : X.w = w) (ho : PE X o to) (ha : PA X (e :: es) t)
    (hbase : attributeBase o "add" X.env (eval o X.env) = eval o X.env := by rfl)
    (hfew : ((backTo cpos (starEach (e :: es) X.env)).all (fun x => !x.1) && (backToKw cpos (keywordEach [] X.env)).all (fun x => x.1.isSome)
      && decide ((e :: es).length + ([] : List Keyword).length + (if ([] : List Keyword).isEmpty then 0 else 1) < 30)) = true := by rfl)
    (hline : (apos.endLine == cpos.line) = true := by rfl) (hs : starEach (e :: es) X.env = (false, eval e X.env) :: starEach es X.env := by rfl) (hplain : (backTo cpos (starEach es X.env)).any (·.1) = false := by rfl) :
    PE X (.Call (.Attribute o "add" apos) (e :: es) [] cpos) (tSAddK P w to t) := by subst hp hw; exact pe_saddK ho ha hbase hfew hline hs hplain
theorem k_saddT (h : X.K = K) (hp : X.prog = P) (hw : X.w = w) (hu : X.A.units + 2 < cLine) (ho : PE X o to) (ha : PA X (e :: es) t)
    (hbase : attributeBase o "add" X.env (eval o X.env) = eval o X.env := by rfl)
    (hfew : ((backTo cpos (starEach (e :: es) X.env)).all (fun x => !x.1) && (backToKw cpos (keywordEach [] X.env)).all (fun x => x.1.isSome)
      && decide ((e :: es).length + ([] : List Keyword).length + (if ([] : List Keyword).isEmpty then 0 else 1) < 30)) = true := by rfl)
    (hline : (apos.endLine == cpos.line) = true := by rfl) (hs : starEach (e :: es) X.env = (false, eval e X.env) :: starEach es X.env := by rfl) (hplain : (backTo cpos (starEach es X.env)).any (·.1) = false := by rfl) :
    PE X (.Call (.Attribute o "add" apos) (e :: es) [] cpos) (tSAddT K P w to t) := by subst h hp hw; exact pe_saddT hu ho ha hbase hfew hline hs hplain
theorem k_pg_unl {es : List Expr} {k : Nat} {t : TGs} {n : Nat} (h : X.K = K) (hc : X.calm = true) (hg : PGs X es t)
    (hn : (assignEach es X.env).length = n := by rfl) (hst : (assignEach es X.env).findIdx? (·.1) = none := by rfl) : PG X (.Tuple es k pos) (gUnl K n t) := h ▸ pg_unl hc hg hn hst
end
/-! a method, a class by their promises -/
def Dm (P : Program) (w : World) (K : PySem.W.Frag) (mg : Str → Option Value) (base : Heap) (CX : CXT) (k : Nat) (C : Addr) (m : Str) (ps : List Str) (sp : Sp) : Prop :=
  ∃ f fd, Meth K C m f ∧ FnOk P w K mg base CX k f fd ps sp ∧ Binds K fd ps []
def Dk (P : Program) (w : World) (K : PySem.W.Frag) (mg : Str → Option Value) (base : Heap) (CX : CXT) (k : Nat) (x : Str) (C : Addr) (ps : List Str) (sp : Sp) : Prop :=
  ∃ f fd, Mk K C f ∧ FnOk P w K mg base CX k f fd ps sp ∧ mg x = some (.ref C) ∧ Binds K fd ps []
section
variable {X : Cx} {CX : CXT} {k k' : Nat} {C : Addr} {ps : List Str} {sp : Sp} {E : XK} {x m : Str} {p pos apos : Pos} {o e : Expr} {es : List Expr} {ta : TE} {t : TA}
theorem pe_dm {pl : Sem Bool} (F : Dm X.prog X.w X.K X.mg X.base CX k C m ps sp) (c : Cls X.K C) (hr : Room k' X.A) (hx : Passes CX X E) (he : PE X o ta) (ha : PA X (e :: es) t) (hk : k ≤ k' := by decide)
    (hst : starEach (e :: es) X.env = (false, eval e X.env) :: starEach es X.env := by rfl) (hpl : (backTo pos (starEach es X.env)).any (·.1) = false := by rfl)
    (ht : eval (.Call (.Attribute o m apos) (e :: es) [] pos) X.env = (do
      let ov ← eval o X.env
      standAt apos.atName
      let (f, first) ← holding [ov] (getMethod ov m pl)
      callWith pos f first (backTo pos (starEach (e :: es) X.env)) (backToKw pos (keywordEach [] X.env))) := by rfl) :
    PE X (.Call (.Attribute o m apos) (e :: es) [] pos) (tMeth C m sp [] E ta t) := by
  obtain ⟨f, fd, hm, F, hb⟩ := F
  exact pe_meth (pl := pl) he c hm F (hr.mono hk) hb .nil hx ha hst hpl ht
theorem pe_dm0 {pl : Sem Bool} (F : Dm X.prog X.w X.K X.mg X.base CX k C m ps sp) (c : Cls X.K C) (hr : Room k' X.A) (hx : Passes CX X E) (he : PE X o ta) (hk : k ≤ k' := by decide)
    (ht : eval (.Call (.Attribute o m apos) [] [] pos) X.env = (do
      let ov ← eval o X.env
      standAt apos.atName
      let (f, first) ← holding [ov] (getMethod ov m pl)
      callWith pos f first (backTo pos (starEach [] X.env)) (backToKw pos (keywordEach [] X.env))) := by rfl) :
    PE X (.Call (.Attribute o m apos) [] [] pos) (tMeth C m sp [] E ta tNil) := by
  obtain ⟨f, fd, hm, F, hb⟩ := F
  exact pe_meth0 (pl := pl) he c hm F (hr.mono hk) hb .nil hx ht
theorem pe_dk (F : Dk X.prog X.w X.K X.mg X.base CX k x C ps sp) (hr : Room k' X.A) (hg : Gl X x) (hx : Passes CX X E) (ha : PA X (e :: es) t) (hk : k + 1 ≤ k' := by decide)
    (hdb : (x == ("__debug__" : Str)) = false := by decide) (he : starEach (e :: es) X.env = (false, eval e X.env) :: starEach es X.env := by rfl) (hpl : (backTo pos (starEach es X.env)).any (·.1) = false := by rfl) :
    PE X (.Call (.Name x p) (e :: es) [] pos) (tMake C sp [] E t) := by
  obtain ⟨f, fd, M, F, hm, hb⟩ := F
  exact pe_make M F (hr.mono hk) hg hm hb .nil hx ha hdb he hpl
end
/-! readings -/
section
variable {K : PySem.W.Frag} {P : Program} {w : World} {σ : L2.St} {H : Hp} {Q : VK} {D : Ends} {ta tv to : TE} {t : TA} {f m : Str} {C a dx : Addr} {sp : Sp} {E : XK} {fs : List (Str × V)} {v : V}
theorem r_fld (h : ta σ H fun x H1 => ∃ a C dx fs v, x = .ref a ∧ H1 a = some (.ins C dx fs) ∧ Cls K C ∧ NoAttr K C f ∧ fs.lookup f = some v ∧ Q v H1) : tFld K ta f σ H Q := h
theorem r_fld' {R : V → Prop} (h : H a = some (.ins C dx fs)) (c : Cls K C) (n : NoAttr K C f) (l : fs.lookup f = some v) (q : R v) : ∃ a' C dx fs v, V.ref a = .ref a' ∧ H a' = some (.ins C dx fs) ∧ Cls K C ∧ NoAttr K C f ∧ fs.lookup f = some v ∧ R v := ⟨a, C, dx, fs, v, rfl, h, c, n, l, q⟩
theorem r_sfld (h : tv σ H fun y H1 => ta σ H1 fun x H2 => ∃ a C dx fs, x = .ref a ∧ H2 a = some (.ins C dx fs) ∧ Cls K C ∧ NoAttr K C f ∧ fs.length < 1000 ∧ D.nx σ (upd H2 a (.ins C dx (putF f y fs)))) : sFld K ta tv f D σ H := h
theorem r_meth (h : ta σ H fun x H1 => ∃ a dx fs, x = .ref a ∧ H1 a = some (.ins C dx fs) ∧ fs.lookup m = none ∧ t σ H1 fun vs H2 => sp (x :: (vs ++ [])) H2 Q E) : tMeth C m sp [] E ta t σ H Q := h
theorem r_meth' {R : V → Prop} (h : H a = some (.ins C dx fs)) (l : fs.lookup m = none) (q : R (.ref a)) : ∃ a' dx fs, V.ref a = .ref a' ∧ H a' = some (.ins C dx fs) ∧ fs.lookup m = none ∧ R (.ref a) := ⟨a, dx, fs, rfl, h, l, q⟩
theorem r_make (h : t σ H fun vs H1 => ∀ x dx, H1 x = none → H1 dx = none → dx ≠ x → sp (.ref x :: (vs ++ [])) (upd (upd H1 dx (.own x)) x (.ins C dx [])) (fun v H2 => v = .non ∧ Q (.ref x) H2) E) : tMake C sp [] E t σ H Q := h
theorem r_saddK (h : to σ H fun x H1 => (∃ a S n, x = V.ref a ∧ H1 a = some (SetK P w a S n)) ∧ t σ H1 fun xs H2 => rSAddK P w x xs H2 Q) : tSAddK P w to t σ H Q := h
theorem r_saddT (h : to σ H fun x H1 => (∃ a L, x = V.ref a ∧ H1 a = some (SetTT P w a L)) ∧ t σ H1 fun xs H2 => rSAddT K P w x xs H2 Q) : tSAddT K P w to t σ H Q := h
theorem r_truth {te : TE} {R : Bool → Hp → Prop} (h : te σ H fun x H' => ∃ k, TruV K x H' k ∧ R k H') : (fun (σ : L2.St) (H : Hp) (Q : Bool → Hp → Prop) => te σ H fun x H' => ∃ k, TruV K x H' k ∧ Q k H') σ H R := h
end
/-! ### readings: a comprehension over a text, a chain, isinstance -/
section
variable {K : PySem.W.Frag} {σ : L2.St} {G H : Hp} {Q : VK} {D : Ends} {te tl ta tb tc : TE} {g : TG} {tt : TT} {vs : List Nat} {r r' : R2} {a tp : Addr} {z : Str} {xs cs : List V}
theorem r_chain (h : ta σ H fun x H1 => tb σ H1 fun y H2 => r x y H2 fun z H3 => ∃ k, z = .bl k ∧ (if k = true then tc σ H3 fun w' H4 => r' y w' H4 Q else Q (.bl false) H3)) : tChain r r' ta tb tc σ H Q := h
theorem r_lcS (h : tl σ H fun x H1 => ∃ z, x = .str z ∧ LcJ g tt te vs σ Q (Its z) H1) : tLc (iStr tl) g tt te vs σ H Q := h
theorem lcS {M : Addr → Prop} (hn : z.cps.size < 2 ^ 20) (g0 : Same G H) (Pv : Nat → List V → Hp → Hp → Prop)
    (h0 : ∀ L, H L = none → Pv 0 [] G (upd H L (.lst [])))
    (hst : ∀ L (i : Nat) (c : Nat) acc G' H' (Em : V → Hp → Prop) (Sk : Hp → Prop), i < z.cps.size → H L = none → H' L = some (.lst acc) → G' L = none → acc.length ≤ i → Stp M G H G' H' → Pv i acc G' H' → z.cps[i]? = some c →
      (∀ y G2 H2, Stp M G H G2 H2 → H2 L = some (.lst acc) → G2 L = none → Pv (i + 1) (acc ++ [y]) G2 (upd H2 L (.lst (acc ++ [y]))) → Em y H2) →
      (∀ G2 H2, Stp M G H G2 H2 → H2 L = some (.lst acc) → G2 L = none → Pv (i + 1) acc G2 H2 → Sk H2) →
      g (.str ⟨#[c]⟩) (wipe σ vs) H' fun σ2 H2 => wipe σ2 vs = wipe σ vs ∧ tt σ2 H2 fun b H3 => if b = true then te σ2 H3 Em else Sk H3)
    (hd : ∀ L acc G' H', H L = none → acc.length ≤ z.cps.size → Stp M G H G' H' → H' L = some (.lst acc) → G' L = none → Pv z.cps.size acc G' H' → Q (.ref L) H') :
    ∃ z', V.str z = .str z' ∧ LcJ g tt te vs σ Q (Its z') H :=
  ⟨z, rfl, lc_by (M := M) (Y := fun i v => ∃ c, z.cps[i]? = some c ∧ v = .str ⟨#[c]⟩) walk_str hn g0 Pv h0 (fun _ _ _ _ _ _ _ => trivial)
    (fun L i x acc G' H' Em Sk h1 h2 h3 h4 h5 h6 h7 h8 h9 h10 => by obtain ⟨c, hc, rfl⟩ := h8; exact hst L i c acc G' H' Em Sk h1 h2 h3 h4 h5 h6 h7 hc h9 h10) hd⟩
theorem kit_same {s : String} : kitB s s = some true := by unfold kitB; rw [if_pos (by rw [show (Value.type s == Value.type s) = true from by simp])]
theorem c_isiS (q : Q (.bl true) H) : rIsi K [.str z, .ty "str"] H Q := ⟨_, _, .type "str", .type "str", true, rfl, .ty _, .base (.str z), kit_ty (by decide +kernel), q⟩
theorem ty_lst (h : SqL K H a xs) : TyX K H (.ref a) (.type "list") := by
  rcases h with h | ⟨o, its, n, h1, h2, _⟩
  · rcases h with h | ⟨o, h⟩
    · exact .base (.lst h)
    · exact .base (.frz h)
  · exact .kList h1 h2
theorem ty_tup (h : SqT K H a xs) : TyX K H (.ref a) (.type "tuple") := by
  rcases h with h | ⟨o, its, n, h1, h2, _⟩
  · rcases h with h | ⟨o, h⟩
    · exact .base (.tup h)
    · exact .fTuple h
  · exact .kTuple h1 h2
/-- isinstance(x, (list, tuple)) of a list or a tuple -/
theorem c_isiLT (h : SqL K H a xs ∨ SqT K H a xs) (hT : H tp = some (.tup [.ty "list", .ty "tuple"])) (q : Q (.bl true) H) : rIsiT K [.ref a, .ref tp] H Q := by
  have hp : Paired ClsV [.ty "list", .ty "tuple"] [Value.type "list", Value.type "tuple"] := .cons (.ty _) (.cons (.ty _) .nil)
  rcases h with h | h
  · exact ⟨_, tp, _, _, _, true, rfl, hT, hp, ty_lst h, kitAny_cons (b := true) (kit_ty (by decide +kernel)) (fun z => by cases z) (fun _ => rfl), q⟩
  · exact ⟨_, tp, _, _, _, true, rfl, hT, hp, ty_tup h, kitAny_cons (b := false) (kit_ty (by decide +kernel)) (fun _ => kitAny_cons (b := true) (kit_ty (by decide +kernel)) (fun z => by cases z) (fun _ => rfl)) (fun z => by cases z), q⟩
theorem c_allB {bs : List Bool} (h : SqL K H a (bs.map V.bl)) (q : Q (.bl (bs.all id)) H) : rAll K [.ref a] H Q := ⟨a, bs, rfl, h, q⟩
/-- a for over a row, list or tuple -/
theorem forQ {p : Addr} {tb : TS} (htl : ∀ R : VK, R (.ref p) H → tl σ H R) (hs : SqL K H p xs ∨ SqT K H p xs) (Pv : Nat → L2.St → Hp → Prop) (h0 : Pv 0 σ H) (hG : ∀ i σ H, i ≤ xs.length → Pv i σ H → SqL K H p xs ∨ SqT K H p xs)
    (hst : ∀ i x σ H, i < xs.length → xs[i]? = some x → Pv i σ H → (SqL K H p xs ∨ SqT K H p xs) → g x σ H fun σ2 H2 => tb { D with nx := Pv (i + 1), ct := Pv (i + 1), bk := D.nx } σ2 H2) (hd : ∀ σ H, Pv xs.length σ H → D.nx σ H)
    (hk : SqL K H p xs → ∀ i σ H', i ≤ xs.length → Pv i σ H' → SqL K H' p xs) (hk' : SqT K H p xs → ∀ i σ H', i ≤ xs.length → Pv i σ H' → SqT K H' p xs) :
    tFor (iEith (iList K tl) (iTup K tl)) g tb D σ H := by
  rcases hs with hs | hs
  · exact .inl (htl _ (loopL hs Pv h0 (hk hs) (fun i x σ H a b c => hst i x σ H a b c (hG i σ H (Nat.le_of_lt a) c)) hd))
  · exact .inr (htl _ (loopT hs Pv h0 (hk' hs) (fun i x σ H a b c => hst i x σ H a b c (hG i σ H (Nat.le_of_lt a) c)) hd))
/-- of a row known beforehand -/
theorem forQ' {p : Addr} {tb : TS} (htl : ∀ R : VK, R (.ref p) H → tl σ H R) (g0 : Same G H) (hs : SqL K G p xs ∨ SqT K G p xs) (Pv : Nat → L2.St → Hp → Prop) (h0 : Pv 0 σ H) (hG : ∀ i σ H, i ≤ xs.length → Pv i σ H → Same G H)
    (hst : ∀ i x σ H, i < xs.length → xs[i]? = some x → Pv i σ H → g x σ H fun σ2 H2 => tb { D with nx := Pv (i + 1), ct := Pv (i + 1), bk := D.nx } σ2 H2) (hd : ∀ σ H, Pv xs.length σ H → D.nx σ H) :
    tFor (iEith (iList K tl) (iTup K tl)) g tb D σ H := by
  rcases hs with hs | hs
  · exact .inl (htl _ (loopL (g0.seq hs) Pv h0 (fun i σ H a b => (hG i σ H a b).seq hs) hst hd))
  · exact .inr (htl _ (loopT (Same.sqt g0 hs) Pv h0 (fun i σ H a b => Same.sqt (hG i σ H a b) hs) hst hd))
end
/-! ### pairs of texts handed in: each a list or a tuple; the lesser ahead -/
def SqQ (K : PySem.W.Frag) (H : Hp) (a : Addr) (xs : List V) : Prop := SqL K H a xs ∨ SqT K H a xs
theorem SqQ.same {K : PySem.W.Frag} {G H : Hp} {a : Addr} {xs : List V} (h : SqQ K G a xs) (g : Same G H) : SqQ K H a xs := h.elim (fun h => .inl (g.seq h)) (fun h => .inr (Same.sqt g h))
def PrsQ (K : PySem.W.Frag) (H : Hp) (xs : List V) (ds : List Dr) : Prop := xs.length = ds.length ∧ ∀ (i : Nat) (d : Dr), ds[i]? = some d → ∃ t, xs[i]? = some (.ref t) ∧ SqQ K H t [.str d.1, .str d.2]
theorem PrsQ.same {K : PySem.W.Frag} {G H : Hp} {xs : List V} {ds : List Dr} (h : PrsQ K G xs ds) (g : Same G H) : PrsQ K H xs ds :=
  ⟨h.1, fun i d e => by obtain ⟨t, e1, e2⟩ := h.2 i d e; exact ⟨t, e1, e2.same g⟩⟩
theorem PrsT.same {K : PySem.W.Frag} {G H : Hp} {xs : List V} {ds : List Dr} (h : PrsT K G xs ds) (g : Same G H) : PrsT K H xs ds :=
  ⟨h.1, fun i d e => by obtain ⟨t, e1, e2⟩ := h.2 i d e; exact ⟨t, e1, Same.sqt g e2⟩⟩
theorem PrsQ.nil {K : PySem.W.Frag} {H : Hp} : PrsQ K H [] [] := ⟨rfl, fun i d h => by simp at h⟩
theorem PrsT.nil {K : PySem.W.Frag} {H : Hp} : PrsT K H [] [] := ⟨rfl, fun i d h => by simp at h⟩
theorem snoc_at {α : Type} {l : List α} {x d : α} {i : Nat} (h : (l ++ [x])[i]? = some d) : l[i]? = some d ∧ i < l.length ∨ i = l.length ∧ d = x := by
  by_cases hl : i < l.length
  · rw [List.getElem?_append_left hl] at h
    exact .inl ⟨h, hl⟩
  · rw [List.getElem?_append_right (by omega)] at h
    have e0 : i - l.length = 0 := by
      rcases Nat.eq_zero_or_pos (i - l.length) with z | z
      · exact z
      · rw [List.getElem?_eq_none (by simp; omega)] at h; cases h
    rw [e0] at h
    exact .inr ⟨by omega, (Option.some.inj h).symm⟩
theorem PrsQ.snoc {K : PySem.W.Frag} {H : Hp} {xs : List V} {ds : List Dr} {t : Addr} {d : Dr} (h : PrsQ K H xs ds) (e : SqQ K H t [.str d.1, .str d.2]) : PrsQ K H (xs ++ [.ref t]) (ds ++ [d]) := by
  refine ⟨by rw [List.length_append, List.length_append, h.1]; rfl, fun i d' hi => ?_⟩
  rcases snoc_at hi with ⟨h1, h2⟩ | ⟨rfl, rfl⟩
  · obtain ⟨t', e1, e2⟩ := h.2 i d' h1
    exact ⟨t', by rw [List.getElem?_append_left (by rw [h.1]; exact h2)]; exact e1, e2⟩
  · exact ⟨t, by rw [List.getElem?_append_right (by rw [h.1]; exact Nat.le_refl _), h.1, Nat.sub_self]; rfl, e⟩
theorem PrsT.snoc {K : PySem.W.Frag} {H : Hp} {xs : List V} {ds : List Dr} {t : Addr} {d : Dr} (h : PrsT K H xs ds) (e : SqT K H t [.str d.1, .str d.2]) : PrsT K H (xs ++ [.ref t]) (ds ++ [d]) := by
  refine ⟨by rw [List.length_append, List.length_append, h.1]; rfl, fun i d' hi => ?_⟩
  rcases snoc_at hi with ⟨h1, h2⟩ | ⟨rfl, rfl⟩
  · obtain ⟨t', e1, e2⟩ := h.2 i d' h1
    exact ⟨t', by rw [List.getElem?_append_left (by rw [h.1]; exact h2)]; exact e1, e2⟩
  · exact ⟨t, by rw [List.getElem?_append_right (by rw [h.1]; exact Nat.le_refl _), h.1, Nat.sub_self]; rfl, e⟩
def ris (d : Dr) : Dr := (if ltS d.2 d.1 = true then d.2 else d.1, if ltS d.1 d.2 = true then d.2 else d.1)
def kD (d : Dr) : List Key := [.inr d.1, .inr d.2]
theorem kD_inj {d e : Dr} (h : kD d = kD e) : d = e := by
  unfold kD at h
  injection h with h1 h2
  injection h2 with h2 _
  exact Prod.ext (Sum.inr.inj h1) (Sum.inr.inj h2)
theorem lt_u4 {n : Nat} (h : n + 64 < cLine) : n + 4 < cLine := by omega
theorem lt_u2 {n : Nat} (h : n + 64 < cLine) : n + 2 < cLine := by omega
section
variable {K : PySem.W.Frag} {H : Hp} {Q : VK} {p : Addr} {xs : List V} {v : V} {i : Int} {n : Nat} {zs : List Str} {z : Str}
theorem r_inQ (h : SqQ K H p (zs.map V.str)) (q : Q (.bl (decide (z ∈ zs))) H) : rIn K false (.str z) (.ref p) H Q := h.elim (fun h => r_inL h q) (fun h => r_inT h q)
theorem c_minS {a b : Str} (q : Q (.str (if ltS b a = true then b else a)) H) : kMinS [.str a, .str b] H Q := ⟨a, b, rfl, q⟩
theorem c_maxS {a b : Str} (q : Q (.str (if ltS a b = true then b else a)) H) : kMaxS [.str a, .str b] H Q := ⟨a, b, rfl, q⟩
end
/-! ### dicts by names; a dict comprehension over names -/
def kvs (rs : List Str) (vs : List V) : List (Key × V) := (rs.zip vs).map fun p => (.inr p.1, p.2)
theorem kvs_snoc {rs : List Str} {vs : List V} {z : Str} {y : V} (h : vs.length = rs.length) : kvs (rs ++ [z]) (vs ++ [y]) = kvs rs vs ++ [(.inr z, y)] := by
  unfold kvs
  rw [List.zip_append h.symm, List.map_append]
  rfl
theorem kvs_put {rs : List Str} {vs : List V} {z : Str} {y : V} (hz : z ∉ rs) : putK (kvs rs vs) (.inr z : Key) y = kvs rs vs ++ [(.inr z, y)] := by
  unfold putK
  rw [if_neg]
  intro h
  obtain ⟨p, hp, e⟩ := List.any_eq_true.mp h
  obtain ⟨q, hq, rfl⟩ := List.mem_map.mp hp
  have e' := Sum.inr.inj (of_decide_eq_true e)
  exact hz (e' ▸ (List.of_mem_zip hq).1)
theorem kvs_len {rs : List Str} {vs : List V} (h : vs.length = rs.length) : (kvs rs vs).length = rs.length := by unfold kvs; rw [List.length_map, List.length_zip, h, Nat.min_self]
theorem kvs_get : ∀ {rs : List Str} {vs : List V} {i : Nat} {z : Str} {v : V}, rs.Nodup → rs[i]? = some z → vs[i]? = some v → valV (kvs rs vs) (.inr z : Key) = some v
  | [], _, i, z, v, _, h, _ => by simp at h
  | r :: rs, [], i, z, v, _, _, h => by simp at h
  | r :: rs, u :: vs, 0, z, v, _, h1, h2 => by
    cases Option.some.inj h1
    cases Option.some.inj h2
    exact valV_pos rfl
  | r :: rs, u :: vs, i + 1, z, v, hn, h1, h2 => by
    have h1' : rs[i]? = some z := h1
    have hne : r ≠ z := fun e => (List.nodup_cons.mp hn).1 (e ▸ List.mem_of_getElem? h1')
    exact (valV_neg (kne hne)).trans (kvs_get (List.nodup_cons.mp hn).2 h1' h2)
theorem take_nodup_not {α : Type} {l : List α} (h : l.Nodup) {i : Nat} {z : α} (e : l[i]? = some z) : z ∉ l.take i := by
  intro m
  obtain ⟨j, hj, ej⟩ := List.mem_iff_getElem.mp m
  rw [List.length_take] at hj
  rw [List.getElem_take] at ej
  have hi : i < l.length := (List.getElem?_eq_some_iff.mp e).1
  have ei := (List.getElem?_eq_some_iff.mp e).2
  have := (List.getElem_inj (h₀ := by omega) (h₁ := hi) h).mp (ej.trans ei.symm)
  omega
section
variable {K : PySem.W.Frag} {σ : L2.St} {G H : Hp} {Q : VK} {tl tk tv : TE} {g : TG} {tt : TT} {own : List Nat} {p : Addr} {rs : List Str} {M : Addr → Prop}
theorem dcN (htl : ∀ R : VK, R (.ref p) H → tl σ H R) (hs : SqT K G p (rs.map V.str)) (hnd : rs.Nodup) (hl : rs.length < 64) (g0 : Same G H) (Pv : Nat → List V → Hp → Hp → Prop)
    (h0 : ∀ D, H D = none → Pv 0 [] G (upd H D (.dK [])))
    (hst : ∀ D i z vs G' H' (Em : V → V → Hp → Prop) (Sk : Hp → Prop), rs[i]? = some z → H D = none → H' D = some (.dK (kvs (rs.take i) vs)) → G' D = none → vs.length = i → Stp M G H G' H' → Pv i vs G' H' →
      (∀ y G2 H2, Stp M G H G2 H2 → H2 D = some (.dK (kvs (rs.take i) vs)) → G2 D = none → Pv (i + 1) (vs ++ [y]) G2 (upd H2 D (.dK (kvs (rs.take (i + 1)) (vs ++ [y])))) → Em (.str z) y H2) →
      g (.str z) (wipe σ own) H' fun σ2 H2 => wipe σ2 own = wipe σ own ∧ tt σ2 H2 fun b H3 => if b = true then tk σ2 H3 fun y H4 => tv σ2 H4 fun v H5 => Em y v H5 else Sk H3)
    (hd : ∀ D vs G' H', H D = none → vs.length = rs.length → Stp M G H G' H' → H' D = some (.dK (kvs rs vs)) → G' D = none → Pv rs.length vs G' H' → Q (.ref D) H') :
    tDc (iTup K tl) g tt tk tv own σ H Q := by
  refine htl _ ⟨p, rfl, ⟨_, Same.sqt g0 hs⟩, fun D hD => ?_⟩
  refine dc_tup (xs := rs.map V.str) (fun i H' => ∃ vs G', vs.length = i ∧ H' D = some (.dK (kvs (rs.take i) vs)) ∧ G' D = none ∧ Stp M G H G' H' ∧ Pv i vs G' H') ⟨[], G, rfl, upd_same, none_of g0 hD, Stp.newM g0 hD, h0 D hD⟩
    (fun i H' _ pv => ?_) (fun i x H' hx pv => ?_) (fun H' pv => ?_)
  · obtain ⟨_, G', _, _, _, st, _⟩ := pv
    exact Same.sqt (st.gg.trans st.gh) hs
  · obtain ⟨vs, G', hv, hDk, gD, st, pv⟩ := pv
    obtain ⟨z, hz, rfl⟩ := map_get hx
    have hi : i < rs.length := (List.getElem?_eq_some_iff.mp hz).1
    have htl2 : (rs.take i).length = i := by rw [List.length_take]; omega
    refine hst D i z vs G' H' _ _ hz hD hDk gD hv st pv (fun y G2 H2 st2 hD2 gD2 pv2 => ?_)
    refine ⟨_, .inr z, rfl, hD2, by rw [kvs_len (by rw [hv, htl2])]; rw [htl2, sizeLine_eq]; omega, ?_⟩
    rw [kvs_put (take_nodup_not hnd hz), ← kvs_snoc (by rw [hv, htl2]), ← take_succ_get hz]
    refine ⟨vs ++ [y], G2, by rw [List.length_append, hv]; rfl, upd_same, gD2, ?_, pv2⟩
    exact ⟨fun a o m z => by rw [upd_ne (ne_of_none z hD)]; exact st2.up a o m z, st2.gg, fun a o z => by rw [upd_ne (ne_of_none z gD2)]; exact st2.gh a o z, st2.fr, fun a o z => by rw [upd_ne (ne_of_none z hD)]; exact st2.th a o z⟩
  · obtain ⟨vs, G', hv, hDk, gD, st, pv⟩ := pv
    rw [List.length_map] at hv hDk pv
    rw [List.take_length] at hDk
    exact hd D vs G' H' hD hv st hDk gD pv
end
/-! ### who is beside whom; three each to each; the lesser ahead -/
theorem str_of_list {a b : Str} (h : a.cps.toList = b.cps.toList) : a = b := by
  cases a with
  | mk a => cases b with
    | mk b => exact congrArg Str.mk (Array.ext' h)
theorem ltS_asymm {a b : Str} (h : ltS a b = true) : ltS b a = false := by
  unfold ltS at h ⊢
  exact decide_eq_false (List.lt_asymm (of_decide_eq_true h))
theorem ltS_tri {a b : Str} (h1 : ltS a b = false) (h2 : ltS b a = false) : a = b := by
  unfold ltS at h1 h2
  exact str_of_list (List.le_antisymm (of_decide_eq_false h2) (of_decide_eq_false h1))
theorem ris_or {d : Dr} (h : d.1 ≠ d.2) : ris d = d ∨ ris d = (d.2, d.1) := by
  unfold ris
  cases h1 : ltS d.2 d.1 <;> cases h2 : ltS d.1 d.2
  · exact absurd (ltS_tri h2 h1) h
  · exact .inl rfl
  · exact .inr rfl
  · rw [ltS_asymm h1] at h2; cases h2
def Loopless (ds : List Dr) : Prop := ∀ d ∈ ds, d.1 ≠ d.2
theorem mem_nb {ds : List Dr} (hl : Loopless ds) {x z : Str} : z ∈ nb ds x ↔ (x, z) ∈ ds ∨ (z, x) ∈ ds := by
  unfold nb
  rw [List.mem_map]
  constructor
  · rintro ⟨d, hd, rfl⟩
    obtain ⟨hd2, hh⟩ := List.mem_filter.mp hd
    unfold oth
    by_cases c : d.1 = x
    · rw [if_pos c]
      subst c
      exact .inl hd2
    · rw [if_neg c]
      unfold hasD at hh
      rw [decide_eq_false c, Bool.false_or] at hh
      have e := of_decide_eq_true hh
      subst e
      exact .inr hd2
  · rintro (h | h)
    · exact ⟨(x, z), List.mem_filter.mpr ⟨h, by unfold hasD; simp⟩, by unfold oth; rw [if_pos rfl]⟩
    · exact ⟨(z, x), List.mem_filter.mpr ⟨h, by unfold hasD; simp⟩, by unfold oth; rw [if_neg (hl _ h)]⟩
theorem mem_ris {ds : List Dr} (hl : Loopless ds) {x z : Str} : ((x, z) ∈ ds.map ris ∨ (z, x) ∈ ds.map ris) ↔ ((x, z) ∈ ds ∨ (z, x) ∈ ds) := by
  have key : ∀ x z, (x, z) ∈ ds.map ris → ((x, z) ∈ ds ∨ (z, x) ∈ ds) := fun x z h => by
    obtain ⟨d, hd, e⟩ := List.mem_map.mp h
    rcases ris_or (hl d hd) with h | h
    · rw [← e, h]; exact .inl hd
    · rw [h] at e
      cases e
      exact .inr hd
  have back : ∀ x z, (x, z) ∈ ds → ((x, z) ∈ ds.map ris ∨ (z, x) ∈ ds.map ris) := fun x z h => by
    rcases ris_or (hl _ h) with e | e
    · exact .inl (List.mem_map.mpr ⟨_, h, e⟩)
    · exact .inr (List.mem_map.mpr ⟨_, h, e⟩)
  constructor
  · rintro (h | h)
    · exact key _ _ h
    · exact (key _ _ h).symm
  · rintro (h | h)
    · exact back _ _ h
    · exact (back _ _ h).symm
theorem loopless_ris {ds : List Dr} (hl : Loopless ds) : Loopless (ds.map ris) := fun d hd => by
  obtain ⟨e, he, rfl⟩ := List.mem_map.mp hd
  rcases ris_or (hl e he) with h | h
  · rw [h]; exact hl e he
  · rw [h]; exact (hl e he).symm
theorem nb_ris {ds : List Dr} (hl : Loopless ds) {x z : Str} : z ∈ nb (ds.map ris) x ↔ z ∈ nb ds x := by
  rw [mem_nb hl, mem_nb (loopless_ris hl), mem_ris hl]
theorem nb_perm {ds es : List Dr} (h : es.Perm ds) (x : Str) : (nb es x).Perm (nb ds x) := (h.filter _).map _
theorem Loopless.perm {ds es : List Dr} (h : es.Perm ds) (hl : Loopless ds) : Loopless es := fun d hd => hl d (h.mem_iff.mp hd)
/-- no three with doors each to each -/
def NoTri (ds : List Dr) : Prop := ∀ a b c, b ∈ nb ds a → c ∈ nb ds b → c ∉ nb ds a
theorem NoTri.of {ds es : List Dr} (h : NoTri ds) (e : ∀ x z, z ∈ nb es x → z ∈ nb ds x) : NoTri es := fun a b c h1 h2 h3 => h a b c (e _ _ h1) (e _ _ h2) (e _ _ h3)
theorem nb_sym {ds : List Dr} (hl : Loopless ds) {x z : Str} (h : z ∈ nb ds x) : x ∈ nb ds z := (mem_nb hl).mpr ((mem_nb hl).mp h).symm
theorem nb_irr {ds : List Dr} (hl : Loopless ds) {x : Str} : x ∉ nb ds x := fun h => by
  rcases (mem_nb hl).mp h with h | h
  · exact hl _ h rfl
  · exact hl _ h rfl
theorem nb_less {ds es : List Dr} (h : ∀ d ∈ es, d ∈ ds) (hl : Loopless ds) {x z : Str} (m : z ∈ nb es x) : z ∈ nb ds x :=
  (mem_nb hl).mpr (((mem_nb (fun d hd => hl d (h d hd))).mp m).imp (h _) (h _))
/-- one door more -/
theorem tri_add {R : Str → Str → Prop} (sym : ∀ x y, R x y → R y x) (irr : ∀ x, ¬ R x x) (nt : ∀ x y z, R x y → R y z → ¬ R x z) {a b : Str} (hab : a ≠ b) (hc : ∀ r, R a r → ¬ R b r) (x y z : Str)
    (h1 : R x y ∨ (x = a ∧ y = b) ∨ (x = b ∧ y = a)) (h2 : R y z ∨ (y = a ∧ z = b) ∨ (y = b ∧ z = a)) (h3 : R x z ∨ (x = a ∧ z = b) ∨ (x = b ∧ z = a)) : False := by
  rcases h1 with h1 | ⟨e1, e2⟩ | ⟨e1, e2⟩ <;> rcases h2 with h2 | ⟨e3, e4⟩ | ⟨e3, e4⟩ <;> rcases h3 with h3 | ⟨e5, e6⟩ | ⟨e5, e6⟩ <;> subst_vars <;>
    first
    | exact nt _ _ _ h1 h2 h3
    | exact hc _ h3 h2
    | exact hc _ h2 h3
    | exact hc _ (sym _ _ h2) (sym _ _ h1)
    | exact hc _ (sym _ _ h1) (sym _ _ h2)
    | exact hc _ h1 (sym _ _ h2)
    | exact hc _ (sym _ _ h2) h1
    | exact hc _ h1 (sym _ _ h3)
    | exact hc _ (sym _ _ h3) h1
    | exact hc _ (sym _ _ h3) (sym _ _ h1)
    | exact hc _ (sym _ _ h1) (sym _ _ h3)
    | exact hc _ (sym _ _ h1) h3
    | exact hc _ h3 (sym _ _ h1)
    | exact hc _ (sym _ _ h1) h2
    | exact hc _ h2 (sym _ _ h1)
    | exact absurd rfl hab
    | exact irr _ h1 | exact irr _ h2 | exact irr _ h3
    | exact absurd (by assumption) hab | exact absurd (Eq.symm (by assumption)) hab
/-! the class House, a house -/
structure HouseC (K : PySem.W.Frag) (mg : Str → Option Value) (C : Addr) : Prop where
  g : mg "House" = some (.ref C)
  cl : Cls K C
  n1 : NoAttr K C "_rooms"
  n2 : NoAttr K C "_doors"
  n3 : NoAttr K C "_near"
abbrev hfs (r d N : Addr) : List (Str × V) := [("_rooms", .ref r), ("_doors", .ref d), ("_near", .ref N)]
theorem hfs_r {r d N : Addr} : (hfs r d N).lookup ("_rooms" : Str) = some (V.ref r) := by rfl
theorem hfs_d {r d N : Addr} : (hfs r d N).lookup ("_doors" : Str) = some (V.ref d) := by rfl
theorem hfs_n {r d N : Addr} : (hfs r d N).lookup ("_near" : Str) = some (V.ref N) := by rfl
section
variable {K : PySem.W.Frag} {mg : Str → Option Value} {C a : Addr} {H : Hp} {dx : Addr} {r d N : Addr} {R : V → Prop}
theorem hf_r (Z : HouseC K mg C) (h : H a = some (.ins C dx (hfs r d N))) (q : R (.ref r)) : ∃ a' C dx fs v, V.ref a = .ref a' ∧ H a' = some (.ins C dx fs) ∧ Cls K C ∧ NoAttr K C "_rooms" ∧ fs.lookup ("_rooms" : Str) = some v ∧ R v := r_fld' h Z.cl Z.n1 hfs_r q
theorem hf_d (Z : HouseC K mg C) (h : H a = some (.ins C dx (hfs r d N))) (q : R (.ref d)) : ∃ a' C dx fs v, V.ref a = .ref a' ∧ H a' = some (.ins C dx fs) ∧ Cls K C ∧ NoAttr K C "_doors" ∧ fs.lookup ("_doors" : Str) = some v ∧ R v := r_fld' h Z.cl Z.n2 hfs_d q
theorem hf_n (Z : HouseC K mg C) (h : H a = some (.ins C dx (hfs r d N))) (q : R (.ref N)) : ∃ a' C dx fs v, V.ref a = .ref a' ∧ H a' = some (.ins C dx fs) ∧ Cls K C ∧ NoAttr K C "_near" ∧ fs.lookup ("_near" : Str) = some v ∧ R v := r_fld' h Z.cl Z.n3 hfs_n q
end
/-! ### rows of texts or pairs of texts: held against the empty one; pop at a place -/
def ItOk (K : PySem.W.Frag) (G : Hp) (v : V) : Prop := (∃ z, v = .str z ∧ SOk z) ∨ ∃ (t : Addr) (d : Dr), v = .ref t ∧ SqT K G t [.str d.1, .str d.2] ∧ SOk d.1 ∧ SOk d.2
theorem ItOk.same {K : PySem.W.Frag} {G H : Hp} {v : V} (h : ItOk K G v) (g : Same G H) : ItOk K H v := by
  rcases h with ⟨z, e, s⟩ | ⟨t, d, e, q, s⟩
  · exact .inl ⟨z, e, s⟩
  · exact .inr ⟨t, d, e, Same.sqt g q, s⟩
theorem it_data {K : PySem.W.Frag} {H : Hp} {v : V} (h : ItOk K H v) : ∃ d, Dp K H v d ∧ d.canLay0 = true ∧ d.depth ≤ 2 := by
  rcases h with ⟨z, rfl, s⟩ | ⟨t, d, rfl, q, s1, s2⟩
  · exact ⟨.str z, .str z, s, by simp [PyData.depth]⟩
  · have q' : SqT K H t (([d.1, d.2] : List Str).map V.str) := q
    refine ⟨.tuple (([d.1, d.2] : List Str).map PyData.str), .tup q' (dp_strs _), ?_, ?_⟩
    · have h := sh_tup (ns := [d.1, d.2]) (fun z hz => by rcases List.mem_cons.mp hz with rfl | hz; exact s1; rw [List.mem_singleton.mp hz]; exact s2)
      exact SeqAt.canLay_of_shaped h
    · simp [PyData.depth, PyData.depthAll]
theorem its_data {K : PySem.W.Frag} {H : Hp} : ∀ xs : List V, (∀ v ∈ xs, ItOk K H v) → ∃ ds, DpAll K H xs ds ∧ PyData.canLayAll0 ds = true ∧ PyData.depthAll ds ≤ 3
  | [], _ => ⟨[], .nil, rfl, by simp [PyData.depthAll]⟩
  | v :: r, h => by
    obtain ⟨d, h1, h2, h3⟩ := it_data (h v List.mem_cons_self)
    obtain ⟨ds, g1, g2, g3⟩ := its_data r fun y hy => h y (List.mem_cons_of_mem _ hy)
    exact ⟨d :: ds, .cons h1 g1, by simp [PyData.canLayAll0, h2, g2], by simp only [PyData.depthAll]; omega⟩
section
variable {K : PySem.W.Frag} {H : Hp} {Q : VK} {p q : Addr} {xs : List V} {y : V} {d : Nat} {i : Int}
theorem r_neNil (h : SqL K H p xs) (hx : ∀ v ∈ xs, ItOk K H v) (h' : SqL K H q []) (k : Q (.bl (!xs.isEmpty)) H) : rNeD K (.ref p) (.ref q) H Q := by
  obtain ⟨ds, h1, h2, h3⟩ := its_data xs hx
  refine ⟨.list ds, .list [], .lst h h1, .lst h' .nil, ?_, rfl, ?_⟩
  · unfold SeqAt.shaped
    rw [show (PyData.list ds).canLay0 = PyData.canLayAll0 ds from by simp [PyData.canLay0], h2, Bool.true_and]
    exact decide_eq_true (by simp only [PyData.depth]; omega)
  · have e : PyData.eqv (.list ds) (.list []) = xs.isEmpty := by
      cases h1 with
      | nil => rfl
      | cons _ _ => simp [PyData.eqv, PyData.eqvAll]
    rw [e]
    exact k
theorem c_popAt {l : Addr} (h : H l = some (.lst xs)) (e : i = (d : Int)) (hd : xs[d]? = some y) (hz : xs.length < 1000) (k : Q y (upd H l (.lst (xs.eraseIdx d)))) : rPopAt (.ref l) [.int i] H Q := by
  subst e
  have hl : d < xs.length := (List.getElem?_eq_some_iff.mp hd).1
  exact ⟨l, xs, d, d, y, rfl, rfl, h, by omega, by omega, by
    have e := PySem.seqIndex_of (k := (d : Int)) (n := xs.length) (by omega) (by omega)
    rw [e, Int.toNat_natCast], hd, k⟩
theorem erase_perm {α : Type} {l : List α} {d : Nat} {y : α} (h : l[d]? = some y) : (y :: l.eraseIdx d).Perm l := by
  obtain ⟨hl, e⟩ := List.getElem?_eq_some_iff.mp h
  rw [List.eraseIdx_eq_take_drop_succ]
  have h2 : l = l.take d ++ y :: l.drop (d + 1) := by
    rw [← e, ← List.drop_eq_getElem_cons hl, List.take_append_drop]
  exact (List.perm_middle.symm).trans (by rw [← h2])
end
theorem perm_map {α β : Type} (f : α → β) {ys zs : List β} (h : ys.Perm zs) : ∀ l : List α, zs = l.map f → ∃ l' : List α, l'.Perm l ∧ ys = l'.map f := by
  induction h with
  | nil => intro l e; exact ⟨[], by rw [List.map_eq_nil_iff.mp e.symm], rfl⟩
  | cons x _ ih =>
    intro l e
    cases l with
    | nil => cases e
    | cons a l0 =>
      rw [List.map_cons] at e
      injection e with e1 e2
      obtain ⟨l', h1, h2⟩ := ih l0 e2
      exact ⟨a :: l', h1.cons a, by rw [List.map_cons, e1, h2]⟩
  | swap x y r =>
    intro l e
    match l, e with
    | a :: b :: l0, e =>
      simp only [List.map_cons, List.cons.injEq] at e
      exact ⟨b :: a :: l0, .swap a b l0, by simp only [List.map_cons]; rw [e.1, e.2.1, e.2.2]⟩
  | trans _ _ ih1 ih2 =>
    intro l e
    obtain ⟨l1, h1, e1⟩ := ih2 l e
    obtain ⟨l2, h2, e2⟩ := ih1 l1 e1
    exact ⟨l2, h2.trans h1, e2⟩
theorem prs_perm {K : PySem.W.Frag} {G : Hp} {xs ys : List V} {ds : List Dr} (h : PrsT K G xs ds) (p : ys.Perm xs) : ∃ ds', PrsT K G ys ds' ∧ ds'.Perm ds := by
  have hm : (xs.zip ds).map Prod.fst = xs := List.map_fst_zip (by rw [h.1]; exact Nat.le_refl _)
  have hm2 : (xs.zip ds).map Prod.snd = ds := List.map_snd_zip (by rw [h.1]; exact Nat.le_refl _)
  obtain ⟨l', h1, e1⟩ := perm_map Prod.fst p (xs.zip ds) hm.symm
  have hz : ∀ q ∈ l', ∃ t, q.1 = V.ref t ∧ SqT K G t [.str q.2.1, .str q.2.2] := fun q hq => by
    have hq' := h1.mem_iff.mp hq
    obtain ⟨i, hi, e⟩ := List.getElem_of_mem hq'
    rw [List.length_zip] at hi
    rw [List.getElem_zip] at e
    obtain ⟨t, a1, a2⟩ := h.2 i ds[i] (List.getElem?_eq_getElem (by omega))
    rw [List.getElem?_eq_getElem (by omega)] at a1
    subst e
    exact ⟨t, Option.some.inj a1, a2⟩
  refine ⟨l'.map Prod.snd, ⟨by rw [e1, List.length_map, List.length_map], fun i d hd => ?_⟩, by rw [← hm2]; exact h1.map _⟩
  rw [List.getElem?_map] at hd
  cases hq : l'[i]? with
  | none => rw [hq] at hd; cases hd
  | some q =>
    rw [hq] at hd
    cases Option.some.inj hd
    obtain ⟨t, a1, a2⟩ := hz q (List.mem_of_getElem? hq)
    exact ⟨t, by rw [e1, List.getElem?_map, hq, ← a1]; rfl, a2⟩
theorem ris_swap (d : Dr) : ris (d.2, d.1) = ris d := by
  unfold ris
  cases h1 : ltS d.1 d.2 <;> cases h2 : ltS d.2 d.1
  · have e := ltS_tri h1 h2
    simp [h1, h2, e]
  · simp [h1, h2]
  · simp [h1, h2]
  · rw [ltS_asymm h1] at h2; cases h2
theorem DrAll.prs {K : PySem.W.Frag} {G : Hp} {xs : List V} {ds : List Dr} (h : DrAll G xs ds) : PrsT K G xs ds :=
  ⟨h.1, fun i d e => by obtain ⟨t, o, h1, h2, _⟩ := h.2 i d e; exact ⟨t, h1, .inl (.inr ⟨o, h2⟩)⟩⟩
/-! ### how few steps: by levels -/
def kvN (fs : List (Str × Nat)) : List (Key × V) := fs.map fun p => (.inr p.1, .int (p.2 : Int))
theorem kvN_len (fs : List (Str × Nat)) : (kvN fs).length = fs.length := by unfold kvN; rw [List.length_map]
theorem kvN_none : ∀ {fs : List (Str × Nat)} {z : Str}, z ∉ fs.map Prod.fst → valV (kvN fs) (.inr z : Key) = none
  | [], z, _ => rfl
  | p :: r, z, h => by
    rw [List.map_cons, List.mem_cons, not_or] at h
    exact (valV_neg (kne (fun e => h.1 e.symm))).trans (kvN_none h.2)
theorem kvN_get : ∀ {fs : List (Str × Nat)} {z : Str} {n : Nat}, (fs.map Prod.fst).Nodup → (z, n) ∈ fs → valV (kvN fs) (.inr z : Key) = some (.int (n : Int))
  | p :: r, z, n, hn, h => by
    rcases List.mem_cons.mp h with e | h
    · rw [← e]; exact valV_pos rfl
    · have h1 : z ∈ r.map Prod.fst := List.mem_map.mpr ⟨_, h, rfl⟩
      rw [List.map_cons, List.nodup_cons] at hn
      exact (valV_neg (kne (fun (e : p.1 = z) => hn.1 (by rw [e]; exact h1)))).trans (kvN_get hn.2 h)
theorem kvN_put {fs : List (Str × Nat)} {z : Str} {n : Nat} (h : z ∉ fs.map Prod.fst) : putK (kvN fs) (.inr z : Key) (.int (n : Int)) = kvN (fs ++ [(z, n)]) := by
  rw [L2.putK_new _ (kvN_none h)]
  unfold kvN
  rw [List.map_append]
  rfl
theorem nd_le2 : ∀ {xs L : List Str}, xs.Nodup → (∀ z ∈ xs, z ∈ L) → xs.length ≤ L.length
  | [], _, _, _ => Nat.zero_le _
  | x :: xs, L, h, s => by
    have hx := s x List.mem_cons_self
    have h1 := List.nodup_cons.mp h
    have h2 : xs.length ≤ (L.erase x).length := nd_le2 h1.2 (fun z hz => by
      have hne : z ≠ x := fun e => h1.1 (by rw [← e]; exact hz)
      exact (List.mem_erase_of_ne hne).mpr (s z (List.mem_cons_of_mem _ hz)))
    have h3 := List.length_erase_of_mem hx
    have h4 := List.length_pos_of_mem hx
    rw [List.length_cons]
    omega
/-- z is n steps from b, by some way -/
inductive Wn (ds : List Dr) (b : Str) : Nat → Str → Prop where
  | zero : Wn ds b 0 b
  | succ {n : Nat} {x z : Str} : Wn ds b n x → z ∈ nb ds x → Wn ds b (n + 1) z
theorem Wn.inn {ds : List Dr} {rs : List Str} {b z : Str} {n : Nat} (hb : b ∈ rs) (hn : ∀ x z, z ∈ nb ds x → z ∈ rs) (h : Wn ds b n z) : z ∈ rs := by
  cases h with
  | zero => exact hb
  | succ _ h => exact hn _ _ h
structure Spans (ds : List Dr) (b : Str) (fs : List (Str × Nat)) : Prop where
  nd : (fs.map Prod.fst).Nodup
  val : ∀ z n, (z, n) ∈ fs → Wn ds b n z ∧ ∀ m, Wn ds b m z → n ≤ m
  all : ∀ m z, Wn ds b m z → z ∈ fs.map Prod.fst
structure Bfs (ds : List Dr) (b : Str) (k : Nat) (fs : List (Str × Nat)) (edge : List Str) : Prop where
  nd : (fs.map Prod.fst).Nodup
  val : ∀ z n, (z, n) ∈ fs → Wn ds b n z ∧ n ≤ k ∧ ∀ m, Wn ds b m z → n ≤ m
  all : ∀ m z, m ≤ k → Wn ds b m z → z ∈ fs.map Prod.fst
  edge : ∀ z, z ∈ edge ↔ (z, k) ∈ fs
theorem Bfs.start (ds : List Dr) (b : Str) : Bfs ds b 0 [(b, 0)] [b] := by
  refine ⟨by simp, fun z n h => ?_, fun m z hm h => ?_, fun z => ?_⟩
  · rw [List.mem_singleton] at h
    cases h
    exact ⟨.zero, Nat.le_refl _, fun m _ => Nat.zero_le m⟩
  · cases h with
    | zero => simp
    | succ _ _ => omega
  · simp
theorem Bfs.done {ds : List Dr} {b : Str} {k : Nat} {fs : List (Str × Nat)} (h : Bfs ds b k fs []) : Spans ds b fs := by
  refine ⟨h.nd, fun z n hz => ⟨(h.val z n hz).1, (h.val z n hz).2.2⟩, fun m z hw => ?_⟩
  induction hw with
  | zero => exact h.all 0 b (Nat.zero_le _) .zero
  | succ hx hz ih =>
    obtain ⟨p, hp, e⟩ := List.mem_map.mp ih
    obtain ⟨x', n⟩ := p
    cases e
    have hv := h.val _ _ hp
    have hne : n ≠ k := fun e => by
      have := (h.edge _).mpr (e ▸ hp)
      cases this
    exact h.all (n + 1) _ (by omega) (.succ hv.1 hz)
/-- amid a level: more were found, all beside the ones ahead -/
structure Mid (ds : List Dr) (k : Nat) (fs0 : List (Str × Nat)) (edge : List Str) (fs : List (Str × Nat)) (ahead : List Str) : Prop where
  eq : fs = fs0 ++ ahead.map fun z => (z, k + 1)
  nd : (fs.map Prod.fst).Nodup
  by_ : ∀ a ∈ ahead, ∃ x ∈ edge, a ∈ nb ds x
theorem Mid.start {ds : List Dr} {b : Str} {k : Nat} {fs : List (Str × Nat)} {edge : List Str} (h : Bfs ds b k fs edge) : Mid ds k fs edge fs [] :=
  ⟨by simp, h.nd, fun _ h => (by cases h)⟩
theorem Mid.add {ds : List Dr} {k : Nat} {fs0 fs : List (Str × Nat)} {edge ahead : List Str} {x a : Str} (h : Mid ds k fs0 edge fs ahead) (hx : x ∈ edge) (ha : a ∈ nb ds x) (hn : a ∉ fs.map Prod.fst) :
    Mid ds k fs0 edge (fs ++ [(a, k + 1)]) (ahead ++ [a]) := by
  refine ⟨by rw [h.eq, List.map_append, List.append_assoc]; rfl, ?_, fun y hy => ?_⟩
  · rw [List.map_append, List.nodup_append]
    exact ⟨h.nd, List.nodup_cons.mpr ⟨fun z => (by cases z), List.nodup_nil⟩, fun c hc e he => by
      rw [List.map_singleton, List.mem_singleton] at he
      intro ec
      rw [ec, he] at hc
      exact hn hc⟩
  · rcases List.mem_append.mp hy with hy | hy
    · exact h.by_ y hy
    · rw [List.mem_singleton.mp hy]; exact ⟨x, hx, ha⟩
theorem Mid.next {ds : List Dr} {b : Str} {k : Nat} {fs0 fs : List (Str × Nat)} {edge ahead : List Str} (h0 : Bfs ds b k fs0 edge) (h : Mid ds k fs0 edge fs ahead) (hd : ∀ x ∈ edge, ∀ a ∈ nb ds x, a ∈ fs.map Prod.fst) : Bfs ds b (k + 1) fs ahead := by
  have keys : ∀ z, z ∈ fs.map Prod.fst ↔ z ∈ fs0.map Prod.fst ∨ z ∈ ahead := fun z => by
    rw [h.eq, List.map_append, List.mem_append, List.map_map]
    have e : (Prod.fst ∘ fun z : Str => (z, k + 1)) = id := rfl
    rw [e, List.map_id]
  have apart : ∀ z, z ∈ ahead → z ∉ fs0.map Prod.fst := fun z hz hz0 => by
    have hn := h.nd
    rw [h.eq, List.map_append, List.nodup_append] at hn
    exact hn.2.2 z hz0 z (by rw [List.map_map]; exact List.mem_map.mpr ⟨z, hz, rfl⟩) rfl
  have mem : ∀ z n, (z, n) ∈ fs ↔ (z, n) ∈ fs0 ∨ z ∈ ahead ∧ n = k + 1 := fun z n => by
    rw [h.eq, List.mem_append, List.mem_map]
    constructor
    · rintro (h | ⟨y, hy, e⟩)
      · exact .inl h
      · cases e; exact .inr ⟨hy, rfl⟩
    · rintro (h | ⟨hy, e⟩)
      · exact .inl h
      · exact .inr ⟨z, hy, by rw [e]⟩
  refine ⟨h.nd, fun z n hz => ?_, fun m z hm hw => ?_, fun z => ?_⟩
  · rcases (mem z n).mp hz with hz | ⟨hza, rfl⟩
    · have := h0.val z n hz
      exact ⟨this.1, by omega, this.2.2⟩
    · obtain ⟨x, hx, ha⟩ := h.by_ z hza
      refine ⟨.succ (h0.val x k ((h0.edge x).mp hx)).1 ha, Nat.le_refl _, fun m hm => ?_⟩
      rcases Nat.lt_or_ge k m with c | c
      · omega
      · exact absurd (h0.all m z c hm) (apart z hza)
  · rw [keys]
    rcases Nat.lt_or_ge k m with c | c
    · have em : m = k + 1 := by omega
      subst em
      cases hw with
      | @succ n0 x z0 hx hz =>
        have hx0 := h0.all k x (Nat.le_refl _) hx
        obtain ⟨⟨x', n⟩, hp, e⟩ := List.mem_map.mp hx0
        cases e
        have hv := h0.val _ _ hp
        by_cases e : n = k
        · subst e
          exact (keys z).mp (hd _ ((h0.edge _).mpr hp) z hz)
        · exact .inl (h0.all (n + 1) z (by omega) (.succ hv.1 hz))
    · exact .inl (h0.all m z c hw)
  · rw [mem]
    constructor
    · intro h; exact .inr ⟨h, rfl⟩
    · rintro (h | ⟨h, _⟩)
      · have := (h0.val z _ h).2.1
        omega
      · exact h
/-! ### sorted(d), min(d): d a dict by texts -/
theorem strs_of : ∀ {vs : List Value} {ss : List Str}, vs.length = ss.length → (∀ (i : Nat) (v : Value) (y : Str), vs[i]? = some v → ss[i]? = some y → ∃ t, v = .str y t) → StrsAre vs ss
  | [], [], _, _ => .nil
  | [], _ :: _, h, _ => by simp at h
  | _ :: _, [], h, _ => by simp at h
  | v :: vs, y :: ss, h, g => by
    obtain ⟨t, rfl⟩ := g 0 v y rfl rfl
    exact .cons y t (strs_of (by simpa using h) fun i v z h1 h2 => g (i + 1) v z h1 h2)
section
variable {X : Cx}
/-- the keys of a dict by texts -/
theorem key_at {vs : List (Key × Value)} {ss : List Str} (hk : vs.map (·.1) = ss.map Sum.inr) {i : Nat} {v : Value} (h : ∃ k x, vs[i]? = some (k, x) ∧ (mixKind X.prog X.w).is k v = true) : ∃ y t, ss[i]? = some y ∧ v = .str y t := by
  obtain ⟨k, x, hk2, hkey⟩ := h
  have e1 : (vs.map (·.1))[i]? = some k := by rw [List.getElem?_map, hk2] <;> rfl
  rw [hk, List.getElem?_map] at e1
  obtain ⟨y, hy, e2⟩ := Option.map_eq_some_iff.mp e1
  subst e2
  have hkey' : keyIs (Sum.inr y) v = true := hkey
  rcases keyIs_shape hkey' with ⟨i, t, e, _⟩ | ⟨x, t, e, e2⟩
  · cases e
  · cases e
    exact ⟨_, t, hy, e2⟩
def rSortedD : List V → Hp → VK → Prop := fun vs H Q => ∃ (a : Addr) (kvs : List (Key × V)) (ss : List Str), vs = [V.ref a] ∧ H a = some (.dK kvs) ∧ kvs.map (·.1) = ss.map Sum.inr ∧
  ∀ (ys : List Str) (p : Addr), ys.Perm ss → sortedS ys = true → H p = none → Q (.ref p) (upd H p (.lst (ys.map V.str)))
theorem cr_sortedD (hc : X.calm = true) : CallR X (.builtin "sorted") rSortedD := by
  intro pins s σ H vs us Q I r h
  obtain ⟨a, kvs, ss, rfl, ha, hv, q⟩ := h
  rw [Vals.ref1 r]
  obtain ⟨hz, hsys, vs, rel, dof⟩ := dk_of I.hok ha
  obtain ⟨ep, dat⟩ := dof.dictAt
  have hkeys : vs.map (·.1) = ss.map Sum.inr := (KV.keys rel).symm.trans hv
  have hlv : vs.length = ss.length := by
    have e1 := congrArg List.length hkeys
    rw [List.length_map, List.length_map] at e1
    exact e1
  have hlk : kvs.length = ss.length := by
    have e1 := congrArg List.length hv
    rw [List.length_map, List.length_map] at e1
    exact e1
  have hL : ss.length ≤ sizeLine := by rw [← hlk]; exact hz
  refine Calls.call_function_entry kind_sorted plain_sorted entry_sorted (args_sorted1 _) ?_
  unfold Builtin.«sorted»
  refine wpAny_bind (m := checkCount "sorted" 1 1 _) (wpAny_pure ?_)
  refine wpAny_bind (PySem.W.kdu_collect (A := X.A.in1) (PySem.W.kdl_dict (knd := mixKind X.prog X.w) (kvs := vs) (ep := ep) hsys) (I.ok.hd hc) dat (by rw [hlv]; exact hL) fun h' tk acc hk hacc => ?_)
  have hal : acc.toList.length = ss.length := by rw [Array.length_toList, hacc.1, hlv]
  have hS : StrsAre acc.toList ss := strs_of hal fun i v y h1 h2 => by
    obtain ⟨y', t, h3, h4⟩ := key_at (X := X) hkeys (hacc.2 i v (by rw [← Array.getElem?_toList]; exact h1))
    rw [h2] at h3
    rw [Option.some.inj h3]
    exact ⟨t, h4⟩
  refine wpAny_bind (wpAny_newList ?_)
  have hnew : (h'.push (seqObj "list" acc.toList.toArray 0)).get? h'.objs.size = some (seqObj "list" acc.toList.toArray 0) := Heap.get?_push_size _ rfl
  refine wpAny_bind (wpAny_holding (wpAny_call_entry slot_list_sort ⟨_, hnew, rfl⟩ entry_list_sort (list_sort_treeKAny strKind_oneLt hnew hS.keysOf (fun v₁ v₂ rest e => keyKind_strs (by rw [← e]; exact hS)) (by rw [hal]; exact hL) fun st hp hs => ⟨_, rfl, ?_⟩) (args_list_sort _)))
  obtain ⟨ys, b1, b2, b3⟩ := sorted_out_str hS hp hs
  have old : ∀ b u, s.heap.get? b = some u → (sortedHeap (h'.push (seqObj "list" acc.toList.toArray 0)) h'.objs.size acc.toList ((arrOf st).map (·.2))).get? b = some u := fun b u e => by
    have e1 := hk b u e
    have hlt := Heap.lt_size e1
    rw [sortedHeap_old (Nat.ne_of_lt hlt) (by rw [Heap.size_push]; exact Nat.lt_succ_of_lt hlt)]
    exact Heap.get?_push_of_some _ e1
  have hpn : s.heap.get? h'.objs.size = none := by
    cases e : s.heap.get? h'.objs.size with
    | none => rfl
    | some u => exact absurd (Heap.lt_size (hk _ _ e)) (Nat.lt_irrefl _)
  have hpH : H h'.objs.size = none := (I.hok.kept hk).fresh (Nat.le_refl _)
  obtain ⟨ep2, he'⟩ := sortedHeap_at (out := (arrOf st).map (·.2)) hnew
  have hlen : (ys.map V.str).length ≤ sizeLine := by rw [List.length_map, b2.length_eq]; exact hL
  exact wpAny_pure ⟨_, rfl, .ref _, upd H h'.objs.size (.lst (ys.map V.str)), I.laidN (t' := tk) old hpn hpH ⟨hlen, _, ep2, vals_of_strs b1, he'⟩, rfl, q ys _ b2 b3 hpH⟩
theorem k_sortedD (hc : X.calm = true) : CallR X (.builtin "sorted") rSortedD := cr_sortedD hc
end
/-! ### rising rows of texts; who hangs together -/
theorem ltS_cps (a b : Str) : ltCps a.cps.toList b.cps.toList = ltS a b := by unfold ltS; rw [ltCps_eq]
def leS (a b : Str) : Prop := ltS b a = false
theorem leS_refl (a : Str) : leS a a := by
  unfold leS ltS
  exact decide_eq_false (List.lt_irrefl _)
theorem leS_trans {a b c : Str} (h1 : leS a b) (h2 : leS b c) : leS a c := by
  unfold leS ltS at *
  have h1 : a.cps.toList ≤ b.cps.toList := of_decide_eq_false h1
  have h2 : b.cps.toList ≤ c.cps.toList := of_decide_eq_false h2
  exact decide_eq_false (List.le_trans h1 h2)
theorem leS_anti {a b : Str} (h1 : leS a b) (h2 : leS b a) : a = b := ltS_tri h2 h1
theorem rising_pw : ∀ (p : Str) (l : List Str), risingS p l = true → (p :: l).Pairwise leS
  | p, [], _ => by simp
  | p, x :: r, h => by
    have h' : (!ltCps x.cps.toList p.cps.toList && risingS x r) = true := h
    rw [Bool.and_eq_true, ltS_cps, Bool.not_eq_true'] at h'
    have ih := rising_pw x r h'.2
    refine List.pairwise_cons.mpr ⟨fun y hy => ?_, ih⟩
    rcases List.mem_cons.mp hy with rfl | hy
    · exact h'.1
    · exact leS_trans h'.1 ((List.pairwise_cons.mp ih).1 y hy)
theorem sorted_pw {l : List Str} (h : sortedS l = true) : l.Pairwise leS := by
  cases l with
  | nil => exact List.Pairwise.nil
  | cons x r => exact rising_pw x r h
theorem pw_sorted {l : List Str} (h : l.Pairwise leS) : sortedS l = true := sortedS_of_pairwise l (h.imp fun {a b} h => by rw [ltS_cps]; exact h)
theorem sorted_uniq {ys zs : List Str} (p : ys.Perm zs) (h1 : sortedS ys = true) (h2 : sortedS zs = true) : ys = zs :=
  List.Perm.eq_of_pairwise (le := leS) (fun a b _ _ x y => leS_anti x y) (sorted_pw h1) (sorted_pw h2) p
/-! who can be come to -/
def Con (es : List Dr) (b z : Str) : Prop := ∃ n, Wn es b n z
theorem Con.refl {es : List Dr} {b : Str} : Con es b b := ⟨0, .zero⟩
theorem Wn.cons {es : List Dr} (hl : Loopless es) {a b z : Str} {n : Nat} (h : b ∈ nb es a) (w : Wn es b n z) : Wn es a (n + 1) z := by
  induction w with
  | zero => exact .succ .zero h
  | succ _ h2 ih => exact .succ ih h2
theorem Wn.turn {es : List Dr} (hl : Loopless es) {b z : Str} {n : Nat} (w : Wn es b n z) : Wn es z n b := by
  induction w with
  | zero => exact .zero
  | succ _ h ih => exact ih.cons hl (nb_sym hl h)
theorem Con.symm {es : List Dr} (hl : Loopless es) {b z : Str} (h : Con es b z) : Con es z b := by
  obtain ⟨n, w⟩ := h
  exact ⟨n, w.turn hl⟩
theorem Wn.app {es : List Dr} {a b z : Str} {n m : Nat} (w : Wn es a n b) (v : Wn es b m z) : Wn es a (n + m) z := by
  induction v with
  | zero => exact w
  | succ _ h ih => exact .succ ih h
theorem Con.trans {es : List Dr} {a b z : Str} (h : Con es a b) (g : Con es b z) : Con es a z := by
  obtain ⟨n, w⟩ := h
  obtain ⟨m, v⟩ := g
  exact ⟨_, w.app v⟩
open Classical in
noncomputable def comp (es : List Dr) (rs : List Str) (b : Str) : List Str := rs.filter fun z => decide (Con es b z)
def Least (es : List Dr) (rs : List Str) (b : Str) : Prop := ∀ z ∈ rs, Con es b z → leS b z
open Classical in
noncomputable def partsOf (es : List Dr) (rs xs : List Str) : List (List Str) := (xs.filter fun b => decide (Least es rs b)).map (comp es rs)
theorem comp_sorted {es : List Dr} {rs : List Str} (h : sortedS rs = true) (b : Str) : sortedS (comp es rs b) = true := pw_sorted ((sorted_pw h).filter _)
open Classical in
theorem comp_mem {es : List Dr} {rs : List Str} {b z : Str} : z ∈ comp es rs b ↔ z ∈ rs ∧ Con es b z := by
  unfold comp
  rw [List.mem_filter, decide_eq_true_eq]
theorem comp_nd {es : List Dr} {rs : List Str} (h : rs.Nodup) (b : Str) : (comp es rs b).Nodup := h.filter _
/-- what was found from b, rising -/
theorem spans_comp {es : List Dr} {rs : List Str} {b : Str} {fs : List (Str × Nat)} (h : Spans es b fs) (hnd : rs.Nodup) (hs : sortedS rs = true) (hb : b ∈ rs) (hin : ∀ x z, z ∈ nb es x → z ∈ rs) {ys : List Str} (hp : ys.Perm (fs.map Prod.fst)) (hy : sortedS ys = true) : ys = comp es rs b := by
  refine sorted_uniq (hp.trans ?_) hy (comp_sorted hs b)
  refine (List.perm_ext_iff_of_nodup h.nd (comp_nd hnd b)).mpr fun z => ?_
  rw [comp_mem]
  constructor
  · intro hz
    obtain ⟨⟨x, n⟩, hp, e⟩ := List.mem_map.mp hz
    cases e
    have hw := (h.val _ _ hp).1
    exact ⟨hw.inn hb hin, n, hw⟩
  · rintro ⟨_, n, w⟩
    exact h.all _ _ w
/-- the least of its part is the first of it -/
theorem least_iff {es : List Dr} {rs : List Str} (hl : Loopless es) (hnd : rs.Nodup) (hs : sortedS rs = true) {i : Nat} {b : Str} (h : rs[i]? = some b) : Least es rs b ↔ ∀ z ∈ rs.take i, ¬ Con es z b := by
  have pw := sorted_pw hs
  have hi : i < rs.length := (List.getElem?_eq_some_iff.mp h).1
  have eb := (List.getElem?_eq_some_iff.mp h).2
  constructor
  · intro hL z hz hc
    obtain ⟨j, hj, ej⟩ := List.mem_iff_getElem.mp hz
    rw [List.length_take] at hj
    rw [List.getElem_take] at ej
    have h1 := hL z (List.mem_of_mem_take hz) (hc.symm hl)
    have h2 : leS z b := by
      have := (List.pairwise_iff_getElem.mp pw) j i (by omega) hi (by omega)
      rw [ej, eb] at this
      exact this
    have e := leS_anti h1 h2
    exact take_nodup_not hnd h (e ▸ hz)
  · intro hn z hz hc
    obtain ⟨j, hj, ej⟩ := List.mem_iff_getElem.mp hz
    rcases Nat.lt_or_ge j i with c | c
    · exact absurd (hc.symm hl) (hn z (List.mem_iff_getElem.mpr ⟨j, by rw [List.length_take]; omega, by rw [List.getElem_take]; exact ej⟩))
    · rcases Nat.lt_or_ge i j with c2 | c2
      · have := (List.pairwise_iff_getElem.mp pw) i j hi hj c2
        rw [ej, eb] at this
        exact this
      · have e : i = j := by omega
        subst e
        rw [← ej, ← eb]
        exact leS_refl _
/-! ### min of a dict by texts; steps found one by one -/
theorem ltS_best (f : Nat → Str) : ∀ n, argBest (fun i j => ltS (f i) (f j)) n ≤ n ∧ ∀ i, i ≤ n → leS (f (argBest (fun i j => ltS (f i) (f j)) n)) (f i)
  | 0 => ⟨Nat.le_refl _, fun i hi => by rw [Nat.le_zero.mp hi]; exact leS_refl _⟩
  | n + 1 => by
    obtain ⟨h1, h2⟩ := ltS_best f n
    unfold argBest
    by_cases c : ltS (f (n + 1)) (f (argBest (fun i j => ltS (f i) (f j)) n)) = true
    · rw [if_pos c]
      refine ⟨Nat.le_refl _, fun i hi => ?_⟩
      rcases Nat.lt_or_ge n i with k | k
      · rw [show i = n + 1 by omega]; exact leS_refl _
      · exact leS_trans (ltS_asymm c) (h2 i k)
    · rw [if_neg c]
      refine ⟨by omega, fun i hi => ?_⟩
      rcases Nat.lt_or_ge n i with k | k
      · rw [show i = n + 1 by omega]
        unfold leS
        cases h : ltS (f (n + 1)) (f (argBest (fun i j => ltS (f i) (f j)) n))
        · rfl
        · exact absurd h c
      · exact h2 i k
section
variable {X : Cx}
def rMinD : List V → Hp → VK → Prop := fun vs H Q => ∃ (a : Addr) (kvs : List (Key × V)) (ss : List Str), vs = [V.ref a] ∧ H a = some (.dK kvs) ∧ kvs.map (·.1) = ss.map Sum.inr ∧ ss ≠ [] ∧ ∀ m, m ∈ ss → (∀ j ∈ ss, leS m j) → Q (.str m) H
theorem cr_minD (hc : X.calm = true) : CallR X (.builtin "min") rMinD := by
  intro pins s σ H vs us Q I r h
  obtain ⟨a, kvs, ss, rfl, ha, hv, hne, q⟩ := h
  rw [Vals.ref1 r]
  obtain ⟨_, hsys, vs, rel, dof⟩ := dk_of I.hok ha
  obtain ⟨ep, dat⟩ := dof.dictAt
  obtain ⟨ob, es, ho, hex, hdat, hko, hpr, hnd⟩ := id dat
  have hlt : a < s.heap.objs.size := Heap.lt_size ho
  have hkeys : vs.map (·.1) = ss.map Sum.inr := (KV.keys rel).symm.trans hv
  have hlv : vs.length = ss.length := by
    have e1 := congrArg List.length hkeys
    rw [List.length_map, List.length_map] at e1
    exact e1
  have hlen : 0 < vs.length := by
    rw [hlv]
    exact List.length_pos_iff.mpr hne
  have hval : ∀ (i : Nat) (v : Value), (∃ k x, vs[i]? = some (k, x) ∧ (mixKind X.prog X.w).is k v = true) → ∃ t, v = Value.str (ss.getD i ⟨#[]⟩) t := fun i v h => by
    obtain ⟨y, t, h1, h2⟩ := key_at (X := X) hkeys h
    exact ⟨t, by rw [h2, List.getD_eq_getElem?_getD, h1]; rfl⟩
  refine call_min_walk (wpAny_pyIter_dict (knd := mixKind X.prog X.w) hsys dat ?_)
  refine ⟨_, _, _, _, _, _, _, rfl, Walks.dictKeys (knd := mixKind X.prog X.w) (A := X.A.in1) (I.ok.hd hc) s.heap.objs.size a (Nat.ne_of_lt hlt) vs ep,
    ⟨⟨_, Heap.get?_push_size _ rfl, rfl, rfl⟩, dat.keep fun b u e => Heap.get?_push_of_some _ e⟩, fun b hb => ?_, hlen, cmp_strs (fun i => ss.getD i ⟨#[]⟩) hval, fun v h' tk hP hk => ?_⟩
  · show b < (s.heap.push _).objs.size
    rw [Heap.size_push]
    rcases List.mem_cons.mp hb with e | hb
    · rw [e]
      exact Nat.lt_succ_self _
    · rw [List.mem_singleton.mp hb]
      exact Nat.lt_succ_of_lt hlt
  · obtain ⟨t, rfl⟩ := hval _ v hP
    obtain ⟨b1, b2⟩ := ltS_best (fun i => ss.getD i ⟨#[]⟩) (vs.length - 1)
    refine ⟨.str _, H, I.kept (t' := tk) fun b u e => hk b u (fun hmem => ?_) (Heap.get?_push_of_some _ e), ⟨t, rfl⟩, q _ ?_ fun j hj => ?_⟩
    · have e1 : b = s.heap.objs.size := List.mem_singleton.mp hmem
      have e2 := Heap.lt_size e
      rw [e1] at e2
      exact absurd e2 (Nat.lt_irrefl _)
    · have hb : argBest (fun i j => ltS (ss.getD i ⟨#[]⟩) (ss.getD j ⟨#[]⟩)) (vs.length - 1) < ss.length := by omega
      rw [List.getD_eq_getElem?_getD, List.getElem?_eq_getElem hb]
      exact List.getElem_mem hb
    · obtain ⟨i, hi, e⟩ := List.mem_iff_getElem.mp hj
      have e2 : ss.getD i ⟨#[]⟩ = j := by rw [List.getD_eq_getElem?_getD, List.getElem?_eq_getElem hi, ← e] <;> rfl
      rw [← e2]
      exact b2 i (by omega)
theorem k_minD (hc : X.calm = true) : CallR X (.builtin "min") rMinD := cr_minD hc
end
/-! a row of rooms found, gone through from its front -/
structure Que (ds : List Dr) (b : Str) (fs : List (Str × Nat)) (at_ : Nat) : Prop where
  nd : (fs.map Prod.fst).Nodup
  fst : b ∈ fs.map Prod.fst
  val : ∀ z n, (z, n) ∈ fs → Wn ds b n z ∧ ∀ m, Wn ds b m z → n ≤ m
  mono : fs.Pairwise fun p q => p.2 ≤ q.2
  near : ∀ x k, fs[at_]? = some (x, k) → ∀ p ∈ fs, p.2 ≤ k + 1
  done : ∀ i x k, i < at_ → fs[i]? = some (x, k) → ∀ a ∈ nb ds x, a ∈ fs.map Prod.fst
theorem Que.start (ds : List Dr) (b : Str) : Que ds b [(b, 0)] 0 := by
  refine ⟨by simp, by simp, fun z n h => ?_, by simp, fun x k h p hp => ?_, fun i x k h => (by omega)⟩
  · rw [List.mem_singleton] at h
    cases h
    exact ⟨.zero, fun m _ => Nat.zero_le m⟩
  · rw [List.mem_singleton.mp hp]
    exact Nat.zero_le _
theorem Que.add {ds : List Dr} {b x z : Str} {k at_ : Nat} {fs : List (Str × Nat)} (h : Que ds b fs at_) (hx : fs[at_]? = some (x, k)) (hz : z ∈ nb ds x) (hn : z ∉ fs.map Prod.fst) : Que ds b (fs ++ [(z, k + 1)]) at_ := by
  have hat : at_ < fs.length := (List.getElem?_eq_some_iff.mp hx).1
  have ex := (List.getElem?_eq_some_iff.mp hx).2
  have hxk := h.val x k (List.mem_of_getElem? hx)
  have low : ∀ m w, Wn ds b m w → m ≤ k → w ∈ fs.map Prod.fst := fun m w hw => by
    induction hw with
    | zero => intro _; exact h.fst
    | succ hw hz ih =>
      intro hm
      obtain ⟨⟨x', n'⟩, hp, e⟩ := List.mem_map.mp (ih (by omega))
      cases e
      have h1 := (h.val _ _ hp).2 _ hw
      obtain ⟨i, hi, ei⟩ := List.getElem_of_mem hp
      have hia : i < at_ := by
        rcases Nat.lt_or_ge i at_ with c | c
        · exact c
        · rcases Nat.lt_or_ge at_ i with c2 | c2
          · have := (List.pairwise_iff_getElem.mp h.mono) at_ i hat hi c2
            rw [ex, ei] at this
            have : k ≤ n' := this
            omega
          · have e2 : i = at_ := by omega
            subst e2
            rw [ex] at ei
            cases ei
            omega
      exact h.done i _ n' hia (by rw [List.getElem?_eq_getElem hi, ei]) _ hz
  refine ⟨?_, ?_, fun y n hy => ?_, ?_, fun x' k' hx' p hp => ?_, fun i x' k' hi hx' a ha => ?_⟩
  · rw [List.map_append, List.nodup_append]
    exact ⟨h.nd, List.nodup_cons.mpr ⟨fun z => (by cases z), List.nodup_nil⟩, fun c hc e he => by
      rw [List.map_singleton, List.mem_singleton] at he
      intro ec
      rw [ec, he] at hc
      exact hn hc⟩
  · rw [List.map_append]; exact List.mem_append_left _ h.fst
  · rcases List.mem_append.mp hy with hy | hy
    · exact h.val y n hy
    · rw [List.mem_singleton] at hy
      cases hy
      refine ⟨.succ hxk.1 hz, fun m hm => ?_⟩
      rcases Nat.lt_or_ge k m with c | c
      · exact c
      · exact absurd (low m _ hm c) hn
  · rw [List.pairwise_append]
    refine ⟨h.mono, by simp, fun p hp q hq => ?_⟩
    rw [List.mem_singleton.mp hq]
    exact h.near x k hx p hp
  · rw [List.getElem?_append_left hat, hx] at hx'
    cases hx'
    rcases List.mem_append.mp hp with hp | hp
    · exact h.near x k hx p hp
    · rw [List.mem_singleton.mp hp]
      exact Nat.le_refl _
  · rw [List.getElem?_append_left (by omega)] at hx'
    rw [List.map_append]
    exact List.mem_append_left _ (h.done i x' k' hi hx' a ha)
theorem Que.next {ds : List Dr} {b x : Str} {k at_ : Nat} {fs : List (Str × Nat)} (h : Que ds b fs at_) (hx : fs[at_]? = some (x, k)) (hd : ∀ a ∈ nb ds x, a ∈ fs.map Prod.fst) : Que ds b fs (at_ + 1) := by
  refine ⟨h.nd, h.fst, h.val, h.mono, fun x' k' hx' p hp => ?_, fun i x' k' hi hx' a ha => ?_⟩
  · have h1 := h.near x k hx p hp
    have hat : at_ < fs.length := (List.getElem?_eq_some_iff.mp hx).1
    have ex := (List.getElem?_eq_some_iff.mp hx).2
    have hat' : at_ + 1 < fs.length := (List.getElem?_eq_some_iff.mp hx').1
    have ex' := (List.getElem?_eq_some_iff.mp hx').2
    have := (List.pairwise_iff_getElem.mp h.mono) at_ (at_ + 1) hat hat' (by omega)
    rw [ex, ex'] at this
    have : k ≤ k' := this
    omega
  · rcases Nat.lt_or_ge i at_ with c | c
    · exact h.done i x' k' c hx' a ha
    · have e : i = at_ := by omega
      rw [e, hx] at hx'
      cases hx'
      exact hd a ha
theorem Que.end {ds : List Dr} {b : Str} {at_ : Nat} {fs : List (Str × Nat)} (h : Que ds b fs at_) (hat : fs.length ≤ at_) : Spans ds b fs := by
  refine ⟨h.nd, h.val, fun m z hw => ?_⟩
  induction hw with
  | zero => exact h.fst
  | succ hw hz ih =>
    obtain ⟨⟨x', n'⟩, hp, e⟩ := List.mem_map.mp ih
    cases e
    obtain ⟨i, hi, ei⟩ := List.getElem_of_mem hp
    exact h.done i _ n' (by omega) (by rw [List.getElem?_eq_getElem hi, ei]) _ hz
/-! ### a known dict put anew; what two lists of doors tell alike -/
theorem Wn.of {ds es : List Dr} {b z : Str} {n : Nat} (e : ∀ x z, z ∈ nb ds x → z ∈ nb es x) (h : Wn ds b n z) : Wn es b n z := by
  induction h with
  | zero => exact .zero
  | succ _ h ih => exact .succ ih (e _ _ h)
theorem Spans.of {ds es : List Dr} {b : Str} {fs : List (Str × Nat)} (e : ∀ x z, z ∈ nb ds x ↔ z ∈ nb es x) (h : Spans ds b fs) : Spans es b fs :=
  ⟨h.nd, fun z n hz => ⟨(h.val z n hz).1.of (fun x z => (e x z).mp), fun m hm => (h.val z n hz).2 m (hm.of (fun x z => (e x z).mpr))⟩, fun m z hw => h.all m z (hw.of (fun x z => (e x z).mpr))⟩
section
variable {K : PySem.W.Frag} {G H : Hp} {y a p : Addr} {k : List (Key × V)} {u : HO} {xs : List V} {ds : List Dr} {n : Nat}
theorem Same.put (h : Same G H) : Same (upd G y u) (upd H y u) := fun b o e => by
  by_cases c : b = y
  · subst c; rw [upd_same] at e ⊢; exact e
  · rw [upd_ne c] at e ⊢; exact h b o e
theorem sqL_put (h : SqL K G a xs) (hy : G y = some (.dK k)) : SqL K (upd G y u) a xs := by
  rcases h with (h | ⟨o, h⟩) | h
  · exact .inl (.inl (by rw [upd_ne (ne_of h hy (fun z => nomatch z))]; exact h))
  · exact .inl (.inr ⟨o, by rw [upd_ne (ne_of h hy (fun z => nomatch z))]; exact h⟩)
  · exact .inr h
theorem sqT_put (h : SqT K G a xs) (hy : G y = some (.dK k)) : SqT K (upd G y u) a xs := by
  rcases h with (h | ⟨o, h⟩) | h
  · exact .inl (.inl (by rw [upd_ne (ne_of h hy (fun z => nomatch z))]; exact h))
  · exact .inl (.inr ⟨o, by rw [upd_ne (ne_of h hy (fun z => nomatch z))]; exact h⟩)
  · exact .inr h
theorem drAll_put (h : DrAll G xs ds) (hy : G y = some (.dK k)) : DrAll (upd G y u) xs ds :=
  ⟨h.1, fun i d e => by obtain ⟨t, o, h1, h2, h3⟩ := h.2 i d e; exact ⟨t, o, h1, by rw [upd_ne (ne_of h2 hy (fun z => nomatch z))]; exact h2, h3⟩⟩
theorem pen_put (h : Pen K G p n H) (hy : G y = some (.dK k)) : Pen K (upd G y u) p n (upd H y u) := by
  obtain ⟨g, c, ns, a, l, h1, h2, h3, h4⟩ := h
  have hne : p ≠ y := fun e => by rw [e, hy] at g; cases g
  exact ⟨by rw [upd_ne hne]; exact g, c, ns, a, l, sqL_put h1 hy, h2, h3, by rw [upd_ne hne]; exact h4⟩
end
/-! repr of None or of a number -/
def kReprX : List V → Hp → VK → Prop := fun xs H Q => (∃ i : Int, xs = [.int i] ∧ i.natAbs.log2 < 1920 ∧ Q (.str (toString i)) H) ∨ (xs = [.non] ∧ Q (.str "None") H)
theorem call_reprX {X : Cx} : CallR X (.builtin "repr") kReprX := by
  intro pins s σ H xs us Q I r h
  rcases h with h | ⟨rfl, q⟩
  · exact SkE.call_repr_int pins s σ H xs us Q I r h
  · obtain ⟨u, rfl, e⟩ := vals1 r
    cases (show u = Value.none from e)
    exact PySem.P.repr_of_none ⟨.str _, H, I.tok _, ⟨_, rfl⟩, q⟩
theorem c_reprN {H : Hp} {Q : VK} (q : Q (.str "None") H) : kReprX [.non] H Q := .inr ⟨rfl, q⟩
theorem log_small {n : Nat} (h : n < 200) : ((n : Int).natAbs).log2 < 1920 := by
  have h2 : ((n : Int).natAbs).log2 ≤ n := by
    rw [Int.natAbs_natCast]
    exact Nat.log2_le_self n
  omega
theorem c_reprS {H : Hp} {Q : VK} {n : Nat} (hn : n < 200) (q : Q (.str (toString (n : Int))) H) : kReprX [.int (n : Int)] H Q := .inl ⟨n, rfl, log_small hn, q⟩
theorem if_joinT {b : Bool} {t u : TS} {D : Ends} {σ : L2.St} {H : Hp} (R : L2.St → Hp → Prop) (h1 : b = true → ∀ N : L2.St → Hp → Prop, (∀ σ' H', R σ' H' → N σ' H') → t { D with nx := N } σ H) (h2 : b = false → ∀ N : L2.St → Hp → Prop, (∀ σ' H', R σ' H' → N σ' H') → u { D with nx := N } σ H) (q : ∀ σ' H', R σ' H' → D.nx σ' H') :
    if b = true then t D σ H else u D σ H := by
  cases b with
  | true => exact h1 rfl D.nx q
  | false => exact h2 rfl D.nx q
/-! ### repr of a list of lists of texts -/
def dLL (pss : List (List Str)) : List PyData := pss.map fun zs => PyData.list (zs.map PyData.str)
theorem dLL_dp {K : PySem.W.Frag} {H : Hp} : ∀ {ls : List Addr} {pss : List (List Str)}, ls.length = pss.length → (∀ (k : Nat) (l : Addr) (zs : List Str), ls[k]? = some l → pss[k]? = some zs → SqL K H l (zs.map V.str)) → DpAll K H (ls.map V.ref) (dLL pss)
  | [], [], _, _ => .nil
  | [], _ :: _, h, _ => by simp at h
  | _ :: _, [], h, _ => by simp at h
  | l :: ls, zs :: pss, h, g => .cons (.lst (g 0 l zs rfl rfl) (dp_strs _)) (dLL_dp (by simpa using h) fun k l' zs' h1 h2 => g (k + 1) l' zs' h1 h2)
theorem dLL_show : ∀ pss : List (List Str), PyData.showableAll (dLL pss) = true
  | [] => rfl
  | zs :: r => by
    have h := dLL_show r
    unfold dLL at h ⊢
    simp [PyData.showableAll, PyData.showable, shows_strs, h]
theorem dLL_nod : ∀ pss : List (List Str), PyData.hasDictAll (dLL pss) = false
  | [] => rfl
  | zs :: r => by
    have h := dLL_nod r
    unfold dLL at h ⊢
    simp [PyData.hasDictAll, PyData.hasDict, nodict_strs, h]
theorem dLL_deep : ∀ pss : List (List Str), PyData.depthAll (dLL pss) ≤ 1
  | [] => by simp [dLL, PyData.depthAll]
  | zs :: r => by
    have h := dLL_deep r
    unfold dLL at h ⊢
    simp only [List.map_cons, PyData.depthAll, PyData.depth, deep_strs]
    omega
theorem dLL_shown : ∀ pss : List (List Str), PyData.shownAll (dLL pss) = pss.map fun zs => (PyData.list (zs.map PyData.str)).shown
  | [] => rfl
  | zs :: r => by
    have h := dLL_shown r
    unfold dLL at h ⊢
    simp only [List.map_cons, PyData.shownAll, h]
theorem list_len (zs : List Str) (h : ∀ z ∈ zs, NmOk z) (hl : zs.length ≤ 64) : (PyData.list (zs.map PyData.str)).shown.length ≤ 6000 := by
  have e : (PyData.list (zs.map PyData.str)).shown = listText (zs.map reprText) := by simp only [PyData.shown, shown_strs]
  rw [e]
  have h1 := listText_len_le (zs.map reprText)
  have h2 := sum_shown zs h
  rw [List.length_map] at h1
  omega
theorem sum_le : ∀ (l : List Nat) (b : Nat), (∀ x ∈ l, x ≤ b) → l.sum ≤ b * l.length
  | [], b, _ => by simp
  | x :: r, b, h => by
    have h1 := h x List.mem_cons_self
    have h2 := sum_le r b fun y hy => h y (List.mem_cons_of_mem _ hy)
    rw [List.sum_cons, List.length_cons, Nat.mul_add]
    omega
theorem c_reprLL {K : PySem.W.Frag} {H : Hp} {Q : VK} {a : Addr} {ls : List Addr} {pss : List (List Str)} (h : SqL K H a (ls.map V.ref)) (hl : ls.length = pss.length) (hr : ∀ (k : Nat) (l : Addr) (zs : List Str), ls[k]? = some l → pss[k]? = some zs → SqL K H l (zs.map V.str))
    (hn : ∀ zs ∈ pss, zs.length ≤ 64 ∧ ∀ z ∈ zs, NmOk z) (hp : pss.length ≤ 64) (q : Q (.str (PyData.list (dLL pss)).shown) H) : kRepr K [.ref a] H Q := by
  refine c_repr (.lst h (dLL_dp hl hr)) ?_ ?_ ?_ ?_ q
  · simp [PyData.showable, dLL_show]
  · simp [PyData.hasDict, dLL_nod]
  · have := dLL_deep pss
    simp only [PyData.depth]
    omega
  · have e : (PyData.list (dLL pss)).shown = listText (pss.map fun zs => (PyData.list (zs.map PyData.str)).shown) := by simp only [PyData.shown, dLL_shown]
    rw [e, sizeLine_eq]
    have h1 := listText_len_le (pss.map fun zs => (PyData.list (zs.map PyData.str)).shown)
    have h2 := sum_le ((pss.map fun zs => (PyData.list (zs.map PyData.str)).shown).map (·.length)) 6000 (fun x hx => by
      obtain ⟨s, hs, rfl⟩ := List.mem_map.mp hx
      obtain ⟨zs, hz, rfl⟩ := List.mem_map.mp hs
      exact list_len zs (hn zs hz).2 (hn zs hz).1)
    rw [List.length_map, List.length_map] at h2
    rw [List.length_map] at h1
    omega
theorem c_isiT1 {K : PySem.W.Frag} {H : Hp} {Q : VK} {a : Addr} {xs : List V} (h : SqT K H a xs) (q : Q (.bl true) H) : rIsi K [.ref a, .ty "tuple"] H Q := ⟨_, _, .type "tuple", .type "tuple", true, rfl, .ty _, ty_tup h, kit_ty (by decide +kernel), q⟩
/-! the text -/
def topS (i : Nat) : Stmt := PySem.Challenge.pw_tautropes_k03_parts_and_steps.main.body.getD i (.Pass ⟨0, 0, 0, 0⟩)
local macro_rules | `(tactic| walk_at "u1") => `(tactic| first
  | with_reducible refine r_seq ?_ | with_reducible refine r_asg ?_ | with_reducible refine r_gname ?_ | with_reducible refine r_ret ?_ | with_reducible refine r_drop ?_ | with_reducible refine r_if ?_
  | with_reducible refine r_par ?_ | with_reducible refine r_par' ?_ | with_reducible refine r_par3 ?_ | with_reducible refine r_par3' ?_ | with_reducible refine r_next ?_
  | ((with_reducible refine' r_var ?h ?_); (case h => rfl))
  | with_reducible refine r_c ?_ | with_reducible refine r_op ?_ | with_reducible refine r_un ?_ | with_reducible refine r_cb ?_ | with_reducible refine r_call ?_ | with_reducible refine r_cons ?_ | with_reducible refine r_nil ?_
  | with_reducible refine r_tup ?_ | with_reducible refine r_lst ?_ | with_reducible refine r_ifx ?_ | with_reducible refine r_sl ?_ | with_reducible refine r_nopart ?_ | with_reducible refine r_part ?_
  | with_reducible refine r_int ?_ | with_reducible refine r_bool ?_ | with_reducible refine r_test ?_ | with_reducible refine r_tb ?_ | with_reducible refine r_and ?_ | with_reducible refine r_or ?_ | with_reducible refine r_not ?_
  | with_reducible refine r_andv ?_ | with_reducible refine r_orv ?_ | with_reducible refine r_notv ?_ | with_reducible refine r_yes ?_ | with_reducible refine r_dget ?_ | with_reducible refine r_bm0 ?_ | with_reducible refine r_bm ?_ | with_reducible refine r_revT ?_
  | with_reducible refine r_I0 ?_ | with_reducible refine r_U ?_
  | ((with_reducible refine r_eq ?h ?_); (case h => rfl)) | ((with_reducible refine r_ne ?h ?_); (case h => rfl))
  | ((with_reducible refine iteT ?_)) | ((with_reducible refine iteF ?_)))
local macro_rules | `(tactic| walk_at "go") => `(tactic| ((try dsimp only); repeat (walk_at "u1"; (try dsimp only))))
local macro_rules | `(tactic| walk_at "u1") => `(tactic| first
  | with_reducible refine r_forT ?_ | with_reducible refine r_forL ?_ | with_reducible refine r_forR1 ?_ | with_reducible refine r_forR2 ?_ | with_reducible refine r_lcT ?_ | with_reducible refine r_lcL ?_ | with_reducible refine r_lcR1 ?_ | with_reducible refine r_lcR2 ?_)
local macro_rules | `(tactic| walk_at "go0") => `(tactic| ((try dsimp only [cxOf]); walk_at "go"))
local macro_rules | `(tactic| walk_at "gs") => `(tactic| first
  | exact L2.Same.refl _ | assumption
  | (refine L2.Same.trans ?_ (Stp.gh (by assumption)); walk_at "gs")
  | (refine L2.Same.trans ?_ (Stp.gg (by assumption)); walk_at "gs"))
local macro_rules | `(tactic| walk_at "sq") => `(tactic| first
  | assumption | exact lof (by assumption) | exact tof (by assumption)
  | (refine L2.Same.seq ?_ (by assumption); walk_at "gs") | (refine Same.sqt ?_ (by assumption); walk_at "gs")
  | (refine L2.Same.seq ?_ (lof (by assumption)); walk_at "gs") | (refine Same.sqt ?_ (tof (by assumption)); walk_at "gs"))
local macro_rules | `(tactic| walk_at "u1") => `(tactic| first
  | ((with_reducible refine' c_len (Or.inl ?h) ?_); (case h => walk_at "sq")) | ((with_reducible refine' c_len (Or.inr ?h) ?_); (case h => walk_at "sq"))
  | ((with_reducible refine' c_lenS ?h ?_); (case h => assumption)) | with_reducible refine c_abs ?_ | with_reducible refine c_max ?_ | with_reducible refine c_min ?_ | with_reducible refine c_intI ?_ | with_reducible refine c_intB ?_)
local macro_rules | `(tactic| walk_at "hp") => `(tactic| first | assumption | exact upd_same)
local macro_rules | `(tactic| walk_at "u1") => `(tactic| first
  | ((with_reducible refine' c_meth ?h ?_); (case h => walk_at "hp")))
local macro_rules | `(tactic| walk_at "dg") => `(tactic| first | exact pen_cells (by walk_at "hp") | exact pen_at (by walk_at "hp") | exact pen_left (by walk_at "hp"))
local macro_rules | `(tactic| walk_at "cond") => `(tactic| first
  | (show (0 : Int) < _; (try simp only [List.length_map]); omega) | (show (0 : Int) < _ ∧ _; (try simp only [List.length_map]); omega) | exact ⟨by decide, by decide, by decide⟩ | exact Or.inl ⟨by omega, by omega⟩ | exact Or.inr ⟨by omega, by omega⟩)
local macro_rules | `(tactic| walk_at "u1") => `(tactic| first
  | ((with_reducible refine' r_dget' ?h ?_); (case h => walk_at "dg")) | ((with_reducible refine' r_I ?h ?_); (case h => walk_at "cond")) | with_reducible refine r_dput ?_
  | ((with_reducible refine' r_put ?h ?_); (case h => first | exact pen_putAt (by walk_at "hp") _ | exact pen_putLeft (by walk_at "hp") _)))
local macro_rules | `(tactic| walk_at "u1") => `(tactic| first
  | with_reducible refine r_m1 ?_ | with_reducible refine r_m1s ?_ | with_reducible refine r_tupF ?_ | with_reducible refine r_bmF ?_)
local macro_rules | `(tactic| walk_at "kn") => `(tactic| first | assumption | (refine Pen.stp0 ?_ (by assumption); walk_at "kn"))
local macro_rules | `(tactic| walk_at "u1") => `(tactic| first
  | with_reducible refine r_pcons ?_ | with_reducible refine r_pnil ?_ | with_reducible refine r_disp ?_)
local macro_rules | `(tactic| walk_at "u1") => `(tactic| first
  | with_reducible refine r_gcons ?_ | with_reducible refine r_gnil ?_)
local macro_rules | `(tactic| walk_at "u1") => `(tactic| first
  | with_reducible refine iteN1 ?_ | with_reducible refine iteN2 ?_)
local macro_rules | `(tactic| walk_at "u1") => `(tactic| first
  | with_reducible refine r_revQ ?_)
local macro_rules | `(tactic| walk_at "u1") => `(tactic| first
  | with_reducible refine r_callS ?_)
local macro_rules | `(tactic| walk_at "u1") => `(tactic| first
  | with_reducible refine r_fld ?_ | with_reducible refine r_sfld ?_ | with_reducible refine r_meth ?_ | with_reducible refine r_make ?_ | with_reducible refine r_saddK ?_ | with_reducible refine r_saddT ?_)

structure Mgs (mg : Str → Option Value) : Prop where
  len : mg "len" = none
  range : mg "range" = none
  list_ : mg "list" = none
  tuple_ : mg "tuple" = none
  abs : mg "abs" = none
  max : mg "max" = none
  min : mg "min" = none
  sorted : mg "sorted" = none
  isinstance : mg "isinstance" = none
  int_ : mg "int" = none
  ValueError_ : mg "ValueError" = none
  bool_ : mg "bool" = none
  str_ : mg "str" = none
  dict_ : mg "dict" = none
  repr : mg "repr" = none
  zip : mg "zip" = none
  any : mg "any" = none
  all : mg "all" = none
  sum : mg "sum" = none
  set_ : mg "set" = none
abbrev sPen : Stmt := topS 21
theorem scPen : FnScope ["_law_script"] ["_law_script"] (defScope sPen) := ⟨rfl, rfl, rfl, by decide +kernel, rfl, by decide +kernel, by decide +kernel⟩
abbrev sDraw : Stmt := topS 22
theorem scDraw : FnScope ["_law_pen_here", "_law_many", "_law_digit", "_law_at", "_law_cell", "_law_blend"] ["_law_pen_here", "_law_many"] (defScope sDraw) := ⟨rfl, rfl, rfl, by decide +kernel, rfl, by decide +kernel, by decide +kernel⟩
abbrev sPick : Stmt := topS 23
theorem scPick : FnScope ["_law_pen_here", "_law_some"] ["_law_pen_here", "_law_some"] (defScope sPick) := ⟨rfl, rfl, rfl, by decide +kernel, rfl, by decide +kernel, by decide +kernel⟩
def spDraw (K : PySem.W.Frag) : Sp := fun vs H Q _ => ∃ (p : Addr) (i : Int) (m n : Nat) (G : Hp), vs = [.ref p, .int i] ∧ Same G H ∧ Pen K G p n H ∧ n < 2 ^ 40 ∧ i = (m : Int) ∧ 1 ≤ m ∧ m < 2 ^ 30 ∧
  ∀ (d : Nat) H', d < m → Stp (M1 p) G H G H' → Pen K G p (n + 1) H' → Q (.int (d : Int)) H'
abbrev DDraw (P : Program) (w : World) (K : PySem.W.Frag) (mg : Str → Option Value) (base : Heap) : Prop := Df P w K mg base CX0 1 "_law_draw" ["_law_pen_here", "_law_many"] (spDraw K)
section
variable {P : Program} {w : World} {K : PySem.W.Frag} {mg : Str → Option Value} {base : Heap}
theorem ok_Draw {f : Addr} {fd : FuncData} (F : Fun K "_law_draw" "_law_draw" sDraw f fd) (M : Mgs mg) : FnOk P w K mg base CX0 1 f fd ["_law_pen_here", "_law_many"] (spDraw K) := by
  refine F.ok scDraw (fun vs H Q E h => ?_) (fun cdv A outer s H vs Q E hr h => ?_)
  · obtain ⟨p, i, m, n, G, rfl, _⟩ := h
    rfl
  · obtain ⟨p, i, m, n, G, rfl, g0, hp, hn, rfl, hm, hm2, q⟩ := h
    have hu := hu_of hr
    have hu64 := hu64_of hr
    obtain ⟨gp, c, ns, a, l, hc, hl, ha, hH⟩ := hp
    refine ⟨_, ((pss_cons (ps_if (pt_cmpR op_gt (pe_dget hu (pv 0) pe_str (fun _ _ => rfl)) pe_int (nomark _))
    (pss_cons (ps_set (i := 2) scDraw.nd rfl (Or.inl rfl) (pe_op op_mod (pe_dget hu (pv 0) pe_str (fun _ _ => rfl)) (pv 1)))
    (pss_cons (ps_dput hu (pv 0) pe_str (pe_op op_fdiv (pe_dget hu (pv 0) pe_str (fun _ _ => rfl)) (pv 1)) rfl)
    (pss_one (ps_ret (pv 2)))))
    pss_nil)
    (pss_cons (ps_set (i := 3) scDraw.nd rfl (Or.inl rfl) (pe_dget hu (pv 0) pe_str (fun _ _ => rfl)))
    (pss_cons (ps_dput hu (pv 0) pe_str (pe_op op_add (pv 3) pe_int) rfl)
    (pss_cons (ps_set (i := 4) scDraw.nd rfl (Or.inl rfl) (pe_op op_add (pe_op op_mul pe_int (pv 3)) pe_int))
    (pss_cons (ps_if (pt_cmpR (k_op_neD (K := K) rfl hu64) (pe_dget hu (pv 0) pe_str (fun _ _ => rfl)) (pe_lst pa_nil) (nomark _))
    (pss_one (ps_set (i := 4) scDraw.nd rfl (Or.inl rfl) (pe_ix (k_ix_list (K := K) rfl) (pe_dget hu (pv 0) pe_str (fun _ _ => rfl)) (pe_op op_mod (pv 3) (pe_callB (k_len (K := K) rfl) (by rfl) M.len PySem.boot_len (pa_cons (pe_dget hu (pv 0) pe_str (fun _ _ => rfl)) pa_nil))) (fun _ _ => rfl))))
    pss_nil)
    (pss_cons (ps_if (PW.pt (pw_and (pt_cmpR op_lt (pv 3) (pe_callB (k_len (K := K) rfl) (by rfl) M.len PySem.boot_len (pa_cons (pe_dget hu (pv 0) pe_str (fun _ _ => rfl)) pa_nil)) (nomark _)) (pw_and1 (pt_cmpR op_ge (pe_callB call_absK (by rfl) M.abs (by decide +kernel) (pa_cons (pv 4) pa_nil)) (pe_op op_pow pe_int pe_int) (nomark _)))))
    (pss_cons (ps_dput hu (pv 0) pe_str (pe_op op_fdiv (pe_op op_sub (pe_callB call_absK (by rfl) M.abs (by decide +kernel) (pa_cons (pv 4) pa_nil)) (pe_op op_pow pe_int pe_int)) (pv 1)) rfl)
    (pss_one (ps_ret (pe_op op_mod (pe_op op_sub (pe_callB call_absK (by rfl) M.abs (by decide +kernel) (pa_cons (pv 4) pa_nil)) (pe_op op_pow pe_int pe_int)) (pv 1)))))
    pss_nil)
    (pss_cons (ps_set (i := 5) scDraw.nd rfl (Or.inl rfl) (pe_op op_mod (pe_op op_add (pe_op op_add (pe_op op_add (pe_op op_mul (pe_op op_mod (pv 4) pe_int) pe_int) (pe_op op_mul (pe_op op_mul pe_int (pv 3)) (pv 3))) (pe_op op_mul pe_int (pv 3))) pe_int) pe_int))
    (pss_cons (ps_set (i := 5) scDraw.nd rfl (Or.inl rfl) (pe_op op_mod (pe_op op_add (pe_op op_add (pe_op op_add (pe_op op_mul (pv 5) (pv 5)) (pe_op op_mul pe_int (pv 5))) (pe_op op_mul pe_int (pv 3))) pe_int) pe_int))
    (pss_one (ps_ret (pe_op op_mod (pe_op op_fdiv (pe_op op_mod (pe_op op_mul (pv 5) (pe_op op_add (pv 5) pe_int)) pe_int) pe_int) (pv 1))))))))))))), ?_⟩
    walk_at "go0"
    refine ifD (fun c1 => ?_) (fun c1 => ?_)
    · walk_at "go"
      obtain ⟨d, e, hd⟩ := mod_nat (i := l) hm
      rw [e]
      exact q d _ hd (Stp.mut g0 hH gp rfl) ⟨gp, c, ns, a, _, hc, hl, Nat.le_succ_of_le ha, upd_same⟩
    · walk_at "go"
      have s1 : Stp (M1 p) G H G (upd H p (penO c (a + 1) l)) := Stp.mut g0 hH gp rfl
      have h1 : (upd H p (penO c (a + 1) l)) p = some (penO c (a + 1) l) := upd_same
      generalize upd H p (penO c (a + 1) l) = H1 at s1 h1 ⊢
      have hc1 : SqL K H1 c (ns.map V.int) := s1.gh.seq hc
      refine ⟨Nat.zero_le _, fun z nz => ?_⟩
      have s2 : Stp (M1 p) G H G (upd H1 z (.lst [])) := s1.trans (Stp.newM s1.gh nz)
      have h2 : (upd H1 z (.lst [])) p = some (penO c (a + 1) l) := by rw [upd_ne (ne_of_none h1 nz)]; exact h1
      have hz : (upd H1 z (.lst [])) z = some (.lst (([] : List Int).map V.int)) := upd_same
      have hc2 : SqL K (upd H1 z (.lst [])) c (ns.map V.int) := (same_new nz).seq hc1
      generalize upd H1 z (.lst []) = H2 at s2 h2 hz hc2 ⊢
      refine r_neII hc2 (lof hz) ?_
      have fin : ∀ d : Nat, d < m → Q (.int (d : Int)) H2 := fun d hd => q d H2 hd s2 ⟨gp, c, ns, a + 1, l, hc, hl, Nat.succ_le_succ ha, h2⟩
      have fin2 : ∀ (d : Nat) (j : Int), d < m → Q (.int (d : Int)) (upd H2 p (penO c (a + 1) j)) := fun d j hd => q d _ hd (s2.trans (Stp.mut s2.gh h2 gp rfl)) ⟨gp, c, ns, a + 1, j, hc, hl, Nat.succ_le_succ ha, upd_same⟩
      walk_at "go"
      refine ifND (fun c2 => ?_) (fun c2 => ?_)
      · have hpos : 1 ≤ ns.length := by
          cases ns with
          | nil => exact absurd rfl c2
          | cons x r => simp
        obtain ⟨d0, e0, hd0⟩ := mod_nat (i := (a : Int)) hpos
        walk_at "go"
        rw [List.length_map, e0]
        refine r_ixL' hc2 rfl (v := .int ns[d0]) (by rw [List.getElem?_map, List.getElem?_eq_getElem hd0]; rfl) ?_
        generalize ns[d0] = cell
        walk_at "go"
        refine ifD (fun c3 => ?_) (fun c3 => ?_)
        · walk_at "go"
          refine ifD (fun c4 => ?_) (fun c4 => ?_)
          · walk_at "go"
            exact mod_q (Q := fun v => Q v _) hm (fun d hd => fin2 d _ hd)
          · walk_at "go"
            exact mod_q (Q := fun v => Q v _) hm fin
        · walk_at "go"
          exact mod_q (Q := fun v => Q v _) hm fin
      · walk_at "go"
        generalize (23 * (a : Int) + 7) = cell
        walk_at "go"
        refine ifD (fun c3 => ?_) (fun c3 => ?_)
        · walk_at "go"
          refine ifD (fun c4 => ?_) (fun c4 => ?_)
          · walk_at "go"
            exact mod_q (Q := fun v => Q v _) hm (fun d hd => fin2 d _ hd)
          · walk_at "go"
            exact mod_q (Q := fun v => Q v _) hm fin
        · walk_at "go"
          exact mod_q (Q := fun v => Q v _) hm fin
end
section
variable {P : Program} {w : World} {K : PySem.W.Frag} {mg : Str → Option Value} {base : Heap}
theorem use_draw {G H : Hp} {p : Addr} {i : Int} {m n : Nat} {Q : VK} {E : XK} (g0 : Same G H) (hp : Pen K G p n H) (hn : n < 2 ^ 40) (e : i = (m : Int)) (h1 : 1 ≤ m) (h2 : m < 2 ^ 30)
    (q : ∀ (d : Nat) H', d < m → Stp (M1 p) G H G H' → Pen K G p (n + 1) H' → Q (.int (d : Int)) H') : spDraw K [.ref p, .int i] H Q E := ⟨p, i, m, n, G, rfl, g0, hp, hn, e, h1, h2, q⟩
def spPick (K : PySem.W.Frag) : Sp := fun vs H Q _ => ∃ (p : Addr) (src : V) (items : List V) (n : Nat) (G : Hp), vs = [.ref p, src] ∧ Same G H ∧ Pen K G p n H ∧ n < 2 ^ 40 ∧ Src K G src items ∧ 1 ≤ items.length ∧ items.length < 2 ^ 30 ∧
  ∀ (d : Nat) x H', items[d]? = some x → Stp (M1 p) G H G H' → Pen K G p (n + 1) H' → Q x H'
abbrev DPick (P : Program) (w : World) (K : PySem.W.Frag) (mg : Str → Option Value) (base : Heap) : Prop := Df P w K mg base CX0 2 "_law_pick" ["_law_pen_here", "_law_some"] (spPick K)
theorem use_pick {G H : Hp} {p : Addr} {src : V} {items : List V} {n : Nat} {Q : VK} {E : XK} (g0 : Same G H) (hp : Pen K G p n H) (hn : n < 2 ^ 40) (hs : Src K G src items) (h1 : 1 ≤ items.length) (h2 : items.length < 2 ^ 30)
    (q : ∀ (d : Nat) x H', items[d]? = some x → Stp (M1 p) G H G H' → Pen K G p (n + 1) H' → Q x H') : spPick K [.ref p, src] H Q E := ⟨p, src, items, n, G, rfl, g0, hp, hn, hs, h1, h2, q⟩
theorem ok_Pick {f : Addr} {fd : FuncData} (F : Fun K "_law_pick" "_law_pick" sPick f fd) (M : Mgs mg) (D_draw : DDraw P w K mg base) : FnOk P w K mg base CX0 2 f fd ["_law_pen_here", "_law_some"] (spPick K) := by
  refine F.ok scPick (fun vs H Q E h => ?_) (fun cdv A outer s H vs Q E hr h => ?_)
  · obtain ⟨p, src, items, n, G, rfl, _⟩ := h
    rfl
  · obtain ⟨p, src, items, n, G, rfl, g0, hp, hn, hs, h1, h2, q⟩ := h
    refine ⟨_, ((pss_one (ps_ret (pe_ix (k_ix_seq (K := K) rfl) (pv 1) (pe_df D_draw hr (by rfl) pass0 (pa_cons (pv 0) (pa_cons (pe_callB (k_lenQ (K := K) rfl) (by rfl) M.len PySem.boot_len (pa_cons (pv 1) pa_nil)) pa_nil))) (fun _ _ => rfl))))), ?_⟩
    walk_at "go0"
    refine c_lenQ (Src.len (hs.same g0)) ?_
    walk_at "go"
    refine use_draw g0 hp hn rfl h1 h2 (fun d H' hd s1 hp1 => ?_)
    walk_at "go"
    exact Src.at (hs.same s1.gh) (List.getElem?_eq_getElem hd) (q d _ _ (List.getElem?_eq_getElem hd) s1 hp1)
def spPen (K : PySem.W.Frag) : Sp := fun vs H Q _ => ∃ (a : Addr) (ns : List Int) (G : Hp), vs = [.ref a] ∧ Same G H ∧ SqL K G a (ns.map V.int) ∧ ns.length ≤ 63 ∧
  ∀ p G' H', Stp M0 G H G' H' → Pen K G' p 0 H' → Q (.ref p) H'
abbrev DPen (P : Program) (w : World) (K : PySem.W.Frag) (mg : Str → Option Value) (base : Heap) : Prop := Df P w K mg base CX0 1 "_law_pen" ["_law_script"] (spPen K)
theorem ok_Pen {f : Addr} {fd : FuncData} (F : Fun K "_law_pen" "_law_pen" sPen f fd) (M : Mgs mg) : FnOk P w K mg base CX0 1 f fd ["_law_script"] (spPen K) := by
  refine F.ok scPen (fun vs H Q E h => ?_) (fun cdv A outer s H vs Q E hr h => ?_)
  · obtain ⟨a, ns, G, rfl, _⟩ := h
    rfl
  · obtain ⟨a, ns, G, rfl, g0, hS, hl, q⟩ := h
    refine ⟨_, ((pss_one (ps_ret (pe_disp (pps_cons pe_str (pe_callTy (k_list (K := K) rfl) (by rfl) M.list_ (by decide +kernel) (pa_cons (pe_slice (k_sl_list (K := K) rfl) (pv 0) po_none (po_some pe_int)) pa_nil)) (pps_cons pe_str pe_int (pps_cons pe_str pe_int pps_nil))) (by rfl) (by rfl) (fun z => by cases z) (by decide))))), ?_⟩
    walk_at "go0"
    intro p np
    walk_at "go"
    have n0 : ∀ b, b ≠ p → (upd H p (.dK [])) b = H b := fun b hb => upd_ne hb
    have s1 : Stp M0 G H G (upd H p (.dK [])) := Stp.newM g0 np
    have hp1 : (upd H p (.dK [])) p = some (.dK []) := upd_same
    generalize upd H p (.dK []) = H1 at s1 hp1 ⊢
    refine r_slL (s1.gh.seq hS) (fun l nl => ?_)
    have e1 : cutV (ns.map V.int) none (some 63) = ns.map V.int := by
      unfold cutV
      rw [show (some (63 : Int)) = some ((63 : Nat) : Int) from rfl, HT.sIx_nat, HT.sIx_none, List.drop_zero, List.length_map, Nat.sub_zero]
      exact List.take_of_length_le (by rw [List.length_map]; omega)
    rw [e1]
    walk_at "go"
    have s2 : Stp M0 G H G (upd H1 l (.lst (ns.map V.int))) := s1.trans (Stp.newM s1.gh nl)
    have hl2 : (upd H1 l (.lst (ns.map V.int))) l = some (.lst (ns.map V.int)) := upd_same
    have hp2 : (upd H1 l (.lst (ns.map V.int))) p = some (.dK []) := by rw [upd_ne (ne_of_none hp1 nl)]; exact hp1
    generalize upd H1 l (.lst (ns.map V.int)) = H2 at s2 hl2 hp2 ⊢
    refine c_list (.inl (lof hl2)) (fun k nk => ?_)
    have s3 : Stp M0 G H (upd G k (.lst (ns.map V.int))) (upd H2 k (.lst (ns.map V.int))) := s2.trans (Stp.new s2.gh nk)
    have hp3 : (upd H2 k (.lst (ns.map V.int))) p = some (.dK []) := by rw [upd_ne (ne_of_none hp2 nk)]; exact hp2
    have hk : (upd G k (.lst (ns.map V.int))) k = some (.lst (ns.map V.int)) := upd_same
    have gp : (upd G k (.lst (ns.map V.int))) p = none := by rw [upd_ne (ne_of_none hp2 nk)]; exact none_of g0 np
    generalize upd H2 k (.lst (ns.map V.int)) = H3 at s3 hp3 ⊢
    generalize upd G k (.lst (ns.map V.int)) = G3 at s3 hk gp ⊢
    walk_at "go"
    refine ⟨hp3, [(.inr "cells", .ref k), (.inr "at", .int 0), (.inr "left", .int 0)], rfl, (by show 3 ≤ 15; decide), ?_⟩
    rw [merge3 (by decide +kernel) (by decide +kernel) (by decide +kernel)]
    exact q p G3 _ (s3.inner (M' := M1 p) (Stp.mut s3.gh hp3 gp rfl) (fun a e => .inr (by rw [e]; exact np))) ⟨gp, k, ns, 0, 0, lof hk, hl, Nat.le_refl 0, upd_same⟩
end
abbrev sNames : Stmt := topS 25
theorem scNames : FnScope ["_law_pen_here", "_law_many", "_law_letters", "_law_base", "_law_at", "_law_begin", "_law_short", "_law_by", "_law_found", "_law_some", "_law_k", "_law_tail"] ["_law_pen_here", "_law_many"] (defScope sNames) := ⟨rfl, rfl, rfl, by decide +kernel, rfl, by decide +kernel, by decide +kernel⟩
section
variable {P : Program} {w : World} {K : PySem.W.Frag} {mg : Str → Option Value} {base : Heap}
def letters : Str := "abcdefghijklmnopqrstuvwxyz"
theorem letters_ok : ∀ c ∈ letters.cps.toList, 97 ≤ c ∧ c ≤ 122 := by decide +kernel
theorem letters_len : letters.cps.toList.length = 26 := by decide +kernel
def wordsT : Str := "room door folk rope post at acts go tie cut free a ab abc b ba ro roo rooms c ca cab z"
def wordsL : List Str := ["room", "door", "folk", "rope", "post", "at", "acts", "go", "tie", "cut", "free", "a", "ab", "abc", "b", "ba", "ro", "roo", "rooms", "c", "ca", "cab", "z"]
theorem words_eq : Txt.split wordsT " " = wordsL := by decide +kernel
instance (z : Str) : Decidable (NmOk z) := inferInstanceAs (Decidable (_ ∧ _ ∧ _))
theorem words_ok : ∀ z ∈ wordsL, NmOk z := by decide +kernel
def bysL : List Int := [1, 3, 5, 7, 9, 11, 15, 17, 19, 21, 23, 25]
theorem bys_ok : ∀ b ∈ bysL, 0 < b ∧ b < 26 := by decide
theorem words_nd : wordsL.Nodup := by decide +kernel
theorem letters_nd : letters.cps.toList.Nodup := by decide +kernel
theorem nodup_by {α β : Type} {ws : List α} (f : Nat → β) (g : α → β) (h : ∀ j z, ws[j]? = some z → g z = f j) (inj : ∀ j k, j < k → k < ws.length → f j ≠ f k) : ws.Nodup := by
  rw [List.Nodup, List.pairwise_iff_getElem]
  intro i j hi hj hij e
  refine inj i j hij hj ?_
  rw [← h i _ (List.getElem?_eq_getElem hi), ← h j _ (List.getElem?_eq_getElem hj), e]
theorem nd_get {α : Type} {l : List α} (h : l.Nodup) {i j : Nat} (hi : i < l.length) (e : l[i]? = l[j]?) : i = j := (List.getElem?_inj hi h).mp e
def fW (d2 : Nat) (j : Nat) : Option Str := wordsL[(((d2 : Int) + 5 * (j : Int)) % 23).toNat]?
def fL (d2 : Nat) (b : Int) (j : Nat) : Option Nat := letters.cps.toList[(((d2 : Int) + b * (j : Int)) % 26).toNat]?
theorem fW_inj (d2 j k : Nat) (h : j < k) (hk : k < 21) : fW d2 j ≠ fW d2 k := fun e => by
  have hl : wordsL.length = 23 := rfl
  have := nd_get words_nd (by rw [hl]; omega) e
  omega
theorem fL_inj (d2 : Nat) (b : Int) (hb : b ∈ bysL) (j k : Nat) (h : j < k) (hk : k < 21) : fL d2 b j ≠ fL d2 b k := fun e => by
  have hl := letters_len
  have e2 := nd_get letters_nd (by rw [hl]; omega) e
  simp only [bysL, List.mem_cons, List.not_mem_nil, or_false] at hb
  rcases hb with rfl | rfl | rfl | rfl | rfl | rfl | rfl | rfl | rfl | rfl | rfl | rfl <;> omega
def spNames (K : PySem.W.Frag) : Sp := fun vs H Q _ => ∃ (p : Addr) (i : Int) (m n : Nat) (G : Hp), vs = [.ref p, .int i] ∧ Same G H ∧ Pen K G p n H ∧ n + 100 < 2 ^ 40 ∧ i = (m : Int) ∧ m ≤ 20 ∧
  ∀ r (ns : List Str) G' H', Stp (M1 p) G H G' H' → Pen K G' p (n + 20) H' → SqL K G' r (ns.map V.str) → ns.length = m → (∀ z ∈ ns, NmOk z) → ns.Nodup → Q (.ref r) H'
abbrev DNames (P : Program) (w : World) (K : PySem.W.Frag) (mg : Str → Option Value) (base : Heap) : Prop := Df P w K mg base CX0 3 "_law_names" ["_law_pen_here", "_law_many"] (spNames K)
theorem ok_Names {f : Addr} {fd : FuncData} (F : Fun K "_law_names" "_law_names" sNames f fd) (M : Mgs mg) (D_draw : DDraw P w K mg base) (D_pick : DPick P w K mg base) : FnOk P w K mg base CX0 3 f fd ["_law_pen_here", "_law_many"] (spNames K) := by
  refine F.ok scNames (fun vs H Q E h => ?_) (fun cdv A outer s H vs Q E hr h => ?_)
  · obtain ⟨p, i, m, n, G, rfl, _⟩ := h
    rfl
  · obtain ⟨p, i, m, n, G, rfl, g0, hp, hn, rfl, hm, q⟩ := h
    refine ⟨_, ((pss_cons (ps_set (i := 2) scNames.nd rfl (Or.inr rfl) pe_str)
    (pss_cons (ps_set (i := 3) scNames.nd rfl (Or.inl rfl) (k_join (K := K) rfl pe_str (pe_lc (own := [("_law_k", 10)]) rfl scNames.nd (pi_range1 (by rfl) M.range (pa_cons (pe_op op_add pe_int (pe_df D_draw hr (by rfl) pass0 (pa_cons (pv 0) (pa_cons pe_int pa_nil)))) pa_nil)) (blkOk_by (N := ["_law_pen_here", "_law_many", "_law_letters", "_law_base", "_law_at", "_law_begin", "_law_short", "_law_by", "_law_found", "_law_some", "_law_k", "_law_tail"]) (sc := defScope sNames) (by decide +kernel)) (fun _ _ _ _ _ => (pg_name (i := 10) scNames.nd rfl (Or.inl rfl))) (fun _ _ _ _ _ => pts_nil) (fun _ _ _ _ _ => (pe_df D_pick hr (by rfl) pass0 (pa_cons (pv 0) (pa_cons (pv 2) pa_nil)))))))
    (pss_cons (ps_asg (pe_tup (pa_cons (pe_df D_draw hr (by rfl) pass0 (pa_cons (pv 0) (pa_cons (pe_callB call_lenS (by rfl) M.len PySem.boot_len (pa_cons (pv 3) pa_nil)) pa_nil))) (pa_cons (pe_df D_draw hr (by rfl) pass0 (pa_cons (pv 0) (pa_cons pe_int pa_nil))) (pa_cons (pe_df D_draw hr (by rfl) pass0 (pa_cons (pv 0) (pa_cons pe_int pa_nil))) pa_nil)))) (k_pg_tup (K := K) rfl rfl (pgs_cons (pg_name (i := 4) scNames.nd rfl (Or.inl rfl)) (pgs_cons (pg_name (i := 5) scNames.nd rfl (Or.inr rfl)) (pgs_cons (pg_name (i := 6) scNames.nd rfl (Or.inl rfl)) pgs_nil)))))
    (pss_cons (ps_par (i := 7) (j := 8) (by rfl) scNames.nd rfl rfl (by decide) rfl rfl (pa_cons (pe_df D_pick hr (by rfl) pass0 (pa_cons (pv 0) (pa_cons (pe_lst (pa_cons pe_int (pa_cons pe_int (pa_cons pe_int (pa_cons pe_int (pa_cons pe_int (pa_cons pe_int (pa_cons pe_int (pa_cons pe_int (pa_cons pe_int (pa_cons pe_int (pa_cons pe_int (pa_cons pe_int pa_nil))))))))))))) pa_nil))) (pa_cons (pe_lst pa_nil) pa_nil)) (by rfl))
    (pss_cons (ps_if (pt_cmpR op_eq (pv 7) pe_int (nomark _))
    (pss_cons (ps_set (i := 9) scNames.nd rfl (Or.inr rfl) pe_str)
    (pss_one (ps_ret (pe_lc (own := [("_law_k", 10)]) rfl scNames.nd (pi_range1 (by rfl) M.range (pa_cons (pv 1) pa_nil)) (blkOk_by (N := ["_law_pen_here", "_law_many", "_law_letters", "_law_base", "_law_at", "_law_begin", "_law_short", "_law_by", "_law_found", "_law_some", "_law_k", "_law_tail"]) (sc := defScope sNames) (by decide +kernel)) (fun _ _ _ _ _ => (pg_name (i := 10) scNames.nd rfl (Or.inl rfl))) (fun _ _ _ _ _ => pts_nil) (fun _ _ _ _ _ => (pe_ix (k_ix_list (K := K) rfl) (pe_splitK (pv 9) pe_str) (pe_op op_mod (pe_op op_add (pv 5) (pe_op op_mul pe_int (pv 10))) pe_int) (fun _ _ => rfl)))))))
    pss_nil)
    (pss_cons (ps_for PassesOwn.never rfl (pi_range1 (by rfl) M.range (pa_cons (pv 1) pa_nil)) (pg_name (i := 10) scNames.nd rfl (Or.inl rfl))
    (pss_cons (ps_set (i := 11) scNames.nd rfl (Or.inl rfl) (pe_slice sl_str (pe_slice sl_str (pv 3) (po_some (pe_op op_add (pv 4) pe_int)) po_none) po_none (po_some (pe_ix (k_ix_list (K := K) rfl) (pe_lst (pa_cons pe_int (pa_cons (pe_op op_mod (pv 10) pe_int) pa_nil))) (pv 6) (fun _ _ => rfl)))))
    (pss_one (ps_expr (k_bm (K := K) rfl PySem.F.plainAttrs_list PySem.F.slot_list_append PySem.F.type_list_append mt_append (pv 8) (pa_cons (pe_op op_addS (pe_op op_addS (pe_slice sl_str (pv 3) po_none (po_some (pv 4))) (pe_ix ix_str (pv 2) (pe_op op_mod (pe_op op_add (pv 5) (pe_op op_mul (pv 7) (pv 10))) pe_int) (fun _ _ => rfl))) (pv 11)) pa_nil))))))
    (pss_one (ps_ret (pv 8)))))))))), ?_⟩
    walk_at "go0"
    refine use_draw (m := 8) g0 hp (by omega) rfl (by omega) (by omega) (fun d0 H1 hd0 s1 hp1 => ?_)
    walk_at "go"
    refine lcR1 (M := M1 p) (n := 1 + d0) (by omega) (by omega) s1.gh (fun i acc G' H' => G = G' ∧ ∃ zs : List Nat, acc = zs.map (fun c => V.str ⟨#[c]⟩) ∧ zs.length = i ∧ (∀ c ∈ zs, 97 ≤ c ∧ c ≤ 122) ∧ Pen K G' p (n + 1 + i) H')
      (fun L hL => ⟨rfl, [], rfl, rfl, (fun _ h => by cases h), hp1.upd (hp1.new hL)⟩) (fun L i acc G' H' Em Sk hi hL hL' gL hacc st pv hEm _ => ?_) (fun L acc G' H' hL hacc st hL' gL pv => ?_)
    · obtain ⟨rfl, zs, rfl, hz, hzc, hpz⟩ := pv
      walk_at "go"
      refine ⟨rfl, ?_⟩
      walk_at "go"
      refine use_pick (items := letters.cps.toList.map fun c => V.str ⟨#[c]⟩) st.gh hpz (by omega) (.inr (.inr ⟨letters, rfl, by decide +kernel, rfl⟩)) (by decide +kernel) (by decide +kernel) (fun d x H2 hx s2 hp2 => ?_)
      obtain ⟨c, hc, rfl⟩ := map_get hx
      have hL2 : H2 L = some (.lst (zs.map fun c => V.str ⟨#[c]⟩)) := s2.up _ _ (hpz.ne hL') hL'
      refine hEm _ G H2 (st.trans s2) hL2 gL ⟨rfl, zs ++ [c], by rw [List.map_append]; rfl, by rw [List.length_append, hz]; rfl, fun e he => ?_, ?_⟩
      · rcases List.mem_append.mp he with he | he
        · exact hzc e he
        · rw [List.mem_singleton.mp he]
          exact letters_ok c (List.mem_of_getElem? hc)
      · exact (hp2.upd (hp2.ne hL2)).mono (by omega)
    · obtain ⟨rfl, zs, rfl, hz, hzc, hpz⟩ := pv
      walk_at "go"
      have hzl : zs.length = 1 + d0 := hz
      refine c_join (ys := zs.map fun c => (⟨#[c]⟩ : Str)) (lof (by rw [List.map_map]; exact hL')) ?_ ?_
      · have e1 : ((zs.map fun c => (⟨#[c]⟩ : Str)).map (·.length)).sum = zs.length := by
          rw [List.map_map, show ((fun z : Str => z.length) ∘ fun c => (⟨#[c]⟩ : Str)) = fun _ => 1 from rfl, List.map_const', List.sum_replicate_nat, Nat.mul_one]
        rw [e1, show Str.length "" = 0 by decide +kernel]
        omega
      rw [show (Str.ofString "") = (⟨#[]⟩ : Str) by decide +kernel, join_signs]
      have hBl : Str.length ⟨zs.toArray⟩ = 1 + d0 := by show zs.toArray.size = 1 + d0; rw [List.size_toArray]; omega
      have hB : Str.length ⟨zs.toArray⟩ ≤ sizeLine := by rw [hBl]; exact Nat.le_trans (show 1 + d0 ≤ 100 by omega) (by decide)
      generalize hBe : (⟨zs.toArray⟩ : Str) = B at hBl hB ⊢
      walk_at "go"
      refine use_draw (m := 1 + d0) st.gh hpz (by omega) (by rw [hBl]) (by omega) (by omega) (fun d1 H2 hd1 s2 hp2 => ?_)
      walk_at "go"
      refine use_draw (m := 26) s2.gh hp2 (by omega) rfl (by omega) (by omega) (fun d2 H3 hd2 s3 hp3 => ?_)
      walk_at "go"
      refine use_draw (m := 2) s3.gh hp3 (by omega) rfl (by omega) (by omega) (fun d3 H4 hd3 s4 hp4 => ?_)
      walk_at "go"
      refine ⟨by show 3 ≤ sizeLine; decide, fun t nt => ?_⟩
      have s5 : Stp (M1 p) G H4 G (upd H4 t (.tup [.int d1, .int d2, .int d3])) := Stp.newM s4.gh nt
      have ht : (upd H4 t (.tup [.int d1, .int d2, .int d3])) t = some (.tup [.int d1, .int d2, .int d3]) := upd_same
      have hp5 := hp4.upd (x := .tup [.int d1, .int d2, .int d3]) (hp4.new nt)
      generalize upd H4 t (.tup [.int d1, .int d2, .int d3]) = H5 at s5 ht hp5 ⊢
      refine r_gtup (tof ht) rfl ?_
      walk_at "go"
      refine ⟨by show 12 ≤ sizeLine; decide, fun l nl => ?_⟩
      have s6 : Stp (M1 p) G H5 (upd G l (.lst (bysL.map V.int))) (upd H5 l (.lst (bysL.map V.int))) := Stp.new s5.gh nl
      have hp6 : Pen K (upd G l (.lst (bysL.map V.int))) p (n + 1 + (1 + d0) + 1 + 1 + 1) (upd H5 l (.lst (bysL.map V.int))) := hp5.stp (Stp.new (M := M0) s5.gh nl) (fun z => z)
      have hl6 : SqL K (upd G l (.lst (bysL.map V.int))) l (bysL.map V.int) := lof upd_same
      show tNil _ (upd H5 l (.lst (bysL.map V.int))) _
      generalize upd H5 l (.lst (bysL.map V.int)) = H6 at s6 hp6 ⊢
      generalize upd G l (.lst (bysL.map V.int)) = G6 at s6 hp6 hl6 ⊢
      walk_at "go"
      refine use_pick (items := bysL.map V.int) s6.gh hp6 (by omega) (.inl ⟨l, rfl, hl6⟩) (by decide) (by decide) (fun d4 x H7 hx s7 hp7 => ?_)
      obtain ⟨dby, hby, rfl⟩ := map_get hx
      have hby2 := bys_ok _ (List.mem_of_getElem? hby)
      walk_at "go"
      refine ⟨Nat.zero_le _, fun o no => ?_⟩
      have sA : Stp (M1 p) G H G6 H7 := (((((s1.trans st).trans s2).trans s3).trans s4).trans s5).trans (s6.trans s7)
      clear s1 hp1 s2 hp2 s3 hp3 s4 hp4 s5 hp5 s6 hp6 ht nt hx hl6 st hpz
      have sB : Stp (M1 p) G6 H7 G6 (upd H7 o (.lst (([] : List Str).map V.str))) := Stp.newM s7.gh no
      have ho : (upd H7 o (.lst (([] : List Str).map V.str))) o = some (.lst (([] : List Str).map V.str)) := upd_same
      have hpB := hp7.upd (x := .lst (([] : List Str).map V.str)) (hp7.new no)
      have gO : G6 o = none := none_of s7.gh no
      have hO : H o = none := sA.free no
      show tNil _ (upd H7 o (.lst (([] : List Str).map V.str))) _
      generalize upd H7 o (.lst (([] : List Str).map V.str)) = H8 at sB ho hpB ⊢
      walk_at "go"
      refine ifD (fun c => ?_) (fun c => ?_)
      · walk_at "go"
        refine lcR1 (M := M1 p) (n := m) (by omega) (by omega) sB.gh (fun i acc G' H' => G6 = G' ∧ ∃ ws : List Str, acc = ws.map V.str ∧ ws.length = i ∧ (∀ z ∈ ws, NmOk z) ∧ (∀ j z, ws[j]? = some z → some z = fW d2 j) ∧ Pen K G' p (n + 20) H')
          (fun L hL => ⟨rfl, [], rfl, rfl, (fun _ h => by cases h), (fun j z h => by simp at h), (hpB.upd (hpB.new hL)).mono (by omega)⟩) (fun L i acc G' H' Em Sk hi hL hL' gL hacc st pv hEm _ => ?_) (fun L acc G' H' hL hacc st hL' gL pv => ?_)
        · obtain ⟨e, ws, rfl, hw, hwn, hwf, hpz⟩ := pv
          subst e
          walk_at "go"
          refine ⟨rfl, ?_⟩
          walk_at "go"
          refine c_split (by decide +kernel) (by decide +kernel) (fun t nt => ?_)
          rw [show (Str.ofString "room door folk rope post at acts go tie cut free a ab abc b ba ro roo rooms c ca cab z") = wordsT from rfl, words_eq]
          have sC : Stp (M1 p) G6 H8 G6 (upd H' t (.lst (wordsL.map V.str))) := st.trans (Stp.newM st.gh nt)
          have ht : (upd H' t (.lst (wordsL.map V.str))) t = some (.lst (wordsL.map V.str)) := upd_same
          have hLt : (upd H' t (.lst (wordsL.map V.str))) L = some (.lst (ws.map V.str)) := by rw [upd_ne (ne_of_none hL' nt)]; exact hL'
          have hpt := hpz.upd (x := .lst (wordsL.map V.str)) (hpz.new nt)
          generalize upd H' t (.lst (wordsL.map V.str)) = H9 at sC ht hLt hpt ⊢
          walk_at "go"
          obtain ⟨d, ed, hd⟩ := mod_nat (i := (d2 : Int) + 5 * (i : Int)) (m := 23) (by omega)
          have hd' : d < wordsL.length := hd
          refine r_ixL' (lof ht) ed (v := .str wordsL[d]) (by rw [List.getElem?_map, List.getElem?_eq_getElem hd']; rfl) ?_
          refine hEm _ G6 H9 sC hLt gL ⟨rfl, ws ++ [wordsL[d]], by rw [List.map_append]; rfl, by rw [List.length_append, hw]; rfl, fun e he => ?_, fun j z hz => ?_, hpt.upd (hpt.ne hLt)⟩
          · rcases List.mem_append.mp he with he | he
            · exact hwn e he
            · rw [List.mem_singleton.mp he]
              exact words_ok _ (List.getElem_mem hd')
          · by_cases cj : j < ws.length
            · rw [List.getElem?_append_left cj] at hz
              exact hwf j z hz
            · have ej : j = i := by
                rcases Nat.lt_or_ge j (ws.length + 1) with x | x
                · omega
                · rw [List.getElem?_eq_none (by rw [List.length_append]; exact x)] at hz; cases hz
              subst ej
              rw [List.getElem?_append_right (by omega), show j - ws.length = 0 by omega] at hz
              rw [← hz]
              unfold fW
              rw [show (((d2 : Nat) : Int) + 5 * ((j : Nat) : Int)) % 23 = (d : Int) from ed, Int.toNat_natCast, List.getElem?_eq_getElem hd']
              rfl
        · obtain ⟨e, ws, rfl, hw, hwn, hwf, hpz⟩ := pv
          subst e
          have hL0 : H L = none := sA.free (sB.free hL)
          exact q L ws (upd G6 L _) H' (((sA.trans sB).trans st).freeze hL' hL0 gL) (hpz.know (same_new gL) (by rw [upd_ne (hpz.ne hL').symm]; exact hpz.1)) (lof upd_same) hw hwn (nodup_by (fW d2) some hwf (fun j k h1 h2 => fW_inj d2 j k h1 (by omega)))
      · walk_at "go"
        refine loopR1 (n := m) rfl (by omega) (fun i σ H' => ∃ y10 y11, ∃ ws : List Str, σ = [some (.ref p), some (.int (m : Int)), some (.str letters), some (.str B), some (.int (d1 : Int)), some (.int (d2 : Int)), some (.int (d3 : Int)), some (.int dby), some (.ref o), none, y10, y11] ∧
          Stp (M1 p) G H G6 H' ∧ H' o = some (.lst (ws.map V.str)) ∧ ws.length = i ∧ (∀ z ∈ ws, NmOk z) ∧ (∀ j z, ws[j]? = some z → z.cps.toList[d1]? = fL d2 dby j) ∧ Pen K G6 p (n + 20) H') ⟨none, none, [], rfl, sA.trans sB, ho, rfl, (fun _ h => by cases h), (fun j z h => by simp at h), hpB.mono (by omega)⟩ (fun i σ H' hi pv => ?_) (fun σ H' pv => ?_)
        · obtain ⟨y10, y11, ws, rfl, st, ho', hw, hwn, hwf, hpz⟩ := pv
          walk_at "go"
          refine r_slS hB ?_
          walk_at "go"
          refine ⟨by show 2 ≤ sizeLine; decide, fun t nt => ?_⟩
          have sC : Stp (M1 p) G H G6 (upd H' t (.lst [.int 8, .int ((i : Int) % 3)])) := st.trans (Stp.newM st.gh nt)
          have ht : (upd H' t (.lst [.int 8, .int ((i : Int) % 3)])) t = some (.lst [.int 8, .int ((i : Int) % 3)]) := upd_same
          have hot : (upd H' t (.lst [.int 8, .int ((i : Int) % 3)])) o = some (.lst (ws.map V.str)) := by rw [upd_ne (ne_of_none ho' nt)]; exact ho'
          have hpt := hpz.upd (x := .lst [.int 8, .int ((i : Int) % 3)]) (hpz.new nt)
          generalize upd H' t (.lst [.int 8, .int ((i : Int) % 3)]) = H9 at sC ht hot hpt ⊢
          walk_at "go"
          obtain ⟨v, hv⟩ : ∃ v : Nat, ([.int 8, .int ((i : Int) % 3)] : List V)[d3]? = some (.int (v : Int)) := by
            have h : d3 = 0 ∨ d3 = 1 := by omega
            rcases h with rfl | rfl
            · exact ⟨8, rfl⟩
            · exact ⟨i % 3, rfl⟩
          refine r_ixL' (lof ht) rfl hv ?_
          walk_at "go"
          have hT : (cutS B (some ((d1 : Int) + 1)) none).length = (1 + d0) - (d1 + 1) := by rw [show ((d1 : Int) + 1) = ((d1 + 1 : Nat) : Int) by omega, cutS_from, hBl]
          refine r_slS (Nat.le_trans (cutS_le _ _ _) hB) ?_
          walk_at "go"
          have hT2 : (cutS (cutS B (some ((d1 : Int) + 1)) none) none (some (v : Int))).length ≤ (1 + d0) - (d1 + 1) := by rw [← hT]; exact cutS_le _ _ _
          have hT3 : ∀ c ∈ (cutS (cutS B (some ((d1 : Int) + 1)) none) none (some (v : Int))).cps.toList, c ∈ B.cps.toList := fun c h => cutS_mem (cutS_mem h)
          generalize cutS (cutS B (some ((d1 : Int) + 1)) none) none (some (v : Int)) = T at hT2 hT3 ⊢
          refine r_slS hB ?_
          walk_at "go"
          have hF : (cutS B none (some (d1 : Int))).length = d1 := by rw [cutS_to, hBl]; omega
          have hF3 : ∀ c ∈ (cutS B none (some (d1 : Int))).cps.toList, c ∈ B.cps.toList := fun c h => cutS_mem h
          generalize cutS B none (some (d1 : Int)) = F0 at hF hF3 ⊢
          obtain ⟨d, ed, hd⟩ := mod_nat (i := (d2 : Int) + dby * (i : Int)) (m := 26) (by omega)
          have hd' : d < letters.cps.toList.length := by rw [letters_len]; exact hd
          refine r_ixS' (by decide +kernel) ed (List.getElem?_eq_getElem hd') ?_
          have hcc := letters_ok _ (List.getElem_mem hd')
          have hfl : fL d2 dby i = some letters.cps.toList[d] := by
            unfold fL
            rw [show (((d2 : Nat) : Int) + dby * ((i : Nat) : Int)) % 26 = (d : Int) from ed, Int.toNat_natCast, List.getElem?_eq_getElem hd']
          generalize letters.cps.toList[d] = cc at hcc hfl ⊢
          refine c_addS (by rw [hF]; show d1 + 1 ≤ sizeLine; exact Nat.le_trans (show d1 + 1 ≤ 100 by omega) (by decide)) ?_
          walk_at "go"
          have hFC : (F0 ++ (⟨#[cc]⟩ : Str)).length = d1 + 1 := by
            show (F0.cps ++ #[cc]).size = d1 + 1
            rw [Array.size_append]
            show F0.length + 1 = d1 + 1
            rw [hF]
          refine c_addS (by rw [hFC]; exact Nat.le_trans (show d1 + 1 + T.length ≤ 100 by omega) (by decide)) ?_
          walk_at "go"
          have hzc' : ∀ c ∈ B.cps.toList, 97 ≤ c ∧ c ≤ 122 := fun c hc => hzc c (by rw [← hBe] at hc; exact hc)
          have hN : NmOk (F0 ++ (⟨#[cc]⟩ : Str) ++ T) := nm_cat (b := B) (by omega) hzc' hF3 (fun c h => by rw [List.mem_singleton.mp h]; exact hcc) hT3 rfl (by omega)
          refine c_append hot (small5 (by rw [List.length_map, hw]; omega)) ?_
          refine ⟨_, _, ws ++ [F0 ++ (⟨#[cc]⟩ : Str) ++ T], rfl, sC.inner (M' := M1 o) (Stp.mut sC.gh hot gO rfl) (fun a e => .inr (by rw [e]; exact hO)), ?_, by rw [List.length_append, hw]; rfl, fun e he => ?_, fun j z hz => ?_, hpt.upd (hpt.ne hot)⟩
          · rw [upd_same, List.map_append]
            rfl
          · rcases List.mem_append.mp he with he | he
            · exact hwn e he
            · rw [List.mem_singleton.mp he]
              exact hN
          · by_cases cj : j < ws.length
            · rw [List.getElem?_append_left cj] at hz
              exact hwf j z hz
            · have ej : j = i := by
                rcases Nat.lt_or_ge j (ws.length + 1) with x | x
                · omega
                · rw [List.getElem?_eq_none (by rw [List.length_append]; exact x)] at hz; cases hz
              subst ej
              rw [List.getElem?_append_right (by omega), show j - ws.length = 0 by omega] at hz
              rw [← Option.some.inj hz, hfl, app_list, app_list, List.append_assoc, List.getElem?_append_right (by show F0.cps.toList.length ≤ d1; rw [Array.length_toList]; exact Nat.le_of_eq hF), show d1 - F0.cps.toList.length = 0 by rw [Array.length_toList]; have : F0.cps.size = d1 := hF; omega]
              rfl
        · obtain ⟨y10, y11, ws, rfl, st, ho', hw, hwn, hwf, hpz⟩ := pv
          walk_at "go"
          have gO : G6 o = none := gO
          exact q o ws (upd G6 o _) H' (st.freeze ho' hO gO) (hpz.know (same_new gO) (by rw [upd_ne (hpz.ne ho').symm]; exact hpz.1)) (lof upd_same) hw hwn (nodup_by (fL d2 dby) (fun z => z.cps.toList[d1]?) hwf (fun j k h1 h2 => fL_inj d2 dby (List.mem_of_getElem? hby) j k h1 (by omega)))
end
abbrev sNear : Stmt := topS 26
theorem scNear : FnScope ["_law_yard_here", "_law_room", "_law_some", "_law_pair"] ["_law_yard_here", "_law_room"] (defScope sNear) := ⟨rfl, rfl, rfl, by decide +kernel, rfl, by decide +kernel, by decide +kernel⟩
section
variable {P : Program} {w : World} {K : PySem.W.Frag} {mg : Str → Option Value} {base : Heap}
def spNear (K : PySem.W.Frag) : Sp := fun vs H Q _ => ∃ (y : Addr) (x : Str) (rs : List Str) (ds : List Dr) (G : Hp), vs = [.ref y, .str x] ∧ Same G H ∧ Yard K G y rs ds ∧ ds.length < 64 ∧
  ∀ r (ys : List Str) G' H', Stp M0 G H G' H' → SqL K G' r (ys.map V.str) → ys.Perm (nb ds x) → sortedS ys = true → Q (.ref r) H'
abbrev DNear (P : Program) (w : World) (K : PySem.W.Frag) (mg : Str → Option Value) (base : Heap) : Prop := Df P w K mg base CX0 1 "_law_near" ["_law_yard_here", "_law_room"] (spNear K)
theorem use_near {G H : Hp} {y : Addr} {x : Str} {rs : List Str} {ds : List Dr} {Q : VK} {E : XK} (g0 : Same G H) (hy : Yard K G y rs ds) (hl : ds.length < 64)
    (q : ∀ r (ys : List Str) G' H', Stp M0 G H G' H' → SqL K G' r (ys.map V.str) → ys.Perm (nb ds x) → sortedS ys = true → Q (.ref r) H') : spNear K [.ref y, .str x] H Q E := ⟨y, x, rs, ds, G, rfl, g0, hy, hl, q⟩
theorem mem_pair {x : Str} {d : Dr} : decide (x ∈ [d.1, d.2]) = hasD x d := by
  unfold hasD
  by_cases h1 : d.1 = x
  · simp [h1]
  · by_cases h2 : d.2 = x
    · simp [h2]
    · simp [h1, h2, Ne.symm h1, Ne.symm h2]
theorem ok_Near {f : Addr} {fd : FuncData} (F : Fun K "_law_near" "_law_near" sNear f fd) (M : Mgs mg) : FnOk P w K mg base CX0 1 f fd ["_law_yard_here", "_law_room"] (spNear K) := by
  refine F.ok scNear (fun vs H Q E h => ?_) (fun cdv A outer s H vs Q E hr h => ?_)
  · obtain ⟨y, x, rs, ds, G, rfl, _⟩ := h
    rfl
  · obtain ⟨y, x, rs, ds, G, rfl, g0, ⟨d, xs, hy, hS, hD⟩, hl, q⟩ := h
    have hu := hu_of hr
    refine ⟨_, ((pss_cons (ps_setLc (i := 2) (own := [("_law_pair", 3)]) rfl scNear.nd rfl rfl (sw_true rfl rfl rfl (by decide +kernel)) (k_pi_list (K := K) rfl (pe_dget hu (pv 0) pe_str (fun _ _ => rfl))) (blkOk_by (N := ["_law_yard_here", "_law_room", "_law_some", "_law_pair"]) (sc := defScope sNear) (by decide +kernel)) (fun _ _ _ _ _ => (pg_name (i := 3) scNear.nd rfl (Or.inl rfl))) (fun _ _ _ _ _ => (pts_one (pt_cmpR (k_op_in (K := K) rfl) (pv 1) (pv 3) (by rfl)))) (fun _ _ _ _ _ => (pv 3)))
    (pss_one (ps_ret (pe_callB (k_sortedS (K := K) rfl) (by rfl) M.sorted (by decide +kernel) (pa_cons (pe_lc (own := [("_law_pair", 3)]) rfl scNear.nd (k_pi_list (K := K) rfl (pv 2)) (blkOk_by (N := ["_law_yard_here", "_law_room", "_law_some", "_law_pair"]) (sc := defScope sNear) (by decide +kernel)) (fun _ _ _ _ _ => (pg_name (i := 3) scNear.nd rfl (Or.inl rfl))) (fun _ _ _ _ _ => pts_nil) (fun _ _ _ _ _ => (pe_ix (k_ix_tup (K := K) rfl) (pv 3) (pe_op op_sub pe_int (pe_bmF PySem.F.plainAttrs_tuple PySem.F.slot_tuple_index PySem.F.type_tuple_index (k_tupIndex (K := K) rfl) (pv 3) (pa_cons (pv 1) pa_nil))) (fun _ _ => rfl)))) pa_nil)))))), ?_⟩
    walk_at "go0"
    refine r_dget' (hy.same g0).doors ?_
    refine lcL (M := M0) hS (by rw [hD.1]; omega) g0 (fun i acc G' H' => G = G' ∧ DrAll G acc ((ds.take i).filter (hasD x))) (fun L hL => ⟨rfl, by simpa using DrAll.nil⟩)
      (fun L i v acc G' H' Em Sk hi hL hL' gL hacc st pv hv hEm hSk => ?_) (fun L acc G' H' hL hacc st hL' gL pv => ?_)
    · obtain ⟨e, hA⟩ := pv
      subst e
      have hi' : i < ds.length := by rw [← hD.1]; exact hi
      obtain ⟨t, o, ht, hg, ho⟩ := hD.2 i _ (List.getElem?_eq_getElem hi')
      cases ht.symm.trans hv
      have e1 := take_succ_get (List.getElem?_eq_getElem hi')
      walk_at "go"
      refine ⟨rfl, ?_⟩
      walk_at "go"
      refine r_inT (frz_t (st.gh _ _ hg)) ?_
      walk_at "go"
      refine ifD (fun c => ?_) (fun c => ?_)
      · walk_at "go"
        refine hEm _ G H' st hL' gL ⟨rfl, ?_⟩
        rw [e1, List.filter_append, List.filter_cons_of_pos (by rw [← mem_pair]; exact decide_eq_true c)]
        exact hA.snoc hg ho
      · refine hSk G H' st hL' gL ⟨rfl, ?_⟩
        rw [e1, List.filter_append, List.filter_cons_of_neg (by rw [← mem_pair]; exact fun z => c (of_decide_eq_true z)), List.filter_nil, List.append_nil]
        exact hA
    · obtain ⟨e, hA⟩ := pv
      subst e
      rw [List.take_of_length_le (by rw [hD.1]; exact Nat.le_refl _)] at hA
      have sF : Stp M0 G H (upd G L (.lst acc)) H' := st.freeze hL' hL gL
      have hGL : (upd G L (.lst acc)) L = some (.lst acc) := upd_same
      have hA1 : DrAll (upd G L (.lst acc)) acc (ds.filter (hasD x)) := hA.same (same_new gL)
      generalize upd G L (.lst acc) = G1 at sF hGL hA1
      walk_at "go"
      generalize hfs : ds.filter (hasD x) = fs at hA1
      refine lcL (M := M0) (G := G1) (lof hGL) (Nat.lt_of_le_of_lt hacc (by rw [hD.1]; omega)) sF.gh (fun i acc' G' H2 => G1 = G' ∧ acc' = ((fs.take i).map (oth x)).map V.str) (fun L hL => ⟨rfl, rfl⟩)
        (fun LL i v acc' G' H2 Em Sk hi hl2 hl2' gl2 hacc' st2 pv hv hEm hSk => ?_) (fun LL acc' G' H2 hl2 hacc' st2 hl2' gl2 pv => ?_)
      · obtain ⟨e, rfl⟩ := pv
        subst e
        have hi' : i < fs.length := by rw [← hA1.1]; exact hi
        obtain ⟨t, o, ht, hg, ho⟩ := hA1.2 i _ (List.getElem?_eq_getElem hi')
        cases ht.symm.trans hv
        have hx : hasD x fs[i] = true := by
          have hm : fs[i] ∈ ds.filter (hasD x) := by rw [hfs]; exact List.getElem_mem hi'
          exact (List.mem_filter.mp hm).2
        have e1 := take_succ_get (List.getElem?_eq_getElem hi')
        have hg2 : H2 t = some (.frz o (.tup ([fs[i].1, fs[i].2].map V.str))) := st2.gh _ _ hg
        have fin : ∀ z, z = oth x fs[i] → Em (.str z) H2 := fun z ez => by
          refine hEm _ G1 H2 st2 hl2' gl2 ⟨rfl, ?_⟩
          rw [e1, List.map_append, List.map_append, ez]
          rfl
        generalize fs[i] = d at hx hg2 fin
        walk_at "go"
        refine ⟨rfl, ?_⟩
        walk_at "go"
        refine c_methF hg2 ho ?_
        walk_at "go"
        by_cases h1 : d.1 = x
        · refine c_tupIndex (j := 0) hg2 (by rw [← h1]; rfl) (fun m hm => absurd hm (Nat.not_lt_zero m)) ?_
          walk_at "go"
          refine r_ixT' (n := 1) (frz_t hg2) (by omega) rfl ?_
          exact fin _ (by unfold oth; rw [if_pos h1])
        · have h2 : d.2 = x := by
            unfold hasD at hx
            rw [decide_eq_false h1, Bool.false_or] at hx
            exact of_decide_eq_true hx
          refine c_tupIndex (j := 1) hg2 (by rw [← h2]; rfl) (fun m hm => ?_) ?_
          · have : m = 0 := by omega
            subst this
            intro e
            exact h1 (Option.some.inj e)
          walk_at "go"
          refine r_ixT' (n := 0) (frz_t hg2) (by omega) rfl ?_
          exact fin _ (by unfold oth; rw [if_neg h1])
      · obtain ⟨e, rfl⟩ := pv
        subst e
        rw [List.take_of_length_le (by rw [hA1.1]; exact Nat.le_refl _)] at hl2'
        walk_at "go"
        refine c_sorted (lof hl2') (by rw [List.length_map, ← hfs]; exact Nat.lt_of_le_of_lt (List.length_filter_le _ _) hl) (fun ys r hperm hsort nr => ?_)
        exact q r ys (upd G1 r _) _ ((sF.trans st2).trans (Stp.new st2.gh nr)) (lof upd_same) (by rw [← hfs] at hperm; exact hperm) hsort
end
abbrev sMayDoor : Stmt := topS 27
theorem scMayDoor : FnScope ["_law_yard_here", "_law_one", "_law_other", "_law_some", "_law_room"] ["_law_yard_here", "_law_one", "_law_other"] (defScope sMayDoor) := ⟨rfl, rfl, rfl, by decide +kernel, rfl, by decide +kernel, by decide +kernel⟩
abbrev sDrawnPairs : Stmt := topS 29
theorem scDrawnPairs : FnScope ["_law_pen_here", "_law_many", "_law_count", "_law_k"] ["_law_pen_here", "_law_many", "_law_count"] (defScope sDrawnPairs) := ⟨rfl, rfl, rfl, by decide +kernel, rfl, by decide +kernel, by decide +kernel⟩
section
variable {P : Program} {w : World} {K : PySem.W.Frag} {mg : Str → Option Value} {base : Heap}
def mayD (ds : List Dr) (a b : Str) : Bool := decide (a ≠ b) && decide (b ∉ nb ds a) && decide (∀ r ∈ nb ds a, r ∉ nb ds b)
def DsOk (ds : List Dr) : Prop := ∀ d ∈ ds, SOk d.1 ∧ SOk d.2
theorem nb_ok {ds : List Dr} {x z : Str} (h : DsOk ds) (hz : z ∈ nb ds x) : SOk z := by
  obtain ⟨d, hd, rfl⟩ := List.mem_map.mp hz
  have h1 := h d (List.mem_filter.mp hd).1
  unfold oth
  split
  · exact h1.2
  · exact h1.1
def spMayDoor (K : PySem.W.Frag) : Sp := fun vs H Q _ => ∃ (y : Addr) (a b : Str) (rs : List Str) (ds : List Dr) (G : Hp), vs = [.ref y, .str a, .str b] ∧ Same G H ∧ Yard K G y rs ds ∧ ds.length < 64 ∧ DsOk ds ∧
  ∀ G' H', Stp M0 G H G' H' → Q (.bl (mayD ds a b)) H'
abbrev DMayDoor (P : Program) (w : World) (K : PySem.W.Frag) (mg : Str → Option Value) (base : Heap) : Prop := Df P w K mg base CX0 2 "_law_may_door" ["_law_yard_here", "_law_one", "_law_other"] (spMayDoor K)
theorem ok_MayDoor {f : Addr} {fd : FuncData} (F : Fun K "_law_may_door" "_law_may_door" sMayDoor f fd) (M : Mgs mg) (D_near : DNear P w K mg base) : FnOk P w K mg base CX0 2 f fd ["_law_yard_here", "_law_one", "_law_other"] (spMayDoor K) := by
  refine F.ok scMayDoor (fun vs H Q E h => ?_) (fun cdv A outer s H vs Q E hr h => ?_)
  · obtain ⟨y, a, b, rs, ds, G, rfl, _⟩ := h
    rfl
  · obtain ⟨y, a, b, rs, ds, G, rfl, g0, hy, hl, hds, q⟩ := h
    have hu := hu_of hr
    have hu64 := hu64_of hr
    refine ⟨_, ((pss_cons (ps_if (PW.pt (pw_or (pt_cmpR op_eq (pv 1) (pv 2) (nomark _)) (pw_or1 (pt_cmpR (k_op_in (K := K) rfl) (pv 2) (pe_df D_near hr (by rfl) pass0 (pa_cons (pv 0) (pa_cons (pv 1) pa_nil))) (by rfl)))))
    (pss_one (ps_ret pe_bl))
    pss_nil)
    (pss_cons (ps_set (i := 3) scMayDoor.nd rfl (Or.inr rfl) (pe_df D_near hr (by rfl) pass0 (pa_cons (pv 0) (pa_cons (pv 2) pa_nil))))
    (pss_one (ps_ret (pe_cmpR (k_op_eqD (K := K) rfl hu64) (pe_lc (own := [("_law_room", 4)]) rfl scMayDoor.nd (k_pi_list (K := K) rfl (pe_df D_near hr (by rfl) pass0 (pa_cons (pv 0) (pa_cons (pv 1) pa_nil)))) (blkOk_by (N := ["_law_yard_here", "_law_one", "_law_other", "_law_some", "_law_room"]) (sc := defScope sMayDoor) (by decide +kernel)) (fun _ _ _ _ _ => (pg_name (i := 4) scMayDoor.nd rfl (Or.inl rfl))) (fun _ _ _ _ _ => (pts_one (pt_cmpR (k_op_in (K := K) rfl) (pv 4) (pv 3) (by rfl)))) (fun _ _ _ _ _ => (pv 4))) (pe_lst pa_nil) (nomark _))))))), ?_⟩
    walk_at "go0"
    refine ifD (fun c => ?_) (fun c => ?_)
    · have c' : a = b := V.str.inj c
      subst c'
      walk_at "go"
      have e : mayD ds a a = false := by unfold mayD; simp
      rw [← e]
      exact q G H (Stp.refl g0)
    · have c' : a ≠ b := fun e => c (by rw [e])
      walk_at "go"
      refine use_near g0 hy hl (fun r ys G1 H1 s1 h1 p1 _ => ?_)
      walk_at "go"
      refine r_inL (s1.gh.seq h1) ?_
      walk_at "go"
      refine ifD (fun c2 => ?_) (fun c2 => ?_)
      · walk_at "go"
        have e : mayD ds a b = false := by
          unfold mayD
          rw [decide_eq_false (p := b ∉ nb ds a) (fun z => z (p1.mem_iff.mp c2)), Bool.and_false, Bool.false_and]
        rw [← e]
        exact q G1 H1 s1
      · have c2' : b ∉ nb ds a := fun z => c2 (p1.mem_iff.mpr z)
        walk_at "go"
        refine use_near s1.gh (hy.same s1.gg) hl (fun r2 ys2 G2 H2 s2 h2 p2 _ => ?_)
        walk_at "go"
        refine use_near s2.gh (hy.same (s1.gg.trans s2.gg)) hl (fun r3 ys3 G3 H3 s3 h3 p3 _ => ?_)
        walk_at "go"
        have hn3 : ys3.length < 64 := by
          rw [p3.length_eq]
          unfold nb
          rw [List.length_map]
          exact Nat.lt_of_le_of_lt (List.length_filter_le _ _) hl
        have h23 : SqL K G3 r2 (ys2.map V.str) := s3.gg.seq h2
        refine lcL (M := M0) h3 (by rw [List.length_map]; omega) s3.gh (fun i acc G' H' => G3 = G' ∧ acc = ((ys3.take i).filter fun z => decide (z ∈ ys2)).map V.str) (fun L hL => ⟨rfl, rfl⟩)
          (fun L i v acc G' H' Em Sk hi hL hL' gL hacc st pv hv hEm hSk => ?_) (fun L acc G' H' hL hacc st hL' gL pv => ?_)
        · obtain ⟨e, rfl⟩ := pv
          subst e
          obtain ⟨z, hz, rfl⟩ := map_get hv
          have e1 := take_succ_get hz
          walk_at "go"
          refine ⟨rfl, ?_⟩
          walk_at "go"
          refine r_inL (st.gh.seq h23) ?_
          walk_at "go"
          refine ifD (fun c3 => ?_) (fun c3 => ?_)
          · walk_at "go"
            refine hEm _ G3 H' st hL' gL ⟨rfl, ?_⟩
            rw [e1, filt_yes (p := fun z => decide (z ∈ ys2)) (decide_eq_true c3), List.map_append]
            rfl
          · refine hSk G3 H' st hL' gL ⟨rfl, ?_⟩
            rw [e1, filt_no (p := fun z => decide (z ∈ ys2)) (decide_eq_false c3)]
        · obtain ⟨e, rfl⟩ := pv
          subst e
          rw [List.take_of_length_le (by rw [List.length_map]; exact Nat.le_refl _)] at hL'
          walk_at "go"
          refine ⟨Nat.zero_le _, fun o no => ?_⟩
          have s5 : Stp M0 G H G3 (upd H' o (.lst [])) := (((s1.trans s2).trans s3).trans st).trans (Stp.newM st.gh no)
          have ho : (upd H' o (.lst [])) o = some (.lst (([] : List Str).map V.str)) := upd_same
          have hLo : (upd H' o (.lst [])) L = some (.lst ((ys3.filter fun z => decide (z ∈ ys2)).map V.str)) := by rw [upd_ne (ne_of_none hL' no)]; exact hL'
          generalize upd H' o (.lst []) = H6 at s5 ho hLo ⊢
          have hokz : ∀ z ∈ ys3.filter fun z => decide (z ∈ ys2), SOk z := fun z hz => nb_ok hds (p3.mem_iff.mp (List.mem_filter.mp hz).1)
          refine r_eqLL (lof hLo) (lof ho) hokz (fun _ h => by cases h) ?_
          have e : decide ((ys3.filter fun z => decide (z ∈ ys2)) = []) = mayD ds a b := by
            unfold mayD
            rw [decide_eq_true c', decide_eq_true c2', Bool.true_and, Bool.true_and]
            refine decide_eq_decide.mpr ?_
            rw [List.filter_eq_nil_iff]
            exact ⟨fun h r hr hr2 => h r (p3.mem_iff.mpr hr) (decide_eq_true (p2.mem_iff.mpr hr2)), fun h r hr hr2 => h r (p3.mem_iff.mp hr) (p2.mem_iff.mp (of_decide_eq_true hr2))⟩
          rw [e]
          exact q G3 H6 s5
end
abbrev sWithDoors : Stmt := topS 28
theorem scWithDoors : FnScope ["_law_rooms", "_law_pairs", "_law_yard_here", "_law_k", "_law_j"] ["_law_rooms", "_law_pairs"] (defScope sWithDoors) := ⟨rfl, rfl, rfl, by decide +kernel, rfl, by decide +kernel, by decide +kernel⟩
section
variable {P : Program} {w : World} {K : PySem.W.Frag} {mg : Str → Option Value} {base : Heap}
def spDrawnPairs (K : PySem.W.Frag) : Sp := fun vs H Q _ => ∃ (p : Addr) (i j : Int) (m c n : Nat) (G : Hp), vs = [.ref p, .int i, .int j] ∧ Same G H ∧ Pen K G p n H ∧ n + 2 * c < 2 ^ 40 ∧ i = (m : Int) ∧ 1 ≤ m ∧ m < 2 ^ 30 ∧ j = (c : Int) ∧ c < 1000 ∧
  ∀ r xs ps G' H', Stp (M1 p) G H G' H' → Pen K G' p (n + 2 * c) H' → G' r = some (.lst xs) → PrAll K G' xs ps → ps.length = c → PrIn m ps → Q (.ref r) H'
abbrev DDrawnPairs (P : Program) (w : World) (K : PySem.W.Frag) (mg : Str → Option Value) (base : Heap) : Prop := Df P w K mg base CX0 2 "_law_drawn_pairs" ["_law_pen_here", "_law_many", "_law_count"] (spDrawnPairs K)
theorem ok_DrawnPairs {f : Addr} {fd : FuncData} (F : Fun K "_law_drawn_pairs" "_law_drawn_pairs" sDrawnPairs f fd) (M : Mgs mg) (D_draw : DDraw P w K mg base) : FnOk P w K mg base CX0 2 f fd ["_law_pen_here", "_law_many", "_law_count"] (spDrawnPairs K) := by
  refine F.ok scDrawnPairs (fun vs H Q E h => ?_) (fun cdv A outer s H vs Q E hr h => ?_)
  · obtain ⟨p, i, j, m, c, n, G, rfl, _⟩ := h
    rfl
  · obtain ⟨p, i, j, m, c, n, G, rfl, g0, hp, hn, rfl, hm, hm2, rfl, hc, q⟩ := h
    refine ⟨_, ((pss_one (ps_ret (pe_lc (own := [("_law_k", 3)]) rfl scDrawnPairs.nd (pi_range1 (by rfl) M.range (pa_cons (pv 2) pa_nil)) (blkOk_by (N := ["_law_pen_here", "_law_many", "_law_count", "_law_k"]) (sc := defScope sDrawnPairs) (by decide +kernel)) (fun _ _ _ _ _ => (pg_name (i := 3) scDrawnPairs.nd rfl (Or.inl rfl))) (fun _ _ _ _ _ => pts_nil) (fun _ _ _ _ _ => (pe_tup (pa_cons (pe_df D_draw hr (by rfl) pass0 (pa_cons (pv 0) (pa_cons (pv 1) pa_nil))) (pa_cons (pe_df D_draw hr (by rfl) pass0 (pa_cons (pv 0) (pa_cons (pv 1) pa_nil))) pa_nil)))))))), ?_⟩
    walk_at "go0"
    refine lcR1 (M := M1 p) (n := c) rfl (by omega) g0 (fun i acc G' H' => ∃ ps, PrAll K G' acc ps ∧ ps.length = i ∧ PrIn m ps ∧ Pen K G' p (n + 2 * i) H') (fun L hL => ⟨[], .nil, rfl, (fun _ h => by cases h), hp.upd (hp.new hL)⟩)
      (fun L i acc G' H' Em Sk hi hL hL' gL hacc st pv hEm hSk => ?_) (fun L acc G' H' hL hacc st hL' gL pv => ?_)
    · obtain ⟨ps, hps, hpl, hpi, hpz⟩ := pv
      walk_at "go"
      refine ⟨rfl, ?_⟩
      walk_at "go"
      refine use_draw (m := m) st.gh hpz (by omega) rfl hm hm2 (fun d1 H1 hd1 s1 hp1 => ?_)
      walk_at "go"
      refine use_draw (m := m) s1.gh hp1 (by omega) rfl hm hm2 (fun d2 H2 hd2 s2 hp2 => ?_)
      walk_at "go"
      refine ⟨by show 2 ≤ sizeLine; decide, fun t nt => ?_⟩
      have s3 := (st.trans s1).trans s2
      have hL2 : H2 L = some (.lst acc) := s2.up _ _ (hp1.ne (s1.up _ _ (hpz.ne hL') hL')) (s1.up _ _ (hpz.ne hL') hL')
      have sN : Stp (M1 p) G' H2 (upd G' t (.tup [.int (d1 : Int), .int (d2 : Int)])) (upd H2 t (.tup [.int (d1 : Int), .int (d2 : Int)])) := Stp.new s2.gh nt
      have nLt : L ≠ t := ne_of_none hL2 nt
      refine hEm _ _ _ (s3.trans sN) (by rw [upd_ne nLt]; exact hL2) (by rw [upd_ne nLt]; exact gL) ⟨ps ++ [(d1, d2)], (hps.same sN.gg).snoc (tof upd_same), by rw [List.length_append, hpl]; rfl, fun e he => ?_, ?_⟩
      · rcases List.mem_append.mp he with he | he
        · exact hpi e he
        · rw [List.mem_singleton.mp he]
          exact ⟨hd1, hd2⟩
      · exact ((hp2.stp (Stp.new (M := M0) s2.gh nt) (fun z => z)).upd (hp2.ne hL2)).mono (by omega)
    · obtain ⟨ps, hps, hpl, hpi, hpz⟩ := pv
      exact q L acc ps (upd G' L _) H' (st.freeze hL' hL gL) (hpz.know (same_new gL) (by rw [upd_ne (hpz.ne hL').symm]; exact hpz.1)) upd_same (hps.same (same_new gL)) hpl hpi
def gR (rs : List Str) (i : Nat) : Str := rs.getD i ⟨#[]⟩
def stepD (rs : List Str) (ds : List Dr) (q : Nat × Nat) : List Dr := if mayD ds (gR rs q.1) (gR rs q.2) = true then ds ++ [(gR rs q.1, gR rs q.2)] else ds
def withD (rs : List Str) (ps : List (Nat × Nat)) : List Dr := ps.foldl (stepD rs) []
theorem withD_snoc (rs : List Str) (ps : List (Nat × Nat)) (q : Nat × Nat) : withD rs (ps ++ [q]) = stepD rs (withD rs ps) q := by unfold withD; rw [List.foldl_append]; rfl
theorem stepD_len (rs : List Str) (ds : List Dr) (q : Nat × Nat) : (stepD rs ds q).length ≤ ds.length + 1 := by
  unfold stepD
  split
  · rw [List.length_append]; exact Nat.le_refl _
  · omega
theorem foldD_len (rs : List Str) (ps : List (Nat × Nat)) : ∀ ds, (ps.foldl (stepD rs) ds).length ≤ ds.length + ps.length := by
  induction ps with
  | nil => intro ds; simp
  | cons q ps ih => intro ds; have h := ih (stepD rs ds q); have h2 := stepD_len rs ds q; rw [List.foldl_cons, List.length_cons]; omega
theorem withD_len (rs : List Str) (ps : List (Nat × Nat)) : (withD rs ps).length ≤ ps.length := by have h := foldD_len rs ps []; simp only [List.length_nil, Nat.zero_add] at h; exact h
theorem withD_ok {rs : List Str} (h : ∀ z ∈ rs, NmOk z) : ∀ (ps : List (Nat × Nat)) , PrIn rs.length ps → ∀ ds, (∀ d ∈ ds, d.1 ∈ rs ∧ d.2 ∈ rs) → ∀ d ∈ ps.foldl (stepD rs) ds, d.1 ∈ rs ∧ d.2 ∈ rs
  | [], _, ds, hd => hd
  | q :: ps, hp, ds, hd => by
    rw [List.foldl_cons]
    refine withD_ok h ps (fun e he => hp e (List.mem_cons_of_mem _ he)) _ ?_
    unfold stepD
    have hq := hp q List.mem_cons_self
    split
    · intro d hd'
      rcases List.mem_append.mp hd' with h1 | h1
      · exact hd d h1
      · rw [List.mem_singleton.mp h1]
        unfold gR
        rw [List.getD_eq_getElem?_getD, List.getD_eq_getElem?_getD, List.getElem?_eq_getElem hq.1, List.getElem?_eq_getElem hq.2]
        exact ⟨List.getElem_mem hq.1, List.getElem_mem hq.2⟩
    · exact hd
theorem withD_in {rs : List Str} (h : ∀ z ∈ rs, NmOk z) {ps : List (Nat × Nat)} (hp : PrIn rs.length ps) : ∀ d ∈ withD rs ps, d.1 ∈ rs ∧ d.2 ∈ rs := withD_ok h ps hp [] (fun _ h => by cases h)
theorem gR_get {rs : List Str} {i : Nat} (h : i < rs.length) : (rs.map V.str)[i]? = some (.str (gR rs i)) := by
  unfold gR
  rw [List.getElem?_map, List.getD_eq_getElem?_getD, List.getElem?_eq_getElem h]
  rfl
def spWithDoors (K : PySem.W.Frag) : Sp := fun vs H Q _ => ∃ (r l : Addr) (rs : List Str) (xs : List V) (ps : List (Nat × Nat)) (G : Hp), vs = [.ref r, .ref l] ∧ Same G H ∧ SqL K G r (rs.map V.str) ∧ (∀ z ∈ rs, NmOk z) ∧ SqL K G l xs ∧ PrAll K G xs ps ∧ PrIn rs.length ps ∧ ps.length < 64 ∧ 
  ∀ y G' H', Stp M0 G H G' H' → Yard K G' y rs (withD rs ps) → Q (.ref y) H'
abbrev DWithDoors (P : Program) (w : World) (K : PySem.W.Frag) (mg : Str → Option Value) (base : Heap) : Prop := Df P w K mg base CX0 3 "_law_with_doors" ["_law_rooms", "_law_pairs"] (spWithDoors K)
theorem ok_WithDoors {f : Addr} {fd : FuncData} (F : Fun K "_law_with_doors" "_law_with_doors" sWithDoors f fd) (M : Mgs mg) (D_may_door : DMayDoor P w K mg base) : FnOk P w K mg base CX0 3 f fd ["_law_rooms", "_law_pairs"] (spWithDoors K) := by
  refine F.ok scWithDoors (fun vs H Q E h => ?_) (fun cdv A outer s H vs Q E hr h => ?_)
  · obtain ⟨r, l, rs, xs, ps, G, rfl, _⟩ := h
    rfl
  · obtain ⟨r, l, rs, xs, ps, G, rfl, g0, hR, hRn, hX, hP, hPi, hPl, q⟩ := h
    have hu := hu_of hr
    refine ⟨_, ((pss_cons (ps_set (i := 2) scWithDoors.nd rfl (Or.inl rfl) (pe_disp (pps_cons pe_str (pe_callTy (k_list (K := K) rfl) (by rfl) M.list_ (by decide +kernel) (pa_cons (pv 0) pa_nil)) (pps_cons pe_str (pe_lst pa_nil) pps_nil)) (by rfl) (by rfl) (fun z => by cases z) (by decide)))
    (pss_cons (ps_for PassesOwn.never rfl (k_pi_list (K := K) rfl (pv 1)) (k_pg_tup (K := K) rfl rfl (pgs_cons (pg_name (i := 3) scWithDoors.nd rfl (Or.inl rfl)) (pgs_cons (pg_name (i := 4) scWithDoors.nd rfl (Or.inl rfl)) pgs_nil)))
    (pss_one (ps_if (pt_val (pe_df D_may_door hr (by rfl) pass0 (pa_cons (pv 2) (pa_cons (pe_ix (k_ix_list (K := K) rfl) (pv 0) (pv 3) (fun _ _ => rfl)) (pa_cons (pe_ix (k_ix_list (K := K) rfl) (pv 0) (pv 4) (fun _ _ => rfl)) pa_nil)))))
    (pss_one (ps_expr (k_bm (K := K) rfl PySem.F.plainAttrs_list PySem.F.slot_list_append PySem.F.type_list_append mt_append (pe_dget hu (pv 2) pe_str (fun _ _ => rfl)) (pa_cons (pe_tupF (pa_cons (pe_ix (k_ix_list (K := K) rfl) (pv 0) (pv 3) (fun _ _ => rfl)) (pa_cons (pe_ix (k_ix_list (K := K) rfl) (pv 0) (pv 4) (fun _ _ => rfl)) pa_nil))) pa_nil))))
    pss_nil)))
    (pss_one (ps_ret (pv 2)))))), ?_⟩
    walk_at "go0"
    intro y ny
    walk_at "go"
    have s1 : Stp M0 G H G (upd H y (.dK [])) := Stp.newM g0 ny
    have hy1 : (upd H y (.dK [])) y = some (.dK []) := upd_same
    generalize upd H y (.dK []) = H1 at s1 hy1 ⊢
    refine c_list (.inl (s1.gh.seq hR)) (fun a na => ?_)
    have s2 : Stp M0 G H (upd G a (.lst (rs.map V.str))) (upd H1 a (.lst (rs.map V.str))) := s1.trans (Stp.new s1.gh na)
    have ha2 : SqL K (upd G a (.lst (rs.map V.str))) a (rs.map V.str) := lof upd_same
    have hy2 : (upd H1 a (.lst (rs.map V.str))) y = some (.dK []) := by rw [upd_ne (ne_of_none hy1 na)]; exact hy1
    have gy2 : (upd G a (.lst (rs.map V.str))) y = none := by rw [upd_ne (ne_of_none hy1 na)]; exact none_of g0 ny
    generalize upd H1 a (.lst (rs.map V.str)) = H2 at s2 hy2 ⊢
    generalize upd G a (.lst (rs.map V.str)) = G2 at s2 ha2 gy2 ⊢
    walk_at "go"
    refine ⟨Nat.zero_le _, fun d nd => ?_⟩
    have s3 : Stp M0 G H G2 (upd H2 d (.lst [])) := s2.trans (Stp.newM s2.gh nd)
    have hd3 : (upd H2 d (.lst [])) d = some (.lst []) := upd_same
    have hy3 : (upd H2 d (.lst [])) y = some (.dK []) := by rw [upd_ne (ne_of_none hy2 nd)]; exact hy2
    have gd3 : G2 d = none := none_of s2.gh nd
    have nyd : y ≠ d := ne_of_none hy2 nd
    have hH : H d = none := s2.free nd
    generalize upd H2 d (.lst []) = H3 at s3 hd3 hy3 ⊢
    walk_at "go"
    refine ⟨hy3, [(.inr "rooms", .ref a), (.inr "doors", .ref d)], rfl, (by show 2 ≤ 15; decide), ?_⟩
    rw [merge2 (by decide +kernel)]
    have s4 : Stp M0 G H G2 (upd H3 y (.dK [(.inr "rooms", .ref a), (.inr "doors", .ref d)])) := s3.inner (M' := M1 y) (Stp.mut s3.gh hy3 gy2 rfl) (fun b e => .inr (by rw [e]; exact ny))
    have hy4 : (upd H3 y (.dK [(.inr "rooms", .ref a), (.inr "doors", .ref d)])) y = some (.dK [(.inr "rooms", .ref a), (.inr "doors", .ref d)]) := upd_same
    have hd4 : (upd H3 y (.dK [(.inr "rooms", .ref a), (.inr "doors", .ref d)])) d = some (.lst []) := by rw [upd_ne nyd.symm]; exact hd3
    generalize upd H3 y (.dK [(.inr "rooms", .ref a), (.inr "doors", .ref d)]) = H4 at s4 hy4 hd4 ⊢
    have s5 : Stp M0 G H (upd G2 y (.dK [(.inr "rooms", .ref a), (.inr "doors", .ref d)])) H4 := s4.freeze hy4 ny gy2
    have hY : Yd K (upd G2 y (.dK [(.inr "rooms", .ref a), (.inr "doors", .ref d)])) y rs d := ⟨a, upd_same, (same_new gy2).seq ha2⟩
    have gd5 : (upd G2 y (.dK [(.inr "rooms", .ref a), (.inr "doors", .ref d)])) d = none := by rw [upd_ne nyd.symm]; exact gd3
    generalize upd G2 y (.dK [(.inr "rooms", .ref a), (.inr "doors", .ref d)]) = G5 at s5 hY gd5
    walk_at "go"
    refine loopL (xs := xs) ((s5.gg.trans s5.gh).seq hX) (fun i σ H' => ∃ y3 y4, ∃ (G' : Hp) (zs : List V), σ = [some (.ref r), some (.ref l), some (.ref y), y3, y4] ∧ Stp M0 G H G' H' ∧ Same G5 G' ∧ H' d = some (.lst zs) ∧ G' d = none ∧ DrAll G' zs (withD rs (ps.take i)))
      ⟨none, none, G5, [], rfl, s5, Same.refl _, hd4, gd5, .nil⟩ (fun i σ H' _ pv => ?_) (fun i v σ H' hi hv pv => ?_) (fun σ H' pv => ?_)
    · obtain ⟨_, _, G', _, _, st, _⟩ := pv
      exact (st.gg.trans st.gh).seq hX
    · obtain ⟨y3, y4, G', zs, rfl, st, sg, hdz, gdz, hz⟩ := pv
      have hi' : i < ps.length := by rw [← hP.1]; exact hi
      obtain ⟨t, ht, hst⟩ := hP.2 i _ (List.getElem?_eq_getElem hi')
      cases ht.symm.trans hv
      have e1 := take_succ_get (List.getElem?_eq_getElem hi')
      have hin := hPi _ (List.getElem_mem hi')
      have hpin : PrIn rs.length (ps.take i) := fun e he => hPi e (List.mem_of_mem_take he)
      generalize ps[i] = pr at hst e1 hin
      refine r_gtup (Same.sqt (st.gg.trans st.gh) hst) rfl ?_
      walk_at "go"
      have hRs : SqL K H' r (rs.map V.str) := (st.gg.trans st.gh).seq hR
      refine r_ixL' hRs rfl (gR_get hin.1) ?_
      walk_at "go"
      refine r_ixL' hRs rfl (gR_get hin.2) ?_
      walk_at "go"
      have hwl : (withD rs (ps.take i)).length < 64 := Nat.lt_of_le_of_lt (withD_len _ _) (by rw [List.length_take]; omega)
      have hds : DsOk (withD rs (ps.take i)) := fun e he => by
        have h := withD_in hRn hpin e he
        exact ⟨(hRn _ h.1).sok, (hRn _ h.2).sok⟩
      have hG1 : Same (upd G' d (.lst zs)) H' := fun b o e => by
        by_cases h : b = d
        · subst h; rw [upd_same] at e; rw [hdz]; exact e
        · rw [upd_ne h] at e; exact st.gh b o e
      refine ⟨y, _, _, rs, withD rs (ps.take i), upd G' d (.lst zs), rfl, hG1, ⟨d, zs, (hY.same sg).same (same_new gdz), lof upd_same, hz.same (same_new gdz)⟩, hwl, hds, fun G6 H6 s6 => ?_⟩
      have s7 : Stp M0 G' H' G' H6 := s6.forget st.gh (fun _ z => z.elim)
      have hd6 : H6 d = some (.lst zs) := s6.up _ _ (fun z => z) hdz
      clear s6 hG1
      walk_at "go"
      have est : withD rs (ps.take (i + 1)) = stepD rs (withD rs (ps.take i)) pr := by rw [e1, withD_snoc]
      by_cases c : mayD (withD rs (ps.take i)) (gR rs pr.1) (gR rs pr.2) = true
      · rw [c]
        walk_at "go"
        refine r_dget' (((hY.same sg).same s7.gh).doors) ?_
        walk_at "go"
        refine r_ixL' ((s7.gg.trans s7.gh).seq (st.gg.seq hR)) rfl (gR_get hin.1) ?_
        walk_at "go"
        refine r_ixL' ((s7.gg.trans s7.gh).seq (st.gg.seq hR)) rfl (gR_get hin.2) ?_
        walk_at "go"
        refine ⟨by show 2 ≤ sizeLine; decide, fun t2 o2 nt2 ho2 => ?_⟩
        have s8 : Stp M0 G' H6 (upd G' t2 (.frz o2 (.tup [.str (gR rs pr.1), .str (gR rs pr.2)]))) (upd H6 t2 (.frz o2 (.tup [.str (gR rs pr.1), .str (gR rs pr.2)]))) := Stp.new s7.gh nt2
        have hf : (upd G' t2 (.frz o2 (.tup [.str (gR rs pr.1), .str (gR rs pr.2)]))) t2 = some (.frz o2 (.tup [.str (gR rs pr.1), .str (gR rs pr.2)])) := upd_same
        have ndt : d ≠ t2 := ne_of_none hd6 nt2
        have hd8 : (upd H6 t2 (.frz o2 (.tup [.str (gR rs pr.1), .str (gR rs pr.2)]))) d = some (.lst zs) := by rw [upd_ne ndt]; exact hd6
        have gd8 : (upd G' t2 (.frz o2 (.tup [.str (gR rs pr.1), .str (gR rs pr.2)]))) d = none := by rw [upd_ne ndt]; exact gdz
        generalize upd H6 t2 (.frz o2 (.tup [.str (gR rs pr.1), .str (gR rs pr.2)])) = H8 at s8 hd8 ⊢
        generalize upd G' t2 (.frz o2 (.tup [.str (gR rs pr.1), .str (gR rs pr.2)])) = G8 at s8 hf gd8
        walk_at "go"
        have s9 : Stp M0 G H G8 H8 := (st.trans s7).trans s8
        refine c_append hd8 (small5 (by rw [hz.1]; omega)) ?_
        refine ⟨_, _, G8, zs ++ [.ref t2], rfl, s9.inner (M' := M1 d) (Stp.mut s9.gh hd8 gd8 rfl) (fun b e => .inr (by rw [e]; exact hH)), sg.trans (s7.gg.trans s8.gg), upd_same, gd8, ?_⟩
        rw [est, stepD, if_pos c]
        exact (hz.same (s7.gg.trans s8.gg)).snoc' hf ho2
      · have c' : mayD (withD rs (ps.take i)) (gR rs pr.1) (gR rs pr.2) = false := by
          cases h : mayD (withD rs (ps.take i)) (gR rs pr.1) (gR rs pr.2)
          · rfl
          · exact absurd h c
        rw [c']
        walk_at "go"
        refine ⟨_, _, G', zs, rfl, st.trans s7, sg, hd6, gdz, ?_⟩
        rw [est, stepD, if_neg c]
        exact hz
    · obtain ⟨y3, y4, G', zs, rfl, st, sg, hdz, gdz, hz⟩ := pv
      rw [List.take_of_length_le (by rw [hP.1]; exact Nat.le_refl _)] at hz
      walk_at "go"
      exact q y (upd G' d (.lst zs)) H' (st.freeze hdz hH gdz) ⟨d, zs, (hY.same sg).same (same_new gdz), lof upd_same, hz.same (same_new gdz)⟩
end
abbrev sYard : Stmt := topS 30
theorem scYard : FnScope ["_law_pen_here", "_law_most", "_law_way", "_law_many", "_law_rooms", "_law_round_pairs", "_law_half", "_law_some", "_law_bit", "_law_ones", "_law_k"] ["_law_pen_here", "_law_most"] (defScope sYard) := ⟨rfl, rfl, rfl, by decide +kernel, rfl, by decide +kernel, by decide +kernel⟩
section
variable {P : Program} {w : World} {K : PySem.W.Frag} {mg : Str → Option Value} {base : Heap}
def spYard (K : PySem.W.Frag) : Sp := fun vs H Q _ => ∃ (p : Addr) (i : Int) (m n : Nat) (G : Hp), vs = [.ref p, .int i] ∧ Same G H ∧ Pen K G p n H ∧ n + 300 < 2 ^ 40 ∧ i = (m : Int) ∧ 1 ≤ m ∧ m ≤ 16 ∧
  ∀ y (rs : List Str) (ps : List (Nat × Nat)) G' H', Stp (M1 p) G H G' H' → Pen K G' p (n + 200) H' → Yard K G' y rs (withD rs ps) → 1 ≤ rs.length → rs.length ≤ m → (∀ z ∈ rs, NmOk z) → PrIn rs.length ps → ps.length < 64 → rs.Nodup → Q (.ref y) H'
abbrev DYard (P : Program) (w : World) (K : PySem.W.Frag) (mg : Str → Option Value) (base : Heap) : Prop := Df P w K mg base CX0 4 "_law_yard" ["_law_pen_here", "_law_most"] (spYard K)
theorem ok_Yard {f : Addr} {fd : FuncData} (F : Fun K "_law_yard" "_law_yard" sYard f fd) (M : Mgs mg) (D_draw : DDraw P w K mg base) (D_names : DNames P w K mg base) (D_drawn_pairs : DDrawnPairs P w K mg base) (D_with_doors : DWithDoors P w K mg base) : FnOk P w K mg base CX0 4 f fd ["_law_pen_here", "_law_most"] (spYard K) := by
  refine F.ok scYard (fun vs H Q E h => ?_) (fun cdv A outer s H vs Q E hr h => ?_)
  · obtain ⟨p, i, m, n, G, rfl, _⟩ := h
    rfl
  · obtain ⟨p, i, m, n, G, rfl, g0, hp, hn, rfl, hm, hm2, q⟩ := h
    refine ⟨_, ((pss_cons (ps_asg (pe_tup (pa_cons (pe_df D_draw hr (by rfl) pass0 (pa_cons (pv 0) (pa_cons pe_int pa_nil))) (pa_cons (pe_op op_add pe_int (pe_df D_draw hr (by rfl) pass0 (pa_cons (pv 0) (pa_cons (pv 1) pa_nil)))) pa_nil))) (k_pg_tup (K := K) rfl rfl (pgs_cons (pg_name (i := 2) scYard.nd rfl (Or.inl rfl)) (pgs_cons (pg_name (i := 3) scYard.nd rfl (Or.inr rfl)) pgs_nil))))
    (pss_cons (ps_set (i := 3) scYard.nd rfl (Or.inr rfl) (pe_ifExp (pt_cmpR op_gt (pe_df D_draw hr (by rfl) pass0 (pa_cons (pv 0) (pa_cons pe_int pa_nil))) pe_int (nomark _)) (pe_callB (call_maxK rfl) (by rfl) M.max (by decide +kernel) (pa_cons (pv 3) (pa_cons (pe_callB (call_minK rfl) (by rfl) M.min (by decide +kernel) (pa_cons pe_int (pa_cons (pv 1) pa_nil))) pa_nil))) (pv 3)))
    (pss_cons (ps_set (i := 4) scYard.nd rfl (Or.inl rfl) (pe_df D_names hr (by rfl) pass0 (pa_cons (pv 0) (pa_cons (pv 3) pa_nil))))
    (pss_cons (ps_setLc (i := 5) (own := [("_law_k", 10)]) rfl scYard.nd rfl rfl (sw_true rfl rfl rfl (by decide +kernel)) (pi_range1 (by rfl) M.range (pa_cons (pv 3) pa_nil)) (blkOk_by (N := ["_law_pen_here", "_law_most", "_law_way", "_law_many", "_law_rooms", "_law_round_pairs", "_law_half", "_law_some", "_law_bit", "_law_ones", "_law_k"]) (sc := defScope sYard) (by decide +kernel)) (fun _ _ _ _ _ => (pg_name (i := 10) scYard.nd rfl (Or.inl rfl))) (fun _ _ _ _ _ => pts_nil) (fun _ _ _ _ _ => (pe_tup (pa_cons (pv 10) (pa_cons (pe_op op_mod (pe_op op_add (pv 10) pe_int) (pv 3)) pa_nil)))))
    (pss_cons (ps_asg (pe_tup (pa_cons (pe_callB (call_maxK rfl) (by rfl) M.max (by decide +kernel) (pa_cons pe_int (pa_cons (pe_op op_fdiv (pv 3) pe_int) pa_nil))) (pa_cons (pe_lst pa_nil) pa_nil))) (k_pg_tup (K := K) rfl rfl (pgs_cons (pg_name (i := 6) scYard.nd rfl (Or.inr rfl)) (pgs_cons (pg_name (i := 7) scYard.nd rfl (Or.inl rfl)) pgs_nil))))
    (pss_cons (ps_if (pt_cmpR op_lt (pv 2) pe_int (nomark _))
    (pss_one (ps_set (i := 7) scYard.nd rfl (Or.inl rfl) (pe_op op_cat (pv 5) (pe_df D_drawn_pairs hr (by rfl) pass0 (pa_cons (pv 0) (pa_cons (pv 3) (pa_cons (pe_ix (k_ix_list (K := K) rfl) (pe_lst (pa_cons pe_int (pa_cons pe_int (pa_cons pe_int pa_nil)))) (pv 2) (fun _ _ => rfl)) pa_nil)))))))
    (pss_one (ps_if (pt_cmpR op_eq (pv 2) pe_int (nomark _))
    (pss_one (ps_setLc (i := 7) (own := [("_law_k", 10)]) rfl scYard.nd rfl rfl (sw_true rfl rfl rfl (by decide +kernel)) (pi_range2 (by rfl) M.range (pa_cons pe_int (pa_cons (pv 3) pa_nil))) (blkOk_by (N := ["_law_pen_here", "_law_most", "_law_way", "_law_many", "_law_rooms", "_law_round_pairs", "_law_half", "_law_some", "_law_bit", "_law_ones", "_law_k"]) (sc := defScope sYard) (by decide +kernel)) (fun _ _ _ _ _ => (pg_name (i := 10) scYard.nd rfl (Or.inl rfl))) (fun _ _ _ _ _ => pts_nil) (fun _ _ _ _ _ => (pe_tup (pa_cons (pv 10) (pa_cons (pe_df D_draw hr (by rfl) pass0 (pa_cons (pv 0) (pa_cons (pv 10) pa_nil))) pa_nil))))))
    (pss_one (ps_if (pt_cmpR op_eq (pv 2) pe_int (nomark _))
    (pss_cons (ps_setLc (i := 7) (own := [("_law_k", 10)]) rfl scYard.nd rfl rfl (sw_true rfl rfl rfl (by decide +kernel)) (pi_range1 (by rfl) M.range (pa_cons (pe_op op_sub (pv 3) (pv 6)) pa_nil)) (blkOk_by (N := ["_law_pen_here", "_law_most", "_law_way", "_law_many", "_law_rooms", "_law_round_pairs", "_law_half", "_law_some", "_law_bit", "_law_ones", "_law_k"]) (sc := defScope sYard) (by decide +kernel)) (fun _ _ _ _ _ => (pg_name (i := 10) scYard.nd rfl (Or.inl rfl))) (fun _ _ _ _ _ => pts_nil) (fun _ _ _ _ _ => (pe_tup (pa_cons (pv 10) (pa_cons (pe_op op_add (pv 6) (pv 10)) pa_nil)))))
    (pss_one (ps_set (i := 7) scYard.nd rfl (Or.inl rfl) (pe_op op_cat (pv 7) (pe_lc (own := [("_law_k", 10)]) rfl scYard.nd (pi_range1 (by rfl) M.range (pa_cons (pe_op op_sub (pv 3) pe_int) pa_nil)) (blkOk_by (N := ["_law_pen_here", "_law_most", "_law_way", "_law_many", "_law_rooms", "_law_round_pairs", "_law_half", "_law_some", "_law_bit", "_law_ones", "_law_k"]) (sc := defScope sYard) (by decide +kernel)) (fun _ _ _ _ _ => (pg_name (i := 10) scYard.nd rfl (Or.inl rfl))) (fun _ _ _ _ _ => (pts_one (pt_cmpR op_ne (pv 10) (pe_op op_sub (pv 6) pe_int) (nomark _)))) (fun _ _ _ _ _ => (pe_tup (pa_cons (pv 10) (pa_cons (pe_op op_add (pv 10) pe_int) pa_nil)))))))))
    (pss_one (ps_if (pt_cmpR op_eq (pv 2) pe_int (nomark _))
    (pss_one (ps_for PassesOwn.never rfl (k_pi_tup (K := K) rfl (pe_tup (pa_cons pe_int (pa_cons pe_int (pa_cons pe_int pa_nil))))) (pg_name (i := 8) scYard.nd rfl (Or.inr rfl))
    (pss_cons (ps_setLc (i := 9) (own := [("_law_k", 10)]) rfl scYard.nd rfl rfl (sw_true rfl rfl rfl (by decide +kernel)) (pi_range1 (by rfl) M.range (pa_cons (pe_op op_sub (pv 3) (pv 8)) pa_nil)) (blkOk_by (N := ["_law_pen_here", "_law_most", "_law_way", "_law_many", "_law_rooms", "_law_round_pairs", "_law_half", "_law_some", "_law_bit", "_law_ones", "_law_k"]) (sc := defScope sYard) (by decide +kernel)) (fun _ _ _ _ _ => (pg_name (i := 10) scYard.nd rfl (Or.inl rfl))) (fun _ _ _ _ _ => (pts_one (pt_cmpR op_eq (pe_op op_mod (pe_op op_fdiv (pv 10) (pv 8)) pe_int) pe_int (nomark _)))) (fun _ _ _ _ _ => (pv 10)))
    (pss_one (ps_expr (k_bm (K := K) rfl PySem.F.plainAttrs_list PySem.F.slot_list_extend PySem.F.type_list_extend mt_extend (pv 7) (pa_cons (pe_lc (own := [("_law_k", 10)]) rfl scYard.nd (k_pi_list (K := K) rfl (pv 9)) (blkOk_by (N := ["_law_pen_here", "_law_most", "_law_way", "_law_many", "_law_rooms", "_law_round_pairs", "_law_half", "_law_some", "_law_bit", "_law_ones", "_law_k"]) (sc := defScope sYard) (by decide +kernel)) (fun _ _ _ _ _ => (pg_name (i := 10) scYard.nd rfl (Or.inl rfl))) (fun _ _ _ _ _ => pts_nil) (fun _ _ _ _ _ => (pe_tup (pa_cons (pv 10) (pa_cons (pe_op op_add (pv 10) (pv 8)) pa_nil))))) pa_nil)))))))
    (pss_one (ps_if (pt_cmpR op_eq (pv 2) pe_int (nomark _))
    (pss_cons (ps_setLc (i := 7) (own := [("_law_k", 10)]) rfl scYard.nd rfl rfl (sw_true rfl rfl rfl (by decide +kernel)) (pi_range1 (by rfl) M.range (pa_cons (pv 6) pa_nil)) (blkOk_by (N := ["_law_pen_here", "_law_most", "_law_way", "_law_many", "_law_rooms", "_law_round_pairs", "_law_half", "_law_some", "_law_bit", "_law_ones", "_law_k"]) (sc := defScope sYard) (by decide +kernel)) (fun _ _ _ _ _ => (pg_name (i := 10) scYard.nd rfl (Or.inl rfl))) (fun _ _ _ _ _ => pts_nil) (fun _ _ _ _ _ => (pe_tup (pa_cons (pv 10) (pa_cons (pe_op op_mod (pe_op op_add (pv 10) pe_int) (pv 6)) pa_nil)))))
    (pss_one (ps_set (i := 7) scYard.nd rfl (Or.inl rfl) (pe_op op_cat (pv 7) (pe_lc (own := [("_law_k", 10)]) rfl scYard.nd (pi_range2 (by rfl) M.range (pa_cons (pv 6) (pa_cons (pe_op op_sub (pv 3) pe_int) pa_nil))) (blkOk_by (N := ["_law_pen_here", "_law_most", "_law_way", "_law_many", "_law_rooms", "_law_round_pairs", "_law_half", "_law_some", "_law_bit", "_law_ones", "_law_k"]) (sc := defScope sYard) (by decide +kernel)) (fun _ _ _ _ _ => (pg_name (i := 10) scYard.nd rfl (Or.inl rfl))) (fun _ _ _ _ _ => pts_nil) (fun _ _ _ _ _ => (pe_tup (pa_cons (pv 10) (pa_cons (pe_op op_add (pv 10) pe_int) pa_nil)))))))))
    (pss_one (ps_set (i := 7) scYard.nd rfl (Or.inl rfl) (pe_df D_drawn_pairs hr (by rfl) pass0 (pa_cons (pv 0) (pa_cons (pv 3) (pa_cons (pe_callB (call_minK rfl) (by rfl) M.min (by decide +kernel) (pa_cons pe_int (pa_cons (pe_op op_mul pe_int (pv 3)) pa_nil))) pa_nil)))))))))))))))
    (pss_one (ps_ret (pe_df D_with_doors hr (by rfl) pass0 (pa_cons (pv 4) (pa_cons (pv 7) pa_nil)))))))))))), ?_⟩
    walk_at "go0"
    refine use_draw (m := 9) g0 hp (by omega) rfl (by omega) (by omega) (fun way H1 hway s1 hp1 => ?_)
    walk_at "go"
    refine use_draw (m := m) s1.gh hp1 (by omega) rfl (by omega) (by omega) (fun d2 H2 hd2 s2 hp2 => ?_)
    walk_at "go"
    refine ⟨by show 2 ≤ sizeLine; decide, fun t nt => ?_⟩
    have s3 : Stp (M1 p) G H G (upd H2 t (.tup [.int (way : Int), .int (1 + (d2 : Int))])) := (s1.trans s2).trans (Stp.newM s2.gh nt)
    have ht : (upd H2 t (.tup [.int (way : Int), .int (1 + (d2 : Int))])) t = some (.tup [.int (way : Int), .int (1 + (d2 : Int))]) := upd_same
    have hp3 := hp2.upd (x := .tup [.int (way : Int), .int (1 + (d2 : Int))]) (hp2.new nt)
    generalize upd H2 t (.tup [.int (way : Int), .int (1 + (d2 : Int))]) = H3 at s3 ht hp3 ⊢
    refine r_gtup (tof ht) rfl ?_
    walk_at "go"
    refine use_draw (m := 4) s3.gh hp3 (by omega) rfl (by omega) (by omega) (fun d3 H4 hd3 s4 hp4 => ?_)
    walk_at "go"
    refine if_join (fun v => ∃ mm : Nat, v = .int (mm : Int) ∧ 1 ≤ mm ∧ mm ≤ m) (fun _ Q' hQ => ?_) (fun _ Q' hQ => ?_) (fun v hv => ?_)
    · walk_at "go"
      refine hQ _ ⟨Int.toNat _, congrArg V.int (Int.toNat_of_nonneg ?_).symm, ?_, ?_⟩ <;> (repeat' split) <;> omega
    · walk_at "go"
      exact hQ _ ⟨1 + d2, by congr 1, by omega, by omega⟩
    obtain ⟨mm, rfl, hmm, hmm2⟩ := hv
    walk_at "go"
    refine ⟨p, _, mm, _, G, rfl, s4.gh, hp4, by omega, rfl, by omega, fun r rs G5 H5 s5 hp5 hrs hrl hrn hnd => ?_⟩
    walk_at "go"
    have s6 : Stp (M1 p) G H G5 H5 := (s3.trans s4).trans s5
    refine lcR1t (M := M0) (n := mm) (by omega) (by omega) (by omega) s5.gh (fun i acc G' _ => PrP K mm i acc G') (fun _ _ => .nil) (fun L i acc G' H' Em Sk hi hL hL' gL hacc st pv hEm hSk => ?_) (fun L acc G' H' hL hacc st hL' gL pv => ?_)
    · walk_at "go"
      refine ⟨rfl, ?_⟩
      walk_at "go"
      obtain ⟨dd, ed, hdd⟩ := mod_nat (i := (i : Int) + 1) hmm
      refine ⟨by show 2 ≤ sizeLine; decide, fun t nt => ?_⟩
      exact pair_em (a := i) (b := dd) (by omega) (by exact ed) st hL' gL pv nt hEm (by omega) (by omega)
    obtain ⟨ps1, hps1, hpl1, hpi1⟩ := pv
    have s7 : Stp (M1 p) G H (upd G' L (.lst acc)) H' := (s6.trans st.weak).freeze hL' (s6.free hL) gL
    have hp7 : Pen K (upd G' L (.lst acc)) p _ H' := (hp5.stp0 st).know (same_new gL) (by rw [upd_ne (hp5.new hL).symm]; exact (hp5.stp0 st).1)
    have gr : (upd G' L (.lst acc)) L = some (.lst acc) := upd_same
    have hrs7 : SqL K (upd G' L (.lst acc)) r (rs.map V.str) := (st.gg.trans (same_new gL)).seq hrs
    replace hps1 : PrAll K (upd G' L (.lst acc)) acc ps1 := hps1.same (same_new gL)
    generalize upd G' L (.lst acc) = G7 at s7 hp7 gr hrs7 hps1
    clear hL' gL st hp5 s5 s6 hrs
    walk_at "go"
    refine ⟨Nat.zero_le _, fun o no => ?_⟩
    have s8 : Stp (M1 p) G H G7 (upd H' o (.lst [])) := s7.trans (Stp.newM s7.gh no)
    have ho8 : (upd H' o (.lst [])) o = some (.lst []) := upd_same
    have hp8 := hp7.upd (x := .lst []) (hp7.new no)
    have go8 : G7 o = none := none_of s7.gh no
    have hoH : H o = none := s7.free no
    generalize upd H' o (.lst []) = H8 at s8 ho8 hp8 ⊢
    clear s7 hp7
    walk_at "go"
    refine ⟨by show 2 ≤ sizeLine; decide, fun t2 nt2 => ?_⟩
    obtain ⟨half, ehalf, hh1, hh2⟩ : ∃ half : Nat, (if (mm : Int) / 2 > 1 then (mm : Int) / 2 else 1) = (half : Int) ∧ 1 ≤ half ∧ half ≤ mm := ⟨Int.toNat _, (Int.toNat_of_nonneg (by split <;> omega)).symm, by split <;> omega, by split <;> omega⟩
    rw [ehalf]
    have s9 : Stp (M1 p) G H G7 (upd H8 t2 (.tup [.int (half : Int), .ref o])) := s8.trans (Stp.newM s8.gh nt2)
    have ht9 : (upd H8 t2 (.tup [.int (half : Int), .ref o])) t2 = some (.tup [.int (half : Int), .ref o]) := upd_same
    have ho9 : (upd H8 t2 (.tup [.int (half : Int), .ref o])) o = some (.lst []) := by rw [upd_ne (ne_of_none ho8 nt2)]; exact ho8
    have hp9 := hp8.upd (x := .tup [.int (half : Int), .ref o]) (hp8.new nt2)
    generalize upd H8 t2 (.tup [.int (half : Int), .ref o]) = H9 at s9 ht9 ho9 hp9 ⊢
    clear s8 hp8 ho8 ht
    refine r_gtup (tof ht9) rfl ?_
    walk_at "go"
    have fin : ∀ (l : Addr) xs ps G' H' (E' : XK), Stp (M1 p) G H G' H' → Same G7 G' → Pen K G' p (n + 200) H' → G' l = some (.lst xs) → PrAll K G' xs ps → PrIn mm ps → ps.length < 64 → spWithDoors K [.ref r, .ref l] H' Q E' := fun l xs ps G' H' E' st sg hpen hl hps hpi hpl =>
      ⟨r, l, rs, xs, ps, G', rfl, st.gh, sg.seq hrs7, hrn, lof hl, hps, (by rw [hrl]; exact hpi), hpl, fun y G2 H2 s2 hy => q y rs ps G2 H2 (st.trans s2.weak) (hpen.stp0 s2) hy (by omega) (by omega) hrn (by rw [hrl]; exact hpi) hpl hnd⟩
    -- two lists behind one another
    have fin2 : ∀ (l1 l2 lc : Addr) xs1 xs2 ps1 ps2 G' H' (E' : XK), Stp (M1 p) G H G' H' → Same G7 G' → Pen K G' p (n + 200) H' → PrAll K G' xs1 ps1 → PrAll K G' xs2 ps2 → PrIn mm ps1 → PrIn mm ps2 → ps1.length + ps2.length < 64 → H' lc = none → spWithDoors K [.ref r, .ref lc] (upd H' lc (.lst (xs1 ++ xs2))) Q E' := fun l1 l2 lc xs1 xs2 ps1 ps2 G' H' E' st sg hpen hps hps' hpi hpi' hpl nlc =>
      fin lc (xs1 ++ xs2) (ps1 ++ ps2) (upd G' lc _) _ E' (st.trans (Stp.new st.gh nlc)) (sg.trans (same_new (none_of st.gh nlc))) (hpen.stp (Stp.new (M := M0) st.gh nlc) (fun z => z)) upd_same ((hps.app hps').same (same_new (none_of st.gh nlc))) (hpi.app hpi') (by rw [List.length_append]; exact hpl)
    refine ifD (fun c1 => ?_) (fun c1 => ?_)
    · walk_at "go"
      refine ⟨by show 3 ≤ sizeLine; decide, fun l nl => ?_⟩
      walk_at "go"
      obtain ⟨cc, hcc, hcc4⟩ : ∃ cc : Nat, ([.int 0, .int 1, .int 4] : List V)[way]? = some (.int (cc : Int)) ∧ cc ≤ 4 := by
        have h : way = 0 ∨ way = 1 ∨ way = 2 := by omega
        rcases h with rfl | rfl | rfl
        · exact ⟨0, rfl, by omega⟩
        · exact ⟨1, rfl, by omega⟩
        · exact ⟨4, rfl, by omega⟩
      refine r_ixL' (lof upd_same) rfl hcc ?_
      walk_at "go"
      have sA : Stp (M1 p) G H G7 (upd H9 l (.lst [.int 0, .int 1, .int 4])) := s9.trans (Stp.newM s9.gh nl)
      have hpA := hp9.upd (x := .lst [.int 0, .int 1, .int 4]) (hp9.new nl)
      generalize upd H9 l (.lst [.int 0, .int 1, .int 4]) = H10 at sA hpA ⊢
      refine ⟨p, _, _, mm, cc, _, G7, rfl, sA.gh, hpA, by omega, rfl, by omega, by omega, rfl, by omega, fun l2 xs2 ps2 G11 H11 sB hpB hl2 hps2 hpl2 hpi2 => ?_⟩
      walk_at "go"
      have gL11 : G11 L = some (.lst acc) := sB.gg _ _ gr
      refine r_cat (sB.gh _ _ gL11) (sB.gh _ _ hl2) (Nat.le_of_lt (small5 (by rw [hps1.1, hps2.1]; omega))) (fun lc nlc => ?_)
      walk_at "go"
      exact fin2 L l2 lc acc xs2 ps1 ps2 G11 H11 _ (sA.trans sB) sB.gg (hpB.mono (by omega)) (hps1.same sB.gg) hps2 hpi1 hpi2 (by omega) nlc
    · walk_at "go"
      refine ifD (fun c3 => ?_) (fun c3 => ?_)
      · walk_at "go"
        refine lcR2 (M := M1 p) (n := mm - 1) (by omega) (by omega) (by omega) s9.gh (fun i acc G' H' => PrP K mm i acc G' ∧ Pen K G' p (n + 1 + 1 + 1 + 20 + i) H') (fun L hL => ⟨.nil, (hp9.upd (hp9.new hL)).mono (by omega)⟩) (fun L i acc G' H' Em Sk hi hL hL' gL hacc st pv hEm hSk => ?_) (fun L acc G' H' hL hacc st hL' gL pv => ?_)
        · obtain ⟨pv, hpz⟩ := pv
          walk_at "go"
          refine ⟨rfl, ?_⟩
          walk_at "go"
          refine use_draw (m := 1 + i) st.gh hpz (by omega) (by omega) (by omega) (by omega) (fun dd H10 hdd s10 hp10 => ?_)
          walk_at "go"
          refine ⟨by show 2 ≤ sizeLine; decide, fun t nt => ?_⟩
          have hL10 : H10 L = some (.lst acc) := s10.up _ _ (hpz.ne hL') hL'
          have hne : t ≠ p := hp10.new nt
          exact pair_emP (a := 1 + i) (b := dd) (by omega) rfl (st.trans s10) hL10 gL pv nt hEm (by omega) (by omega) (hp10.mono (by omega)) 
        · obtain ⟨⟨ps, hps, hpl, hpi⟩, hpz⟩ := pv
          walk_at "go"
          have sB : Stp (M1 p) G H (upd G' L (.lst acc)) H' := (s9.trans st).freeze hL' (s9.free hL) gL
          exact fin L acc ps (upd G' L _) H' _ sB (st.gg.trans (same_new gL)) ((hpz.know (same_new gL) (by rw [upd_ne (hpz.ne hL').symm]; exact hpz.1)).mono (by omega)) upd_same (hps.same (same_new gL)) hpi (by omega)
      · walk_at "go"
        refine ifD (fun c4 => ?_) (fun c4 => ?_)
        · walk_at "go"
          refine lcR1t (M := M0) (n := mm - half) (by omega) (by omega) (by omega) s9.gh (fun i acc G' _ => PrP K mm i acc G') (fun _ _ => .nil) (fun L i acc G' H' Em Sk hi hL hL' gL hacc st pv hEm hSk => ?_) (fun L acc G' H' hL hacc st hL' gL pv => ?_)
          · walk_at "go"
            refine ⟨rfl, ?_⟩
            walk_at "go"
            refine ⟨by show 2 ≤ sizeLine; decide, fun t nt => ?_⟩
            exact pair_em (a := i) (b := half + i) (by rfl) (by omega) st hL' gL pv nt hEm (by omega) (by omega)
          obtain ⟨psA, hpsA, hplA, hpiA⟩ := pv
          have sA : Stp (M1 p) G H (upd G' L (.lst acc)) H' := (s9.trans st.weak).freeze hL' (s9.free hL) gL
          have sgA : Same G7 (upd G' L (.lst acc)) := st.gg.trans (same_new gL)
          have hpA : Pen K (upd G' L (.lst acc)) p _ H' := (hp9.stp0 st).know (same_new gL) (by rw [upd_ne (hp9.new hL).symm]; exact (hp9.stp0 st).1)
          have grA : (upd G' L (.lst acc)) L = some (.lst acc) := upd_same
          replace hpsA : PrAll K (upd G' L (.lst acc)) acc psA := hpsA.same (same_new gL)
          generalize upd G' L (.lst acc) = GA at sA sgA hpA grA hpsA
          walk_at "go"
          refine lcR1t (M := M0) (n := mm - 1) (by omega) (by omega) (by omega) sA.gh (fun i acc G' _ => PrP K mm i acc G') (fun _ _ => .nil) (fun L5 i acc5 G' H' Em Sk hi hL5 hL5' gL5 hacc5 st pv hEm hSk => ?_) (fun L5 acc5 G' H' hL5 hacc5 st hL5' gL5 pv => ?_)
          · walk_at "go"
            refine ⟨rfl, ?_⟩
            walk_at "go"
            refine ifND (fun c => ?_) (fun c => ?_)
            · walk_at "go"
              refine ⟨by show 2 ≤ sizeLine; decide, fun t nt => ?_⟩
              exact pair_em (a := i) (b := i + 1) (by rfl) (by omega) st hL5' gL5 pv nt hEm (by omega) (by omega)
            · exact hSk _ _ st hL5' gL5 (by obtain ⟨ps, h1, h2, h3⟩ := pv; exact ⟨ps, h1, Nat.le_succ_of_le h2, h3⟩)
          obtain ⟨psB, hpsB, hplB, hpiB⟩ := pv
          have sB : Stp (M1 p) G H (upd G' L5 (.lst acc5)) H' := (sA.trans st.weak).freeze hL5' (sA.free hL5) gL5
          have sgB : Same GA (upd G' L5 (.lst acc5)) := st.gg.trans (same_new gL5)
          have hpB : Pen K (upd G' L5 (.lst acc5)) p _ H' := (hpA.stp0 st).know (same_new gL5) (by rw [upd_ne (hpA.new hL5).symm]; exact (hpA.stp0 st).1)
          have grB : (upd G' L5 (.lst acc5)) L5 = some (.lst acc5) := upd_same
          replace hpsB : PrAll K (upd G' L5 (.lst acc5)) acc5 psB := hpsB.same (same_new gL5)
          generalize upd G' L5 (.lst acc5) = GB at sB sgB hpB grB hpsB
          walk_at "go"
          refine r_cat (sB.gh _ _ (sgB _ _ grA)) (sB.gh _ _ grB) (Nat.le_of_lt (small5 (by rw [hpsA.1, hpsB.1]; omega))) (fun lc nlc => ?_)
          walk_at "go"
          exact fin2 L L5 lc _ _ psA psB GB _ _ sB (sgA.trans sgB) (hpB.mono (by omega)) (hpsA.same sgB) hpsB hpiA hpiB (by omega) nlc
        · walk_at "go"
          refine ifD (fun c5 => ?_) (fun c5 => ?_)
          · walk_at "go"
            refine ⟨by show 3 ≤ sizeLine; decide, fun t nt => ?_⟩
            have sA : Stp (M1 p) G H (upd G7 t (.tup [.int 1, .int 2, .int 4])) (upd H9 t (.tup [.int 1, .int 2, .int 4])) := s9.trans (Stp.new s9.gh nt)
            have gt : SqT K (upd G7 t (.tup [.int 1, .int 2, .int 4])) t [.int 1, .int 2, .int 4] := tof upd_same
            have oA : (upd H9 t (.tup [.int 1, .int 2, .int 4])) o = some (.lst []) := by rw [upd_ne (ne_of_none ho9 nt)]; exact ho9
            have goA : (upd G7 t (.tup [.int 1, .int 2, .int 4])) o = none := by rw [upd_ne (ne_of_none ho9 nt)]; exact go8
            have hpA : Pen K (upd G7 t (.tup [.int 1, .int 2, .int 4])) p _ (upd H9 t (.tup [.int 1, .int 2, .int 4])) := hp9.stp (Stp.new (M := M0) s9.gh nt) (fun z => z)
            have sgA : Same G7 (upd G7 t (.tup [.int 1, .int 2, .int 4])) := same_new (none_of s9.gh nt)
            generalize upd H9 t (.tup [.int 1, .int 2, .int 4]) = HA at sA oA hpA ⊢
            generalize upd G7 t (.tup [.int 1, .int 2, .int 4]) = GA at sA gt goA hpA sgA ⊢
            clear s9 hp9 ho9 ht9
            walk_at "go"
            refine loopT (Same.sqt sA.gh gt) (fun i σ H' => ∃ y8 y9 y10, ∃ (G' : Hp) (zs : List V) (ps : List (Nat × Nat)), σ = [some (.ref p), some (.int (m : Int)), some (.int (way : Int)), some (.int (mm : Int)), some (.ref r), some (.ref L), some (.int (half : Int)), some (.ref o), y8, y9, y10] ∧
              Stp (M1 p) G H G' H' ∧ Same GA G' ∧ H' o = some (.lst zs) ∧ G' o = none ∧ PrAll K G' zs ps ∧ ps.length ≤ i * 16 ∧ PrIn mm ps ∧ Pen K G' p (n + 200) H')
              ⟨none, none, none, GA, [], [], rfl, sA, Same.refl _, oA, goA, .nil, Nat.zero_le _, (fun _ h => by cases h), hpA.mono (by omega)⟩ (fun i σ H' _ pv => ?_) (fun i v σ H' hi hv pv => ?_) (fun σ H' pv => ?_)
            · obtain ⟨_, _, _, G', _, _, _, st, sg, _⟩ := pv
              exact Same.sqt (sg.trans st.gh) gt
            · obtain ⟨y8, y9, y10, G', zs, ps, rfl, st, sg, hoz, goz, hz, hzl, hzi, hpz⟩ := pv
              obtain ⟨bit, rfl, hb1, hb2⟩ : ∃ bit : Nat, v = .int (bit : Int) ∧ 1 ≤ bit ∧ bit ≤ 4 := by
                have hi3 : i < 3 := hi
                have h : i = 0 ∨ i = 1 ∨ i = 2 := by omega
                rcases h with rfl | rfl | rfl
                · exact ⟨1, (Option.some.inj hv).symm, by omega, by omega⟩
                · exact ⟨2, (Option.some.inj hv).symm, by omega, by omega⟩
                · exact ⟨4, (Option.some.inj hv).symm, by omega, by omega⟩
              walk_at "go"
              refine lcR1t (M := M0) (n := mm - bit) (by omega) (by omega) (by omega) st.gh (fun i acc G' _ => ∃ ks : List Nat, acc = ks.map (fun k : Nat => V.int (k : Int)) ∧ ks.length ≤ i ∧ ∀ k ∈ ks, k + bit < mm) (fun _ _ => ⟨[], rfl, Nat.zero_le _, fun _ h => by cases h⟩) (fun L5 i5 acc5 G5 H5 Em Sk hi5 hL5 hL5' gL5 hacc5 st5 pv hEm hSk => ?_) (fun L5 acc5 G5 H5 hL5 hacc5 st5 hL5' gL5 pv => ?_)
              · obtain ⟨ks, rfl, hkl, hks⟩ := pv
                walk_at "go"
                refine ⟨rfl, ?_⟩
                walk_at "go"
                refine ifD (fun c => ?_) (fun c => ?_)
                · walk_at "go"
                  refine hEm _ _ _ st5 hL5' gL5 ⟨ks ++ [i5], by rw [List.map_append]; rfl, by rw [List.length_append]; exact Nat.succ_le_succ hkl, fun k hk => ?_⟩
                  rcases List.mem_append.mp hk with hk | hk
                  · exact hks k hk
                  · rw [List.mem_singleton.mp hk]
                    omega
                · exact hSk _ _ st5 hL5' gL5 ⟨ks, rfl, Nat.le_succ_of_le hkl, hks⟩
              · obtain ⟨ks, rfl, hkl, hks⟩ := pv
                have s5 : Stp (M1 p) G H (upd G5 L5 (.lst (ks.map fun k : Nat => V.int (k : Int)))) H5 := (st.trans st5.weak).freeze hL5' (st.free hL5) gL5
                have sg5 : Same G' (upd G5 L5 (.lst (ks.map fun k : Nat => V.int (k : Int)))) := st5.gg.trans (same_new gL5)
                have oz5 : H5 o = some (.lst zs) := st5.up _ _ (fun z => z) hoz
                have noL : o ≠ L5 := ne_of_none hoz hL5
                have goz5 : (upd G5 L5 (.lst (ks.map fun k : Nat => V.int (k : Int)))) o = none := by rw [upd_ne noL]; exact (st5.fr _ _ hoz).trans goz
                have hpz5 : Pen K (upd G5 L5 (.lst (ks.map fun k : Nat => V.int (k : Int)))) p (n + 200) H5 := (hpz.stp0 st5).know (same_new gL5) (by rw [upd_ne (hpz.new hL5).symm]; exact (hpz.stp0 st5).1)
                have gk5 : (upd G5 L5 (.lst (ks.map fun k : Nat => V.int (k : Int)))) L5 = some (.lst (ks.map fun k : Nat => V.int (k : Int))) := upd_same
                generalize upd G5 L5 (.lst (ks.map fun k : Nat => V.int (k : Int))) = G6 at s5 sg5 goz5 hpz5 gk5
                clear st st5 hL5 hL5' gL5 hoz goz hpz
                walk_at "go"
                have hkl' : (ks.map fun k : Nat => V.int (k : Int)).length ≤ 15 := by rw [List.length_map]; omega
                refine lcL (M := M0) (G := G6) (lof gk5) (Nat.lt_of_le_of_lt hkl' (by decide)) s5.gh (fun i acc G' _ => PrP K mm i acc G') (fun _ _ => .nil) (fun L6 i6 v6 acc6 G7' H7 Em Sk hi6 hL6 hL6' gL6 hacc6 st6 pv hv6 hEm hSk => ?_) (fun L6 acc6 G7' H7 hL6 hacc6 st6 hL6' gL6 pv => ?_)
                · obtain ⟨k, hk, rfl⟩ := map_get hv6
                  have hkm := hks k (List.mem_of_getElem? hk)
                  walk_at "go"
                  refine ⟨rfl, ?_⟩
                  walk_at "go"
                  refine ⟨by show 2 ≤ sizeLine; decide, fun t nt => ?_⟩
                  exact pair_em (a := k) (b := k + bit) rfl (by omega) st6 hL6' gL6 pv nt hEm (by omega) hkm
                · obtain ⟨ps6, hps6, hpl6, hpi6⟩ := pv
                  have hacc' : acc6.length ≤ 15 := Nat.le_trans hacc6 hkl'
                  have hp6l : ps6.length ≤ 15 := by rw [← hps6.1]; exact hacc'
                  have oz7 : H7 o = some (.lst zs) := st6.up _ _ (fun z => z) oz5
                  have goz7 : G7' o = none := (st6.fr _ _ oz5).trans goz5
                  have hz48 : ps.length ≤ 48 := Nat.le_trans hzl (by have hi3 : i < 3 := hi; omega)
                  walk_at "go"
                  refine r_extend oz7 hL6' (Nat.le_of_lt (small5 (by rw [hz.1]; omega))) ?_
                  refine ⟨_, _, _, G7', zs ++ acc6, ps ++ ps6, rfl, (s5.trans st6.weak).inner (M' := M1 o) (Stp.mut st6.gh oz7 goz7 rfl) (fun a e => .inr (by rw [e]; exact hoH)), sg.trans (sg5.trans st6.gg), upd_same, goz7, (hz.same (sg5.trans st6.gg)).app hps6, ?_, hzi.app hpi6, (hpz5.stp0 st6).upd ((hpz5.stp0 st6).ne oz7)⟩
                  rw [List.length_append]
                  omega
            · obtain ⟨y8, y9, y10, G', zs, ps, rfl, st, sg, hoz, goz, hz, hzl, hzi, hpz⟩ := pv
              walk_at "go"
              have hzl3 : ps.length ≤ 3 * 16 := hzl
              exact fin o zs ps (upd G' o _) H' _ (st.freeze hoz hoH goz) (sgA.trans (sg.trans (same_new goz))) (hpz.know (same_new goz) (by rw [upd_ne (hpz.ne hoz).symm]; exact hpz.1)) upd_same (hz.same (same_new goz)) hzi (by omega)
          · walk_at "go"
            refine ifD (fun c6 => ?_) (fun c6 => ?_)
            · walk_at "go"
              refine lcR1t (M := M0) (n := half) (by omega) (by omega) (by omega) s9.gh (fun i acc G' _ => PrP K mm i acc G') (fun _ _ => .nil) (fun L i acc G' H' Em Sk hi hL hL' gL hacc st pv hEm hSk => ?_) (fun L acc G' H' hL hacc st hL' gL pv => ?_)
              · walk_at "go"
                refine ⟨rfl, ?_⟩
                walk_at "go"
                obtain ⟨dd, ed, hdd⟩ := mod_nat (i := (i : Int) + 1) hh1
                refine ⟨by show 2 ≤ sizeLine; decide, fun t nt => ?_⟩
                exact pair_em (a := i) (b := dd) (by rfl) (by exact ed) st hL' gL pv nt hEm (by omega) (by omega)
              obtain ⟨psA, hpsA, hplA, hpiA⟩ := pv
              have sA : Stp (M1 p) G H (upd G' L (.lst acc)) H' := (s9.trans st.weak).freeze hL' (s9.free hL) gL
              have sgA : Same G7 (upd G' L (.lst acc)) := st.gg.trans (same_new gL)
              have hpA : Pen K (upd G' L (.lst acc)) p _ H' := (hp9.stp0 st).know (same_new gL) (by rw [upd_ne (hp9.new hL).symm]; exact (hp9.stp0 st).1)
              have grA : (upd G' L (.lst acc)) L = some (.lst acc) := upd_same
              replace hpsA : PrAll K (upd G' L (.lst acc)) acc psA := hpsA.same (same_new gL)
              generalize upd G' L (.lst acc) = GA at sA sgA hpA grA hpsA
              walk_at "go"
              refine lcR2 (M := M0) (n := mm - 1 - half) (by omega) (by omega) (by omega) sA.gh (fun i acc G' _ => PrP K mm i acc G') (fun _ _ => .nil) (fun L5 i acc5 G' H' Em Sk hi hL5 hL5' gL5 hacc5 st pv hEm hSk => ?_) (fun L5 acc5 G' H' hL5 hacc5 st hL5' gL5 pv => ?_)
              · walk_at "go"
                refine ⟨rfl, ?_⟩
                walk_at "go"
                refine ⟨by show 2 ≤ sizeLine; decide, fun t nt => ?_⟩
                exact pair_em (a := half + i) (b := half + i + 1) (by omega) (by omega) st hL5' gL5 pv nt hEm (by omega) (by omega)
              obtain ⟨psB, hpsB, hplB, hpiB⟩ := pv
              have sB : Stp (M1 p) G H (upd G' L5 (.lst acc5)) H' := (sA.trans st.weak).freeze hL5' (sA.free hL5) gL5
              have sgB : Same GA (upd G' L5 (.lst acc5)) := st.gg.trans (same_new gL5)
              have hpB : Pen K (upd G' L5 (.lst acc5)) p _ H' := (hpA.stp0 st).know (same_new gL5) (by rw [upd_ne (hpA.new hL5).symm]; exact (hpA.stp0 st).1)
              have grB : (upd G' L5 (.lst acc5)) L5 = some (.lst acc5) := upd_same
              replace hpsB : PrAll K (upd G' L5 (.lst acc5)) acc5 psB := hpsB.same (same_new gL5)
              generalize upd G' L5 (.lst acc5) = GB at sB sgB hpB grB hpsB
              walk_at "go"
              refine r_cat (sB.gh _ _ (sgB _ _ grA)) (sB.gh _ _ grB) (Nat.le_of_lt (small5 (by rw [hpsA.1, hpsB.1]; omega))) (fun lc nlc => ?_)
              walk_at "go"
              exact fin2 L L5 lc _ _ psA psB GB _ _ sB (sgA.trans sgB) (hpB.mono (by omega)) (hpsA.same sgB) hpsB hpiA hpiB (by omega) nlc
            · walk_at "go"
              obtain ⟨cc, ecc, hcc⟩ : ∃ cc : Nat, (if 2 * (mm : Int) < 28 then 2 * (mm : Int) else 28) = (cc : Int) ∧ cc ≤ 28 := ⟨Int.toNat _, (Int.toNat_of_nonneg (by split <;> omega)).symm, by split <;> omega⟩
              rw [ecc]
              refine ⟨p, _, _, mm, cc, _, G7, rfl, s9.gh, hp9, by omega, rfl, by omega, by omega, rfl, by omega, fun l2 xs2 ps2 G11 H11 sB hpB hl2 hps2 hpl2 hpi2 => ?_⟩
              walk_at "go"
              exact fin l2 xs2 ps2 G11 H11 _ (s9.trans sB) sB.gg (hpB.mono (by omega)) hl2 hps2 hpi2 (by omega)
end
abbrev sIsName : Stmt := topS 8
theorem scIsName : FnScope ["thing", "sign"] ["thing"] (defScope sIsName) := ⟨rfl, rfl, rfl, by decide +kernel, rfl, by decide +kernel, by decide +kernel⟩
abbrev sWrongNames : Stmt := topS 9
theorem scWrongNames : FnScope ["things", "ahead", "thing"] ["things"] (defScope sWrongNames) := ⟨rfl, rfl, rfl, by decide +kernel, rfl, by decide +kernel, by decide +kernel⟩
section
variable {P : Program} {w : World} {K : PySem.W.Frag} {mg : Str → Option Value} {base : Heap}
theorem in_letters {c : Nat} (h1 : 97 ≤ c) (h2 : c ≤ 122) : c ∈ letters.cps.toList := (by decide +kernel : ∀ c ∈ List.range' 97 26, c ∈ letters.cps.toList) c (List.mem_range'_1.mpr ⟨h1, by omega⟩)
def spIsName (K : PySem.W.Frag) : Sp := fun vs H Q _ => ∃ (z : Str) (G : Hp), vs = [.str z] ∧ Same G H ∧ NmOk z ∧ ∀ G' H', Stp M0 G H G' H' → Q (.bl true) H'
abbrev DIsName (P : Program) (w : World) (K : PySem.W.Frag) (mg : Str → Option Value) (base : Heap) : Prop := Df P w K mg base CX0 1 "is_name" ["thing"] (spIsName K)
theorem ok_IsName {f : Addr} {fd : FuncData} (F : Fun K "is_name" "is_name" sIsName f fd) (M : Mgs mg) {tkL : Tok} (c_LETTERS : mg "LETTERS" = some (.str "abcdefghijklmnopqrstuvwxyz" tkL)) {tkN : Tok} (c_LONGEST : mg "LONGEST" = some (.int 8 tkN)) : FnOk P w K mg base CX0 1 f fd ["thing"] (spIsName K) := by
  refine F.ok scIsName (fun vs H Q E h => ?_) (fun cdv A outer s H vs Q E hr h => ?_)
  · obtain ⟨z, G, rfl, _⟩ := h
    rfl
  · obtain ⟨z, G, rfl, g0, hz, q⟩ := h
    refine ⟨_, ((pss_cons (ps_if (PW.pt (pw_or (pt_not (pt_val (pe_callB (k_isi (K := K) rfl) (by rfl) M.isinstance (by decide +kernel) (pa_cons (pv 0) (pa_cons (pe_bltn (v := V.ty "str") (u := Value.type "str") (by rfl) M.str_ (by decide +kernel) rfl) pa_nil))))) (pw_or1 (pt_not (pt_chain op_le op_le pe_int (pe_callB call_lenS (by rfl) M.len PySem.boot_len (pa_cons (pv 0) pa_nil)) (pe_glob (v := V.int 8) (by rfl) c_LONGEST ⟨_, rfl⟩))))))
    (pss_one (ps_ret pe_bl))
    pss_nil)
    (pss_one (ps_ret (pe_callB (k_all (K := K) rfl rfl) (by rfl) M.all (by decide +kernel) (pa_cons (pe_lc (own := [("sign", 1)]) rfl scIsName.nd (pi_str (pv 0)) (blkOk_by (N := ["thing", "sign"]) (sc := defScope sIsName) (by decide +kernel)) (fun _ _ _ _ _ => (pg_name (i := 1) scIsName.nd rfl (Or.inl rfl))) (fun _ _ _ _ _ => pts_nil) (fun _ _ _ _ _ => (pe_cmpR op_in_sign (pv 1) (pe_glob (v := V.str "abcdefghijklmnopqrstuvwxyz") (by rfl) c_LETTERS ⟨_, rfl⟩) (by rfl)))) pa_nil)))))), ?_⟩
    have hsz : z.length ≤ sizeLine := Nat.le_trans hz.2.1 (by decide)
    walk_at "go0"
    refine c_isiS ?_
    walk_at "go"
    refine r_chain ?_
    walk_at "go"
    rw [decide_eq_true (show (1 : Int) ≤ (z.length : Int) from by have := hz.1; omega)]
    walk_at "go"
    rw [decide_eq_true (show (z.length : Int) ≤ 8 from by have := hz.2.1; omega)]
    walk_at "go"
    refine r_lcS ?_
    walk_at "go"
    refine lcS (M := M0) (Nat.lt_of_le_of_lt hz.2.1 (by decide)) g0 (fun i acc G' H' => G = G' ∧ acc = (List.replicate i true).map V.bl) (fun L hL => ⟨rfl, rfl⟩)
      (fun L i c acc G' H' Em Sk hi hL hL' gL hacc st pv hc hEm hSk => ?_) (fun L acc G' H' hL hacc st hL' gL pv => ?_)
    · obtain ⟨e, rfl⟩ := pv
      subst e
      walk_at "go"
      refine ⟨rfl, ?_⟩
      walk_at "go"
      have hb := hz.2.2 c (by rw [Array.mem_toList_iff]; exact Array.mem_of_getElem? hc)
      refine ⟨c, letters, rfl, rfl, ?_⟩
      rw [decide_eq_true (in_letters hb.1 hb.2)]
      refine hEm _ G H' st hL' gL ⟨rfl, ?_⟩
      rw [List.replicate_succ', List.map_append]
      rfl
    · obtain ⟨e, rfl⟩ := pv
      subst e
      walk_at "go"
      refine c_allB (lof hL') ?_
      walk_at "go"
      rw [show (List.replicate z.cps.size true).all id = true from by simp]
      exact q G H' st
def spWrongNames (K : PySem.W.Frag) : Sp := fun vs H Q _ => ∃ (a : Addr) (rs : List Str) (G : Hp), vs = [.ref a] ∧ Same G H ∧ (SqL K G a (rs.map V.str) ∨ SqT K G a (rs.map V.str)) ∧ (∀ z ∈ rs, NmOk z) ∧ rs.Nodup ∧ 1 ≤ rs.length ∧ rs.length < 64 ∧
  ∀ r G' H', Stp M0 G H G' H' → SqL K G' r [] → Q (.ref r) H'
abbrev DWrongNames (P : Program) (w : World) (K : PySem.W.Frag) (mg : Str → Option Value) (base : Heap) : Prop := Df P w K mg base CX0 2 "wrong_names" ["things"] (spWrongNames K)
theorem nodup_take {α : Type} {l : List α} (h : l.Nodup) {i : Nat} {z : α} (e : l[i]? = some z) : z ∉ l.take i := by
  intro m
  obtain ⟨j, hj, ej⟩ := List.mem_iff_getElem.mp m
  rw [List.length_take] at hj
  rw [List.getElem_take] at ej
  have hi : i < l.length := (List.getElem?_eq_some_iff.mp e).1
  have ei := (List.getElem?_eq_some_iff.mp e).2
  have := (List.getElem_inj (h₀ := by omega) (h₁ := hi) h).mp (ej.trans ei.symm)
  omega
theorem walk_q {G H : Hp} {a : Addr} {xs : List V} (g : Same G H) (h : SqL K G a xs ∨ SqT K G a xs) : SqL K H a xs ∨ SqT K H a xs := h.elim (fun h => .inl (g.seq h)) (fun h => .inr (Same.sqt g h))
theorem ok_WrongNames {f : Addr} {fd : FuncData} (F : Fun K "wrong_names" "wrong_names" sWrongNames f fd) (M : Mgs mg) (D_is_name : DIsName P w K mg base) : FnOk P w K mg base CX0 2 f fd ["things"] (spWrongNames K) := by
  refine F.ok scWrongNames (fun vs H Q E h => ?_) (fun cdv A outer s H vs Q E hr h => ?_)
  · obtain ⟨a, rs, G, rfl, _⟩ := h
    rfl
  · obtain ⟨a, rs, G, rfl, g0, hs, hn, hd, h1, h64, q⟩ := h
    refine ⟨_, ((pss_cons (ps_if (pt_not (pt_val (pe_callB (k_isiT (K := K) rfl) (by rfl) M.isinstance (by decide +kernel) (pa_cons (pv 0) (pa_cons (pe_tup (pa_cons (pe_bltn (v := V.ty "list") (u := Value.type "list") (by rfl) M.list_ (by decide +kernel) rfl) (pa_cons (pe_bltn (v := V.ty "tuple") (u := Value.type "tuple") (by rfl) M.tuple_ (by decide +kernel) rfl) pa_nil))) pa_nil)))))
    (pss_one (ps_ret (pe_lst (pa_cons (pv 0) pa_nil))))
    pss_nil)
    (pss_cons (ps_if (pt_cmpR op_eq (pe_callB (k_len (K := K) rfl) (by rfl) M.len PySem.boot_len (pa_cons (pv 0) pa_nil)) pe_int (nomark _))
    (pss_one (ps_ret (pe_lst (pa_cons (pe_tup pa_nil) pa_nil))))
    pss_nil)
    (pss_cons (ps_set (i := 1) scWrongNames.nd rfl (Or.inl rfl) (pe_callTy0 (k_set0K (P := P) (w := w) rfl rfl) (by rfl) M.set_ (by decide +kernel)))
    (pss_cons (ps_for PassesOwn.never rfl (pi_eith (k_pi_list (K := K) rfl (pv 0)) (k_pi_tup (K := K) rfl (pv 0))) (pg_name (i := 2) scWrongNames.nd rfl (Or.inl rfl))
    (pss_cons (ps_if (PW.pt (pw_or (pt_not (pt_val (pe_df D_is_name hr (by rfl) pass0 (pa_cons (pv 2) pa_nil)))) (pw_or1 (pt_cmpR (k_sinK (P := P) (w := w) rfl rfl) (pv 2) (pv 1) (by rfl)))))
    (pss_one (ps_ret (pe_lst (pa_cons (pv 2) pa_nil))))
    pss_nil)
    (pss_one (ps_expr (k_saddK (P := P) (w := w) rfl rfl (pv 1) (pa_cons (pv 2) pa_nil))))))
    (pss_one (ps_ret (pe_lst pa_nil)))))))), ?_⟩
    walk_at "go0"
    refine ⟨by show 2 ≤ sizeLine; decide, fun t nt => ?_⟩
    have s1 : Stp M0 G H G (upd H t (.tup [.ty "list", .ty "tuple"])) := Stp.newM g0 nt
    have ht : (upd H t (.tup [.ty "list", .ty "tuple"])) t = some (.tup [.ty "list", .ty "tuple"]) := upd_same
    generalize upd H t (.tup [.ty "list", .ty "tuple"]) = H1 at s1 ht ⊢
    walk_at "go"
    refine c_isiLT (walk_q s1.gh hs) ht ?_
    walk_at "go"
    refine c_len (walk_q s1.gh hs) ?_
    walk_at "go"
    refine ifD (fun c => ?_) (fun _ => ?_)
    · exfalso
      have c' := V.int.inj c
      rw [List.length_map] at c'
      omega
    walk_at "go"
    refine ⟨rfl, fun s ns => ?_⟩
    have s2 : Stp M0 G H G (upd H1 s (SetK P w s (fun _ => false) 0)) := s1.trans (Stp.newM s1.gh ns)
    have hs2 : (upd H1 s (SetK P w s (fun _ => false) 0)) s = some (SetK P w s (fun _ => false) 0) := upd_same
    have gs : G s = none := none_of s1.gh ns
    have hsH : H s = none := s1.free ns
    generalize upd H1 s (SetK P w s (fun _ => false) 0) = H2 at s2 hs2 ⊢
    walk_at "go"
    refine forQ' (G := G) (xs := rs.map V.str) (p := a) (fun R h => by walk_at "go"; exact h) s2.gh hs (fun i σ H' => ∃ y2 n, ∃ S : Key → Bool, σ = [some (.ref a), some (.ref s), y2] ∧ Stp M0 G H G H' ∧ H' s = some (SetK P w s S n) ∧ n ≤ i ∧ ∀ z : Str, S (.inr z) = decide (z ∈ rs.take i))
      ⟨none, 0, _, rfl, s2, hs2, Nat.le_refl 0, fun z => by simp⟩ (fun i σ H' _ pv => ?_) (fun i v σ H' hi hv pv => ?_) (fun σ H' pv => ?_)
    · obtain ⟨_, _, _, _, st, _⟩ := pv
      exact st.gh
    · obtain ⟨y2, n, S, rfl, st, hS, hni, hSe⟩ := pv
      obtain ⟨z, hz, rfl⟩ := map_get hv
      rw [List.length_map] at hi
      have hzm := List.mem_of_getElem? hz
      walk_at "go"
      refine ⟨z, G, rfl, st.gh, hn z hzm, fun G3 H3 s3 => ?_⟩
      have hS3 : H3 s = some (SetK P w s S n) := s3.up _ _ (fun z => z) hS
      have st3 : Stp M0 G H G H3 := st.trans (s3.forget st.gh (fun _ z => z.elim))
      walk_at "go"
      have hSz : S (.inr z) = false := by
        rw [hSe]
        exact decide_eq_false (nodup_take hd hz)
      refine ⟨.inr z, s, S, n, rfl, rfl, hS3, ?_⟩
      rw [show (if (false : Bool) = true then !S (.inr z) else S (.inr z)) = false from hSz]
      walk_at "go"
      refine ⟨⟨s, S, n, rfl, hS3⟩, ?_⟩
      walk_at "go"
      refine ⟨s, .inr z, S, n, rfl, rfl, hS3, by show n + 1 < scanBound; exact Nat.lt_of_lt_of_le (show n + 1 < 66 by omega) (by decide), ?_⟩
      walk_at "go"
      refine ⟨_, _, _, rfl, st3.inner (M' := M1 s) (Stp.mut st3.gh hS3 gs rfl) (fun b e => .inr (by rw [e]; exact hsH)), upd_same, ?_, fun y => ?_⟩
      · rw [if_neg (by rw [hSz]; exact Bool.false_ne_true)]; omega
      · rw [hSe, take_succ_get hz]
        have e : decide ((Sum.inr y : Key) = Sum.inr z) = decide (y = z) := decide_eq_decide.mpr ⟨fun e => Sum.inr.inj e, fun e => by rw [e]⟩
        rw [e, ← Bool.decide_or]
        exact decide_eq_decide.mpr (by rw [List.mem_append, List.mem_singleton])
    · obtain ⟨y2, n, S, rfl, st, hS, hni, hSe⟩ := pv
      walk_at "go"
      refine ⟨Nat.zero_le _, fun o no => ?_⟩
      exact q o (upd G o (.lst [])) (upd H' o (.lst [])) (st.trans (Stp.new st.gh no)) (lof upd_same)
end
abbrev sRisingPair : Stmt := topS 12
theorem scRisingPair : FnScope ["pair"] ["pair"] (defScope sRisingPair) := ⟨rfl, rfl, rfl, by decide +kernel, rfl, by decide +kernel, by decide +kernel⟩
abbrev sIsPair : Stmt := topS 11
theorem scIsPair : FnScope ["thing", "names", "one", "other"] ["thing", "names"] (defScope sIsPair) := ⟨rfl, rfl, rfl, by decide +kernel, rfl, by decide +kernel, by decide +kernel⟩
abbrev sWrongPairs : Stmt := topS 10
theorem scWrongPairs : FnScope ["things", "names", "ahead", "thing", "pair"] ["things", "names"] (defScope sWrongPairs) := ⟨rfl, rfl, rfl, by decide +kernel, rfl, by decide +kernel, by decide +kernel⟩
section
variable {P : Program} {w : World} {K : PySem.W.Frag} {mg : Str → Option Value} {base : Heap}
theorem q_ix {K : PySem.W.Frag} {H : Hp} {Q : VK} {p : Addr} {xs : List V} {v : V} {i : Int} {n : Nat} (h : SqQ K H p xs) (e : i = (n : Int)) (c : xs[n]? = some v) (q : Q v H) : rIx K (.ref p) (.int i) H Q :=
  h.elim (fun h => .inl (r_ixL' h e c q)) (fun h => .inr (.inl (r_ixT' h e c q)))
def spRisingPair (K : PySem.W.Frag) : Sp := fun vs H Q _ => ∃ (t : Addr) (d : Dr) (G : Hp), vs = [.ref t] ∧ Same G H ∧ SqQ K G t [.str d.1, .str d.2] ∧
  ∀ r G' H', Stp M0 G H G' H' → SqT K G' r [.str (ris d).1, .str (ris d).2] → Q (.ref r) H'
abbrev DRisingPair (P : Program) (w : World) (K : PySem.W.Frag) (mg : Str → Option Value) (base : Heap) : Prop := Df P w K mg base CX0 1 "rising_pair" ["pair"] (spRisingPair K)
theorem ok_RisingPair {f : Addr} {fd : FuncData} (F : Fun K "rising_pair" "rising_pair" sRisingPair f fd) (M : Mgs mg) : FnOk P w K mg base CX0 1 f fd ["pair"] (spRisingPair K) := by
  refine F.ok scRisingPair (fun vs H Q E h => ?_) (fun cdv A outer s H vs Q E hr h => ?_)
  · obtain ⟨t, d, G, rfl, _⟩ := h
    rfl
  · obtain ⟨t, d, G, rfl, g0, ht, q⟩ := h
    refine ⟨_, ((pss_one (ps_ret (pe_tup (pa_cons (pe_callB (call_minS rfl) (by rfl) M.min (by decide +kernel) (pa_cons (pe_ix (k_ix_seq (K := K) rfl) (pv 0) pe_int (fun _ _ => rfl)) (pa_cons (pe_ix (k_ix_seq (K := K) rfl) (pv 0) pe_int (fun _ _ => rfl)) pa_nil))) (pa_cons (pe_callB (call_maxS rfl) (by rfl) M.max (by decide +kernel) (pa_cons (pe_ix (k_ix_seq (K := K) rfl) (pv 0) pe_int (fun _ _ => rfl)) (pa_cons (pe_ix (k_ix_seq (K := K) rfl) (pv 0) pe_int (fun _ _ => rfl)) pa_nil))) pa_nil)))))), ?_⟩
    walk_at "go0"
    refine q_ix (ht.same g0) rfl rfl ?_
    walk_at "go"
    refine q_ix (ht.same g0) rfl rfl ?_
    walk_at "go"
    refine c_minS ?_
    walk_at "go"
    refine q_ix (ht.same g0) rfl rfl ?_
    walk_at "go"
    refine q_ix (ht.same g0) rfl rfl ?_
    walk_at "go"
    refine c_maxS ?_
    walk_at "go"
    refine ⟨by show 2 ≤ sizeLine; decide, fun r nr => ?_⟩
    exact q r (upd G r (.tup [.str (ris d).1, .str (ris d).2])) (upd H r (.tup [.str (ris d).1, .str (ris d).2])) (Stp.new g0 nr) (tof upd_same)
def spIsPair (K : PySem.W.Frag) : Sp := fun vs H Q _ => ∃ (t r : Addr) (d : Dr) (rs : List Str) (G : Hp), vs = [.ref t, .ref r] ∧ Same G H ∧ SqQ K G t [.str d.1, .str d.2] ∧ SqQ K G r (rs.map V.str) ∧ d.1 ∈ rs ∧ d.2 ∈ rs ∧ d.1 ≠ d.2 ∧
  ∀ G' H', Stp M0 G H G' H' → Q (.bl true) H'
abbrev DIsPair (P : Program) (w : World) (K : PySem.W.Frag) (mg : Str → Option Value) (base : Heap) : Prop := Df P w K mg base CX0 1 "_is_pair" ["thing", "names"] (spIsPair K)
theorem ok_IsPair {f : Addr} {fd : FuncData} (F : Fun K "_is_pair" "_is_pair" sIsPair f fd) (M : Mgs mg) : FnOk P w K mg base CX0 1 f fd ["thing", "names"] (spIsPair K) := by
  refine F.ok scIsPair (fun vs H Q E h => ?_) (fun cdv A outer s H vs Q E hr h => ?_)
  · obtain ⟨t, r, d, rs, G, rfl, _⟩ := h
    rfl
  · obtain ⟨t, r, d, rs, G, rfl, g0, ht, hr2, m1, m2, hne, q⟩ := h
    refine ⟨_, ((pss_cons (ps_if (PW.pt (pw_or (pt_not (pt_val (pe_callB (k_isiT (K := K) rfl) (by rfl) M.isinstance (by decide +kernel) (pa_cons (pv 0) (pa_cons (pe_tup (pa_cons (pe_bltn (v := V.ty "list") (u := Value.type "list") (by rfl) M.list_ (by decide +kernel) rfl) (pa_cons (pe_bltn (v := V.ty "tuple") (u := Value.type "tuple") (by rfl) M.tuple_ (by decide +kernel) rfl) pa_nil))) pa_nil))))) (pw_or1 (pt_cmpR op_ne (pe_callB (k_len (K := K) rfl) (by rfl) M.len PySem.boot_len (pa_cons (pv 0) pa_nil)) pe_int (nomark _)))))
    (pss_one (ps_ret pe_bl))
    pss_nil)
    (pss_cons (ps_asg (pv 0) (pg_eith (k_pg_tup (K := K) rfl rfl (pgs_cons (pg_name (i := 2) scIsPair.nd rfl (Or.inl rfl)) (pgs_cons (pg_name (i := 3) scIsPair.nd rfl (Or.inl rfl)) pgs_nil))) (k_pg_unl (K := K) rfl rfl (pgs_cons (pg_name (i := 2) scIsPair.nd rfl (Or.inl rfl)) (pgs_cons (pg_name (i := 3) scIsPair.nd rfl (Or.inl rfl)) pgs_nil)))))
    (pss_one (ps_ret (pe_and (pe_cmpR (k_op_in (K := K) rfl) (pv 2) (pv 1) (by rfl)) (pe_and (pe_cmpR (k_op_in (K := K) rfl) (pv 3) (pv 1) (by rfl)) (pe_one (pe_cmpR op_ne (pv 2) (pv 3) (nomark _)))))))))), ?_⟩
    walk_at "go0"
    refine ⟨by show 2 ≤ sizeLine; decide, fun tt nt => ?_⟩
    have s1 : Stp M0 G H G (upd H tt (.tup [.ty "list", .ty "tuple"])) := Stp.newM g0 nt
    have htt : (upd H tt (.tup [.ty "list", .ty "tuple"])) tt = some (.tup [.ty "list", .ty "tuple"]) := upd_same
    generalize upd H tt (.tup [.ty "list", .ty "tuple"]) = H1 at s1 htt ⊢
    walk_at "go"
    refine c_isiLT (ht.same s1.gh) htt ?_
    walk_at "go"
    refine c_len (ht.same s1.gh) ?_
    walk_at "go"
    refine ifND (fun c => absurd rfl c) (fun _ => ?_)
    walk_at "go"
    rcases ht.same s1.gh with h | h
    · refine .inr ⟨t, _, rfl, h, rfl, ?_⟩
      walk_at "go"
      refine r_inQ (hr2.same s1.gh) ?_
      walk_at "go"
      rw [decide_eq_true m1]
      walk_at "go"
      refine r_inQ (hr2.same s1.gh) ?_
      walk_at "go"
      rw [decide_eq_true m2]
      walk_at "go"
      rw [decide_eq_false (show ¬ V.str d.1 = V.str d.2 from fun e => hne (V.str.inj e))]
      exact q G H1 s1
    · refine .inl (r_gtup h rfl ?_)
      walk_at "go"
      refine r_inQ (hr2.same s1.gh) ?_
      walk_at "go"
      rw [decide_eq_true m1]
      walk_at "go"
      refine r_inQ (hr2.same s1.gh) ?_
      walk_at "go"
      rw [decide_eq_true m2]
      walk_at "go"
      rw [decide_eq_false (show ¬ V.str d.1 = V.str d.2 from fun e => hne (V.str.inj e))]
      exact q G H1 s1
def spWrongPairs (K : PySem.W.Frag) : Sp := fun vs H Q _ => ∃ (a r : Addr) (xs : List V) (ds : List Dr) (rs : List Str) (G : Hp), vs = [.ref a, .ref r] ∧ Same G H ∧ SqL K G a xs ∧ PrsQ K G xs ds ∧ SqQ K G r (rs.map V.str) ∧
  (∀ d ∈ ds, d.1 ∈ rs ∧ d.2 ∈ rs ∧ d.1 ≠ d.2) ∧ (ds.map ris).Nodup ∧ ds.length < 64 ∧ ∀ e G' H', Stp M0 G H G' H' → SqL K G' e [] → Q (.ref e) H'
abbrev DWrongPairs (P : Program) (w : World) (K : PySem.W.Frag) (mg : Str → Option Value) (base : Heap) : Prop := Df P w K mg base CX0 2 "wrong_pairs" ["things", "names"] (spWrongPairs K)
theorem ok_WrongPairs {f : Addr} {fd : FuncData} (F : Fun K "wrong_pairs" "wrong_pairs" sWrongPairs f fd) (M : Mgs mg) (D_is_pair : DIsPair P w K mg base) (D_rising_pair : DRisingPair P w K mg base) : FnOk P w K mg base CX0 2 f fd ["things", "names"] (spWrongPairs K) := by
  refine F.ok scWrongPairs (fun vs H Q E h => ?_) (fun cdv A outer s H vs Q E hr h => ?_)
  · obtain ⟨a, r, xs, ds, rs, G, rfl, _⟩ := h
    rfl
  · obtain ⟨a, r, xs, ds, rs, G, rfl, g0, hs, hP, hrs, hin, hnd, hl, q⟩ := h
    have hu64 := hu64_of hr
    refine ⟨_, ((pss_cons (ps_if (pt_not (pt_val (pe_callB (k_isiT (K := K) rfl) (by rfl) M.isinstance (by decide +kernel) (pa_cons (pv 0) (pa_cons (pe_tup (pa_cons (pe_bltn (v := V.ty "list") (u := Value.type "list") (by rfl) M.list_ (by decide +kernel) rfl) (pa_cons (pe_bltn (v := V.ty "tuple") (u := Value.type "tuple") (by rfl) M.tuple_ (by decide +kernel) rfl) pa_nil))) pa_nil)))))
    (pss_one (ps_ret (pe_lst (pa_cons (pv 0) pa_nil))))
    pss_nil)
    (pss_cons (ps_set (i := 2) scWrongPairs.nd rfl (Or.inl rfl) (pe_callTy0 (k_set0T (P := P) (w := w) rfl rfl) (by rfl) M.set_ (by decide +kernel)))
    (pss_cons (ps_for PassesOwn.never rfl (k_pi_list (K := K) rfl (pv 0)) (pg_name (i := 3) scWrongPairs.nd rfl (Or.inl rfl))
    (pss_cons (ps_if (pt_not (pt_val (pe_df D_is_pair hr (by rfl) pass0 (pa_cons (pv 3) (pa_cons (pv 1) pa_nil)))))
    (pss_one (ps_ret (pe_lst (pa_cons (pv 3) pa_nil))))
    pss_nil)
    (pss_cons (ps_set (i := 4) scWrongPairs.nd rfl (Or.inl rfl) (pe_df D_rising_pair hr (by rfl) pass0 (pa_cons (pv 3) pa_nil)))
    (pss_cons (ps_if (pt_cmpR (k_sinT (K := K) (P := P) (w := w) rfl rfl rfl (lt_u4 hu64)) (pv 4) (pv 2) (by rfl))
    (pss_one (ps_ret (pe_lst (pa_cons (pv 3) pa_nil))))
    pss_nil)
    (pss_one (ps_expr (k_saddT (K := K) (P := P) (w := w) rfl rfl rfl (lt_u2 hu64) (pv 2) (pa_cons (pv 4) pa_nil))))))))
    (pss_one (ps_ret (pe_lst pa_nil))))))), ?_⟩
    walk_at "go0"
    refine ⟨by show 2 ≤ sizeLine; decide, fun t nt => ?_⟩
    have s1 : Stp M0 G H G (upd H t (.tup [.ty "list", .ty "tuple"])) := Stp.newM g0 nt
    have ht : (upd H t (.tup [.ty "list", .ty "tuple"])) t = some (.tup [.ty "list", .ty "tuple"]) := upd_same
    generalize upd H t (.tup [.ty "list", .ty "tuple"]) = H1 at s1 ht ⊢
    walk_at "go"
    refine c_isiLT (.inl (s1.gh.seq hs)) ht ?_
    walk_at "go"
    refine ⟨rfl, fun s ns => ?_⟩
    have s2 : Stp M0 G H G (upd H1 s (SetTT P w s [])) := s1.trans (Stp.newM s1.gh ns)
    have hs2 : (upd H1 s (SetTT P w s [])) s = some (SetTT P w s []) := upd_same
    have gs : G s = none := none_of s1.gh ns
    have hsH : H s = none := s1.free ns
    generalize upd H1 s (SetTT P w s []) = H2 at s2 hs2 ⊢
    walk_at "go"
    refine loopL (xs := xs) (s2.gh.seq hs) (fun i σ H' => ∃ y3 y4, ∃ (L : List (Addr × List Key)) (G' : Hp), σ = [some (.ref a), some (.ref r), some (.ref s), y3, y4] ∧ Stp M0 G H G' H' ∧ H' s = some (SetTT P w s L) ∧ G' s = none ∧ TupsIn K G' L ∧ (L.map (·.2)).Perm (((ds.take i).map ris).map kD))
      ⟨none, none, [], G, rfl, s2, hs2, gs, (fun _ h => by cases h), List.Perm.nil⟩ (fun i σ H' _ pv => ?_) (fun i v σ H' hi hv pv => ?_) (fun σ H' pv => ?_)
    · obtain ⟨_, _, _, G', _, st, _⟩ := pv
      exact (st.gg.trans st.gh).seq hs
    · obtain ⟨y3, y4, L, G', rfl, st, hS, gS, hT, hp⟩ := pv
      have hi' : i < ds.length := by rw [← hP.1]; exact hi
      obtain ⟨t', et, hq⟩ := hP.2 i _ (List.getElem?_eq_getElem hi')
      cases et.symm.trans hv
      have hz := List.getElem?_eq_getElem hi'
      have hm := hin _ (List.getElem_mem hi')
      generalize ds[i] = d at hq hz hm
      walk_at "go"
      refine ⟨t', r, d, rs, G', rfl, st.gh, hq.same st.gg, hrs.same st.gg, hm.1, hm.2.1, hm.2.2, fun G3 H3 s3 => ?_⟩
      have gS3 : G3 s = none := (s3.fr _ _ hS).trans gS
      have hS3 : H3 s = some (SetTT P w s L) := s3.up _ _ (fun z => z) hS
      walk_at "go"
      refine ⟨t', d, G3, rfl, s3.gh, (hq.same st.gg).same s3.gg, fun b G4 H4 s4 hb => ?_⟩
      have gS4 : G4 s = none := (s4.fr _ _ hS3).trans gS3
      have hS4 : H4 s = some (SetTT P w s L) := s4.up _ _ (fun z => z) hS3
      have st4 : Stp M0 G H G4 H4 := (st.trans s3).trans s4
      have hT4 : TupsIn K G4 L := fun p hp => Same.sqt (s3.gg.trans s4.gg) (hT p hp)
      have hT4' : TupsIn K H4 L := fun p hp => Same.sqt s4.gh (hT4 p hp)
      have hkb : SqT K H4 b ((kD (ris d)).map kV) := Same.sqt s4.gh hb
      have hno : kD (ris d) ∉ L.map (·.2) := by
        intro hmm
        obtain ⟨e, he, e2⟩ := List.mem_map.mp (hp.mem_iff.mp hmm)
        have e3 := kD_inj e2
        subst e3
        have hzr : (ds.map ris)[i]? = some (ris d) := by rw [List.getElem?_map, hz]; rfl
        exact nodup_take hnd hzr (by rw [← List.map_take]; exact he)
      walk_at "go"
      refine ⟨b, s, kD (ris d), L, rfl, rfl, hkb, hS4, hT4', fun c hc => ?_⟩
      have ec : c = false := by
        cases c with
        | false => rfl
        | true => exact absurd (hc.mp rfl) hno
      subst ec
      walk_at "go"
      refine ⟨⟨s, L, rfl, hS4⟩, ?_⟩
      walk_at "go"
      have hLl : L.length = i := by
        have e := hp.length_eq
        rw [List.length_map, List.length_map, List.length_map, List.length_take] at e
        omega
      refine ⟨s, b, kD (ris d), L, rfl, rfl, hkb, hS4, hT4', by omega, fun L' _ hL' => ?_⟩
      have hLp := hL' hno
      walk_at "go"
      refine ⟨_, _, L', G4, rfl, st4.inner (M' := M1 s) (Stp.mut st4.gh hS4 gS4 rfl) (fun b e => .inr (by rw [e]; exact hsH)), upd_same, gS4, fun p hp2 => ?_, ?_⟩
      · rcases List.mem_cons.mp (hLp.mem_iff.mp hp2) with rfl | h
        · exact hb
        · exact hT4 p h
      · refine (hLp.map (·.2)).trans ?_
        rw [take_succ_get hz, List.map_append, List.map_append]
        exact ((hp.cons (kD (ris d)))).trans (List.perm_append_singleton _ _).symm
    · obtain ⟨y3, y4, L, G', rfl, st, hS, gS, hT, hp⟩ := pv
      walk_at "go"
      refine ⟨Nat.zero_le _, fun o no => ?_⟩
      exact q o (upd G' o (.lst [])) (upd H' o (.lst [])) (st.trans (Stp.new st.gh no)) (lof upd_same)
end
abbrev sRisingPairs : Stmt := topS 13
theorem scRisingPairs : FnScope ["pairs", "pair"] ["pairs"] (defScope sRisingPairs) := ⟨rfl, rfl, rfl, by decide +kernel, rfl, by decide +kernel, by decide +kernel⟩
abbrev sNeighbours : Stmt := topS 14
theorem scNeighbours : FnScope ["names", "pairs", "near", "one", "other", "name"] ["names", "pairs"] (defScope sNeighbours) := ⟨rfl, rfl, rfl, by decide +kernel, rfl, by decide +kernel, by decide +kernel⟩
section
variable {P : Program} {w : World} {K : PySem.W.Frag} {mg : Str → Option Value} {base : Heap}
def spRisingPairs (K : PySem.W.Frag) : Sp := fun vs H Q _ => ∃ (a : Addr) (xs : List V) (ds : List Dr) (G : Hp), vs = [.ref a] ∧ Same G H ∧ SqL K G a xs ∧ PrsQ K G xs ds ∧ ds.length < 64 ∧
  ∀ r ys es G' H', Stp M0 G H G' H' → SqT K G' r ys → PrsT K G' ys es → es.Perm (ds.map ris) → es.Pairwise leD → Q (.ref r) H'
abbrev DRisingPairs (P : Program) (w : World) (K : PySem.W.Frag) (mg : Str → Option Value) (base : Heap) : Prop := Df P w K mg base CX0 2 "rising_pairs" ["pairs"] (spRisingPairs K)
theorem ok_RisingPairs {f : Addr} {fd : FuncData} (F : Fun K "rising_pairs" "rising_pairs" sRisingPairs f fd) (M : Mgs mg) (D_rising_pair : DRisingPair P w K mg base) : FnOk P w K mg base CX0 2 f fd ["pairs"] (spRisingPairs K) := by
  refine F.ok scRisingPairs (fun vs H Q E h => ?_) (fun cdv A outer s H vs Q E hr h => ?_)
  · obtain ⟨a, xs, ds, G, rfl, _⟩ := h
    rfl
  · obtain ⟨a, xs, ds, G, rfl, g0, hs, hP, hl, q⟩ := h
    refine ⟨_, ((pss_one (ps_ret (pe_callTy (k_tuple (K := K) rfl) (by rfl) M.tuple_ (by decide +kernel) (pa_cons (pe_callB (k_sortPr (K := K) rfl) (by rfl) M.sorted (by decide +kernel) (pa_cons (pe_lc (own := [("pair", 1)]) rfl scRisingPairs.nd (k_pi_list (K := K) rfl (pv 0)) (blkOk_by (N := ["pairs", "pair"]) (sc := defScope sRisingPairs) (by decide +kernel)) (fun _ _ _ _ _ => (pg_name (i := 1) scRisingPairs.nd rfl (Or.inl rfl))) (fun _ _ _ _ _ => pts_nil) (fun _ _ _ _ _ => (pe_df D_rising_pair hr (by rfl) pass0 (pa_cons (pv 1) pa_nil)))) pa_nil)) pa_nil))))), ?_⟩
    walk_at "go0"
    refine lcL (M := M0) hs (by rw [hP.1]; omega) g0 (fun i acc G' H' => PrsT K G' acc ((ds.take i).map ris)) (fun L hL => .nil)
      (fun L i v acc G' H' Em Sk hi hL hL' gL hacc st pv hv hEm hSk => ?_) (fun L acc G' H' hL hacc st hL' gL pv => ?_)
    · have hi' : i < ds.length := by rw [← hP.1]; exact hi
      obtain ⟨t', et, hq⟩ := hP.2 i _ (List.getElem?_eq_getElem hi')
      cases et.symm.trans hv
      have hz := List.getElem?_eq_getElem hi'
      generalize ds[i] = d at hq hz
      walk_at "go"
      refine ⟨rfl, ?_⟩
      walk_at "go"
      refine ⟨t', d, G', rfl, st.gh, hq.same st.gg, fun r G3 H3 s3 hb => ?_⟩
      refine hEm _ G3 H3 (st.trans s3) (s3.up _ _ (fun z => z) hL') ((s3.fr _ _ hL').trans gL) ?_
      rw [take_succ_get hz, List.map_append]
      exact (pv.same s3.gg).snoc (d := ris d) hb
    · have e : (ds.take xs.length).map ris = ds.map ris := by rw [hP.1, List.take_length]
      rw [e] at pv
      walk_at "go"
      refine ⟨L, acc, ds.map ris, G', rfl, st.gh, lof hL', pv, by rw [List.length_map]; omega, fun ys es p hys hpm hpw np => ?_⟩
      have s2 : Stp M0 G H G' (upd H' p (.lst ys)) := st.trans (Stp.newM st.gh np)
      have hp2 : (upd H' p (.lst ys)) p = some (.lst ys) := upd_same
      generalize upd H' p (.lst ys) = H2 at s2 hp2 ⊢
      walk_at "go"
      refine c_tupleL (lof hp2) (fun l nl => ?_)
      walk_at "go"
      exact q l ys es (upd G' l (.tup ys)) (upd H2 l (.tup ys)) (s2.trans (Stp.new s2.gh nl)) (tof upd_same) (hys.same (same_new (none_of s2.gh nl))) hpm hpw
theorem nb_snoc (ds : List Dr) (d : Dr) (z : Str) : nb (ds ++ [d]) z = nb ds z ++ (if hasD z d = true then [oth z d] else []) := by
  unfold nb
  rw [List.filter_append, List.map_append]
  congr 1
  by_cases c : hasD z d = true
  · rw [if_pos c, List.filter_cons_of_pos c]; rfl
  · rw [if_neg c, List.filter_cons_of_neg c]; rfl
/-- the dict at N: by each room the rooms beside it, rising -/
def Near (K : PySem.W.Frag) (G : Hp) (N : Addr) (rs : List Str) (es : List Dr) : Prop := ∃ ms : List Addr, ms.length = rs.length ∧ G N = some (.dK (kvs rs (ms.map V.ref))) ∧
  ∀ (j : Nat) (z : Str) (m : Addr), rs[j]? = some z → ms[j]? = some m → ∃ ys : List Str, SqL K G m (ys.map V.str) ∧ ys.Perm (nb es z) ∧ sortedS ys = true
theorem Near.same {G H : Hp} {N : Addr} {rs : List Str} {es : List Dr} (h : Near K G N rs es) (g : Same G H) : Near K H N rs es := by
  obtain ⟨ms, h1, h2, h3⟩ := h
  exact ⟨ms, h1, g _ _ h2, fun j z m e1 e2 => by obtain ⟨ys, a, b⟩ := h3 j z m e1 e2; exact ⟨ys, g.seq a, b⟩⟩
theorem Near.get {G : Hp} {N : Addr} {rs : List Str} {es : List Dr} {z : Str} (h : Near K G N rs es) (hnd : rs.Nodup) (hz : z ∈ rs) : ∃ (m : Addr) (ys : List Str), DGet G N (.str z) (some (.ref m)) ∧ SqL K G m (ys.map V.str) ∧ ys.Perm (nb es z) ∧ sortedS ys = true := by
  obtain ⟨ms, h1, h2, h3⟩ := h
  obtain ⟨j, hj, e⟩ := List.getElem_of_mem hz
  have e1 : rs[j]? = some z := by rw [List.getElem?_eq_getElem hj, e]
  have e2 : ms[j]? = some ms[j] := List.getElem?_eq_getElem (by omega)
  obtain ⟨ys, a, b⟩ := h3 j z _ e1 e2
  exact ⟨ms[j], ys, dk h2 (kvs_get hnd e1 (by rw [List.getElem?_map, e2]; rfl)), a, b⟩
theorem nodup_ix {α : Type} {l : List α} (h : l.Nodup) {i j : Nat} {z : α} (e1 : l[i]? = some z) (e2 : l[j]? = some z) : i = j := by
  have h1 := (List.getElem?_eq_some_iff.mp e1)
  have h2 := (List.getElem?_eq_some_iff.mp e2)
  exact (List.getElem_inj (h₀ := h1.1) (h₁ := h2.1) h).mp (h1.2.trans h2.2.symm)
def spNeighbours (K : PySem.W.Frag) : Sp := fun vs H Q _ => ∃ (a b : Addr) (rs : List Str) (xs : List V) (es : List Dr) (G : Hp), vs = [.ref a, .ref b] ∧ Same G H ∧ SqT K G a (rs.map V.str) ∧ rs.Nodup ∧ rs.length < 64 ∧ SqT K G b xs ∧ PrsT K G xs es ∧
  (∀ d ∈ es, d.1 ∈ rs ∧ d.2 ∈ rs ∧ d.1 ≠ d.2) ∧ es.length < 64 ∧ ∀ N G' H', Stp M0 G H G' H' → Near K G' N rs es → Q (.ref N) H'
abbrev DNeighbours (P : Program) (w : World) (K : PySem.W.Frag) (mg : Str → Option Value) (base : Heap) : Prop := Df P w K mg base CX0 1 "neighbours" ["names", "pairs"] (spNeighbours K)
theorem ok_Neighbours {f : Addr} {fd : FuncData} (F : Fun K "neighbours" "neighbours" sNeighbours f fd) (M : Mgs mg) : FnOk P w K mg base CX0 1 f fd ["names", "pairs"] (spNeighbours K) := by
  refine F.ok scNeighbours (fun vs H Q E h => ?_) (fun cdv A outer s H vs Q E hr h => ?_)
  · obtain ⟨a, b, rs, xs, es, G, rfl, _⟩ := h
    rfl
  · obtain ⟨a, b, rs, xs, es, G, rfl, g0, ha, hnd, hrl, hb, hP, hin, hel, q⟩ := h
    have hu := hu_of hr
    refine ⟨_, ((pss_cons (ps_set (i := 2) scNeighbours.nd rfl (Or.inr rfl) (pe_dc (own := [("name", 5)]) rfl scNeighbours.nd (k_pi_tup (K := K) rfl (pv 0)) (blkOk_by (N := ["names", "pairs", "near", "one", "other", "name"]) (sc := defScope sNeighbours) (by decide +kernel)) (fun _ _ _ _ _ => (pg_name (i := 5) scNeighbours.nd rfl (Or.inl rfl))) (fun _ _ _ _ _ => pts_nil) (fun _ _ _ _ _ => (pv 5)) (fun _ _ _ _ _ => (pe_lst pa_nil))))
    (pss_cons (ps_for PassesOwn.never rfl (k_pi_tup (K := K) rfl (pv 1)) (k_pg_tup (K := K) rfl rfl (pgs_cons (pg_name (i := 3) scNeighbours.nd rfl (Or.inl rfl)) (pgs_cons (pg_name (i := 4) scNeighbours.nd rfl (Or.inl rfl)) pgs_nil)))
    (pss_cons (ps_expr (k_bm (K := K) rfl PySem.F.plainAttrs_list PySem.F.slot_list_append PySem.F.type_list_append mt_append (pe_dget hu (pv 2) (pv 3) (fun _ _ => rfl)) (pa_cons (pv 4) pa_nil)))
    (pss_one (ps_expr (k_bm (K := K) rfl PySem.F.plainAttrs_list PySem.F.slot_list_append PySem.F.type_list_append mt_append (pe_dget hu (pv 2) (pv 4) (fun _ _ => rfl)) (pa_cons (pv 3) pa_nil))))))
    (pss_one (ps_ret (pe_dc (own := [("name", 5)]) rfl scNeighbours.nd (k_pi_tup (K := K) rfl (pv 0)) (blkOk_by (N := ["names", "pairs", "near", "one", "other", "name"]) (sc := defScope sNeighbours) (by decide +kernel)) (fun _ _ _ _ _ => (pg_name (i := 5) scNeighbours.nd rfl (Or.inl rfl))) (fun _ _ _ _ _ => pts_nil) (fun _ _ _ _ _ => (pv 5)) (fun _ _ _ _ _ => (pe_callB (k_sortedS (K := K) rfl) (by rfl) M.sorted (by decide +kernel) (pa_cons (pe_dget hu (pv 2) (pv 5) (fun _ _ => rfl)) pa_nil))))))))), ?_⟩
    walk_at "go0"
    refine dcN (M := M0) (fun R h => by walk_at "go"; exact h) ha hnd hrl g0 (fun i vs G' H' => G = G' ∧ ∃ ls : List Addr, vs = ls.map V.ref ∧ ls.Nodup ∧ ∀ l ∈ ls, H' l = some (.lst []) ∧ H l = none) (fun D hD => ⟨rfl, [], rfl, List.nodup_nil, fun _ h => by cases h⟩)
      (fun D i z vs G' H' Em Sk hz hD hDk gD hv st pv hEm => ?_) (fun D vs G' H' hD hv st hDk gD pv => ?_)
    · obtain ⟨e, ls, rfl, hln, hl⟩ := pv
      subst e
      walk_at "go"
      refine ⟨rfl, ?_⟩
      walk_at "go"
      refine ⟨Nat.zero_le _, fun l nl => ?_⟩
      have nDl : D ≠ l := ne_of_none hDk nl
      refine hEm (.ref l) G _ (st.trans (Stp.newM st.gh nl)) (by rw [upd_ne nDl]; exact hDk) gD ⟨rfl, ls ++ [l], by rw [List.map_append]; rfl, ?_, fun y hy => ?_⟩
      · rw [List.nodup_append]
        exact ⟨hln, List.nodup_cons.mpr ⟨fun h => (by cases h), List.nodup_nil⟩, fun y hy y2 hy2 e => by
          rw [List.mem_singleton.mp hy2] at e
          rw [e] at hy
          rw [(hl l hy).1] at nl
          cases nl⟩
      · rcases List.mem_append.mp hy with hy | hy
        · have hy' := (hl y hy).1
          rw [upd_ne (ne_of hy' hDk (fun z => nomatch z)), upd_ne (ne_of_none hy' nl)]
          exact ⟨hy', (hl y hy).2⟩
        · rw [List.mem_singleton.mp hy, upd_ne nDl.symm, upd_same]
          exact ⟨rfl, st.free nl⟩
    · obtain ⟨e, ls, rfl, hln, hl⟩ := pv
      subst e
      rw [List.length_map] at hv
      have s1 : Stp M0 G H (upd G D (.dK (kvs rs (ls.map V.ref)))) H' := st.freeze hDk hD gD
      have hDk1 : (upd G D (.dK (kvs rs (ls.map V.ref)))) D = some (.dK (kvs rs (ls.map V.ref))) := upd_same
      have gl1 : ∀ l ∈ ls, (upd G D (.dK (kvs rs (ls.map V.ref)))) l = none := fun l hlm => by
        rw [upd_ne (ne_of (hl l hlm).1 hDk (fun z => nomatch z))]
        exact none_of g0 (hl l hlm).2
      generalize upd G D (.dK (kvs rs (ls.map V.ref))) = G1 at s1 hDk1 gl1
      walk_at "go"
      refine loopT (xs := xs) (Same.sqt (s1.gg.trans s1.gh) hb) (fun i σ H' => ∃ y3 y4, σ = [some (.ref a), some (.ref b), some (.ref D), y3, y4, none] ∧ Stp M0 G H G1 H' ∧ ∀ (j : Nat) (z : Str) (l : Addr), rs[j]? = some z → ls[j]? = some l → H' l = some (.lst ((nb (es.take i) z).map V.str)))
        ⟨none, none, rfl, s1, fun j z l _ e => (hl l (List.mem_of_getElem? e)).1⟩ (fun i σ H' _ pv => ?_) (fun i v σ H' hi hv2 pv => ?_) (fun σ H' pv => ?_)
      · obtain ⟨_, _, _, st, _⟩ := pv
        exact Same.sqt (st.gg.trans st.gh) hb
      · obtain ⟨y3, y4, rfl, st, hls⟩ := pv
        have hi' : i < es.length := by rw [← hP.1]; exact hi
        obtain ⟨t', et, hq⟩ := hP.2 i _ (List.getElem?_eq_getElem hi')
        cases et.symm.trans hv2
        have hz := List.getElem?_eq_getElem hi'
        have hm := hin _ (List.getElem_mem hi')
        generalize es[i] = d at hq hz hm
        obtain ⟨j1, hj1, e1⟩ := List.getElem_of_mem hm.1
        obtain ⟨j2, hj2, e2⟩ := List.getElem_of_mem hm.2.1
        have r1 : rs[j1]? = some d.1 := by rw [List.getElem?_eq_getElem hj1, e1]
        have r2 : rs[j2]? = some d.2 := by rw [List.getElem?_eq_getElem hj2, e2]
        have l1 : ls[j1]? = some ls[j1] := List.getElem?_eq_getElem (by omega)
        have l2 : ls[j2]? = some ls[j2] := List.getElem?_eq_getElem (by omega)
        have hne : j1 ≠ j2 := fun e => hm.2.2 (by rw [e, r2] at r1; exact (Option.some.inj r1).symm)
        have m1 := List.mem_of_getElem? l1
        have m2 := List.mem_of_getElem? l2
        generalize ls[j1] = p1 at l1 m1
        generalize ls[j2] = p2 at l2 m2
        have hp12 : p1 ≠ p2 := fun e => hne (nodup_ix hln l1 (by rw [e]; exact l2))
        have h1 := hls j1 d.1 p1 r1 l1
        have h2 := hls j2 d.2 p2 r2 l2
        have hnl : ∀ z, (nb (es.take i) z).length < 64 := fun z => by
          unfold nb
          rw [List.length_map]
          exact Nat.lt_of_le_of_lt (List.length_filter_le _ _) (by rw [List.length_take]; omega)
        refine r_gtup (Same.sqt (st.gg.trans st.gh) hq) rfl ?_
        walk_at "go"
        refine r_dget' (dk (st.gh _ _ hDk1) (kvs_get hnd r1 (by rw [List.getElem?_map, l1]; rfl))) ?_
        walk_at "go"
        refine c_append h1 (small5 (by rw [List.length_map]; have := hnl d.1; omega)) ?_
        have st1 : Stp M0 G H G1 (upd H' p1 (.lst ((nb (es.take i) d.1).map V.str ++ [.str d.2]))) := st.inner (M' := M1 p1) (Stp.mut st.gh h1 (gl1 p1 m1) rfl) (fun b e => .inr (by rw [e]; exact (hl p1 m1).2))
        have h2' : (upd H' p1 (.lst ((nb (es.take i) d.1).map V.str ++ [.str d.2]))) p2 = some (.lst ((nb (es.take i) d.2).map V.str)) := by rw [upd_ne hp12.symm]; exact h2
        have hH1 : ∀ l, l ≠ p1 → (upd H' p1 (.lst ((nb (es.take i) d.1).map V.str ++ [.str d.2]))) l = H' l := fun l e => upd_ne e
        have hH2 : (upd H' p1 (.lst ((nb (es.take i) d.1).map V.str ++ [.str d.2]))) p1 = some (.lst ((nb (es.take i) d.1).map V.str ++ [.str d.2])) := upd_same
        generalize upd H' p1 (.lst ((nb (es.take i) d.1).map V.str ++ [.str d.2])) = H1 at st1 h2' hH1 hH2 ⊢
        walk_at "go"
        refine r_dget' (dk (st1.gh _ _ hDk1) (kvs_get hnd r2 (by rw [List.getElem?_map, l2]; rfl))) ?_
        walk_at "go"
        refine c_append h2' (small5 (by rw [List.length_map]; have := hnl d.2; omega)) ?_
        walk_at "go"
        refine ⟨_, _, rfl, st1.inner (M' := M1 p2) (Stp.mut st1.gh h2' (gl1 p2 m2) rfl) (fun b e => .inr (by rw [e]; exact (hl p2 m2).2)), fun j z l ez el => ?_⟩
        rw [take_succ_get hz, nb_snoc, List.map_append]
        by_cases c2 : l = p2
        · subst c2
          have ej := nodup_ix hln el l2
          subst ej
          cases ez.symm.trans r2
          have hh : hasD d.2 d = true := by unfold hasD; simp
          rw [if_pos hh, upd_same]
          have ho : oth d.2 d = d.1 := by unfold oth; rw [if_neg hm.2.2]
          rw [ho]
          rfl
        · rw [upd_ne c2]
          by_cases c1 : l = p1
          · subst c1
            have ej := nodup_ix hln el l1
            subst ej
            cases ez.symm.trans r1
            have hh : hasD d.1 d = true := by unfold hasD; simp
            have ho : oth d.1 d = d.2 := by unfold oth; rw [if_pos rfl]
            rw [if_pos hh, hH2, ho]
            rfl
          · rw [hH1 l c1, hls j z l ez el]
            have n1 : d.1 ≠ z := fun e => c1 (by
              have ej := nodup_ix hnd (e ▸ r1) ez
              subst ej
              exact Option.some.inj (el.symm.trans l1))
            have n2 : d.2 ≠ z := fun e => c2 (by
              have ej := nodup_ix hnd (e ▸ r2) ez
              subst ej
              exact Option.some.inj (el.symm.trans l2))
            have hh : hasD z d = false := by unfold hasD; rw [decide_eq_false n1, decide_eq_false n2]; rfl
            rw [hh, if_neg Bool.false_ne_true, List.map_nil, List.append_nil]
      · obtain ⟨y3, y4, rfl, st2, hls⟩ := pv
        rw [List.take_of_length_le (by rw [hP.1]; exact Nat.le_refl _)] at hls
        walk_at "go"
        refine dcN (M := M0) (fun R h => by walk_at "go"; exact h) (Same.sqt st2.gg ha) hnd hrl st2.gh (fun i vs G' H' => ∃ ms : List Addr, vs = ms.map V.ref ∧ ∀ (j : Nat) (z : Str) (m : Addr), rs[j]? = some z → ms[j]? = some m → ∃ ys : List Str, SqL K G' m (ys.map V.str) ∧ ys.Perm (nb es z) ∧ sortedS ys = true) (fun D hD => ⟨[], rfl, fun j z m _ h => by simp at h⟩)
          (fun D2 i z vs G' H' Em Sk hz hD hDk gD hv st pv hEm => ?_) (fun D2 vs G' H' hD hv st hDk gD pv => ?_)
        · obtain ⟨ms, rfl, hms⟩ := pv
          rw [List.length_map] at hv
          have hi : i < rs.length := (List.getElem?_eq_some_iff.mp hz).1
          have l1 : ls[i]? = some ls[i] := List.getElem?_eq_getElem (by omega)
          generalize ls[i] = p1 at l1
          have h1 := st.up _ _ (fun z => z) (hls i z p1 hz l1)
          walk_at "go"
          refine ⟨rfl, ?_⟩
          walk_at "go"
          refine r_dget' (dk ((st.gg.trans st.gh) _ _ hDk1) (kvs_get hnd hz (by rw [List.getElem?_map, l1]; rfl))) ?_
          walk_at "go"
          refine c_sorted (lof h1) ?_ (fun ys m hp hsd nm => ?_)
          · unfold nb
            rw [List.length_map]
            exact Nat.lt_of_le_of_lt (List.length_filter_le _ _) (by omega)
          · have nDm : D2 ≠ m := ne_of_none hDk nm
            refine hEm (.ref m) (upd G' m (.lst (ys.map V.str))) _ (st.trans (Stp.new st.gh nm)) (by rw [upd_ne nDm]; exact hDk) (by rw [upd_ne nDm]; exact gD) ⟨ms ++ [m], by rw [List.map_append]; rfl, fun j z' m' ez em => ?_⟩
            rcases snoc_at em with ⟨em', hj⟩ | ⟨rfl, rfl⟩
            · obtain ⟨ys', a1, a2⟩ := hms j z' m' ez em'
              exact ⟨ys', (same_new (none_of st.gh nm)).seq a1, a2⟩
            · rw [hv] at ez
              cases ez.symm.trans hz
              exact ⟨ys, lof upd_same, hp, hsd⟩
        · obtain ⟨ms, rfl, hms⟩ := pv
          rw [List.length_map] at hv
          have s3 := st.freeze hDk hD gD
          exact q D2 _ H' (st2.trans s3) ⟨ms, hv, upd_same, fun j z m e1 e2 => by obtain ⟨ys, a1, a2⟩ := hms j z m e1 e2; exact ⟨ys, (same_new gD).seq a1, a2⟩⟩
end
abbrev sHouseRefuseThree : Stmt := inClass (topS 19) 2
theorem scHouseRefuseThree : FnScope ["self", "one", "other", "third"] ["self"] (defScope sHouseRefuseThree) := ⟨rfl, rfl, rfl, by decide +kernel, rfl, by decide +kernel, by decide +kernel⟩
abbrev sHouseInit : Stmt := inClass (topS 19) 0
theorem scHouseInit : FnScope ["self", "rooms", "doors", "wrong"] ["self", "rooms", "doors"] (defScope sHouseInit) := ⟨rfl, rfl, rfl, by decide +kernel, rfl, by decide +kernel, by decide +kernel⟩
abbrev sHouseHasRoom : Stmt := inClass (topS 19) 4
theorem scHouseHasRoom : FnScope ["self", "thing"] ["self", "thing"] (defScope sHouseHasRoom) := ⟨rfl, rfl, rfl, by decide +kernel, rfl, by decide +kernel, by decide +kernel⟩
abbrev sHouseNeedRoom : Stmt := inClass (topS 19) 5
theorem scHouseNeedRoom : FnScope ["self", "thing"] ["self", "thing"] (defScope sHouseNeedRoom) := ⟨rfl, rfl, rfl, by decide +kernel, rfl, by decide +kernel, by decide +kernel⟩
section
variable {P : Program} {w : World} {K : PySem.W.Frag} {mg : Str → Option Value} {base : Heap}
def spHouseRefuseThree (K : PySem.W.Frag) (C : Addr) : Sp := fun vs H Q _ => ∃ (a dx r d N : Addr) (rs : List Str) (xs : List V) (es : List Dr) (G : Hp), vs = [.ref a] ∧ Same G H ∧ H a = some (.ins C dx (hfs r d N)) ∧ SqT K G d xs ∧ PrsT K G xs es ∧ Near K G N rs es ∧
  rs.Nodup ∧ (∀ d ∈ es, d.1 ∈ rs ∧ d.2 ∈ rs ∧ d.1 ≠ d.2) ∧ NoTri es ∧ ∀ G' H', Stp M0 G H G' H' → Q .non H'
abbrev DHouseRefuseThree (P : Program) (w : World) (K : PySem.W.Frag) (mg : Str → Option Value) (base : Heap) (c_House : Addr) : Prop := Dm P w K mg base CX0 2 c_House "_refuse_three" ["self"] (spHouseRefuseThree K c_House)
theorem ok_HouseRefuseThree {f : Addr} {fd : FuncData} (F : Fun K "_refuse_three" "House._refuse_three" sHouseRefuseThree f fd) (M : Mgs mg) {c_House : Addr} (Z_House : HouseC K mg c_House) : FnOk P w K mg base CX0 2 f fd ["self"] (spHouseRefuseThree K c_House) := by
  refine F.ok scHouseRefuseThree (fun vs H Q E h => ?_) (fun cdv A outer s H vs Q E hr h => ?_)
  · obtain ⟨a, dx, r, d, N, rs, xs, es, G, rfl, _⟩ := h
    rfl
  · obtain ⟨a, dx, r, d, N, rs, xs, es, G, rfl, g0, ha, hd, hP, hN, hnd, hin, htri, q⟩ := h
    have hu := hu_of hr
    have hll : Loopless es := fun d hd => (hin d hd).2.2
    refine ⟨_, ((pss_one (ps_for PassesOwn.never rfl (k_pi_tup (K := K) rfl (k_fld (K := K) rfl (pv 0))) (k_pg_tup (K := K) rfl rfl (pgs_cons (pg_name (i := 1) scHouseRefuseThree.nd rfl (Or.inl rfl)) (pgs_cons (pg_name (i := 2) scHouseRefuseThree.nd rfl (Or.inl rfl)) pgs_nil)))
    (pss_one (ps_for PassesOwn.never rfl (k_pi_list (K := K) rfl (pe_dget hu (k_fld (K := K) rfl (pv 0)) (pv 2) (fun _ _ => rfl))) (pg_name (i := 3) scHouseRefuseThree.nd rfl (Or.inl rfl))
    (pss_one (ps_if (PW.pt (pw_and (pt_cmpR op_gt_str (pv 3) (pv 2) (nomark _)) (pw_and1 (pt_cmpR (k_op_in (K := K) rfl) (pv 3) (pe_dget hu (k_fld (K := K) rfl (pv 0)) (pv 1) (fun _ _ => rfl)) (by rfl)))))
    (pss_one ps_never)
    pss_nil))))))), ?_⟩
    walk_at "go0"
    refine hf_d Z_House ha ?_
    refine loopT (xs := xs) (Same.sqt g0 hd) (fun i σ H' => ∃ y1 y2 y3, σ = [some (.ref a), y1, y2, y3] ∧ H' = H) ⟨none, none, none, rfl, rfl⟩ (fun i σ H' _ pv => ?_) (fun i v σ H' hi hv pv => ?_) (fun σ H' pv => ?_)
    · obtain ⟨_, _, _, _, e⟩ := pv
      rw [e]
      exact Same.sqt g0 hd
    · obtain ⟨y1, y2, y3, rfl, rfl⟩ := pv
      have hi' : i < es.length := by rw [← hP.1]; exact hi
      obtain ⟨t', et, hq⟩ := hP.2 i _ (List.getElem?_eq_getElem hi')
      cases et.symm.trans hv
      have hmem := List.getElem_mem hi'
      generalize es[i] = e at hq hmem
      have hm := hin _ hmem
      refine r_gtup (Same.sqt g0 hq) rfl ?_
      walk_at "go"
      refine hf_n Z_House ha ?_
      walk_at "go"
      obtain ⟨m2, ys2, hg2, hs2, hp2, _⟩ := (hN.same g0).get hnd hm.2.1
      obtain ⟨m1, ys1, hg1, hs1, hp1, _⟩ := (hN.same g0).get hnd hm.1
      refine r_dget' hg2 ?_
      walk_at "go"
      refine loopL (xs := ys2.map V.str) hs2 (fun i σ H'' => ∃ y3, σ = [some (.ref a), some (.str e.1), some (.str e.2), y3] ∧ H'' = H') ⟨_, rfl, rfl⟩ (fun i σ H'' _ pv => ?_) (fun j v σ H'' hj hv pv => ?_) (fun σ H'' pv => ?_)
      · obtain ⟨_, _, e⟩ := pv
        rw [e]
        exact hs2
      · obtain ⟨y3, rfl, rfl⟩ := pv
        obtain ⟨z, hz, rfl⟩ := map_get hv
        have hz2 : z ∈ nb es e.2 := hp2.mem_iff.mp (List.mem_of_getElem? hz)
        have hz1 : z ∉ ys1 := fun h => htri e.1 e.2 z ((mem_nb hll).mpr (.inl hmem)) hz2 (hp1.mem_iff.mp h)
        walk_at "go"
        refine ⟨z, e.2, rfl, rfl, ?_⟩
        walk_at "go"
        refine ifD (fun c => ?_) (fun c => ?_)
        · walk_at "go"
          refine hf_n Z_House ha ?_
          walk_at "go"
          refine r_dget' hg1 ?_
          walk_at "go"
          refine r_inL hs1 ?_
          walk_at "go"
          rw [decide_eq_false hz1]
          walk_at "go"
          exact ⟨_, rfl, rfl⟩
        · walk_at "go"
          exact ⟨_, rfl, rfl⟩
      · obtain ⟨y3, rfl, rfl⟩ := pv
        walk_at "go"
        exact ⟨_, _, _, rfl, rfl⟩
    · obtain ⟨y1, y2, y3, rfl, rfl⟩ := pv
      walk_at "go"
      exact q G H' (Stp.refl g0)
/-- the house at a: its fields lie in H, what they name in G -/
def HouseIn (K : PySem.W.Frag) (C : Addr) (G H : Hp) (a : Addr) (rs : List Str) (es : List Dr) : Prop := ∃ (dx r d N : Addr) (xs : List V), H a = some (.ins C dx (hfs r d N)) ∧ SqT K G r (rs.map V.str) ∧ SqT K G d xs ∧ PrsT K G xs es ∧ Near K G N rs es
theorem HouseIn.same {C : Addr} {G G' H H' : Hp} {a : Addr} {rs : List Str} {es : List Dr} (h : HouseIn K C G H a rs es) (g : Same G G') (e : ∀ o, H a = some o → H' a = some o) : HouseIn K C G' H' a rs es := by
  obtain ⟨dx, r, d, N, xs, h1, h2, h3, h4, h5⟩ := h
  exact ⟨dx, r, d, N, xs, e _ h1, Same.sqt g h2, Same.sqt g h3, h4.same g, h5.same g⟩
def spHouseHasRoom (K : PySem.W.Frag) (C : Addr) : Sp := fun vs H Q _ => ∃ (a : Addr) (z : Str) (rs : List Str) (es : List Dr) (G : Hp), vs = [.ref a, .str z] ∧ Same G H ∧ HouseIn K C G G a rs es ∧ ∀ G' H', Stp M0 G H G' H' → Q (.bl (decide (z ∈ rs))) H'
abbrev DHouseHasRoom (P : Program) (w : World) (K : PySem.W.Frag) (mg : Str → Option Value) (base : Heap) (c_House : Addr) : Prop := Dm P w K mg base CX0 1 c_House "has_room" ["self", "thing"] (spHouseHasRoom K c_House)
theorem ok_HouseHasRoom {f : Addr} {fd : FuncData} (F : Fun K "has_room" "House.has_room" sHouseHasRoom f fd) (M : Mgs mg) {c_House : Addr} (Z_House : HouseC K mg c_House) : FnOk P w K mg base CX0 1 f fd ["self", "thing"] (spHouseHasRoom K c_House) := by
  refine F.ok scHouseHasRoom (fun vs H Q E h => ?_) (fun cdv A outer s H vs Q E hr h => ?_)
  · obtain ⟨a, z, rs, es, G, rfl, _⟩ := h
    rfl
  · obtain ⟨a, z, rs, es, G, rfl, g0, ⟨dx, r, d, N, xs, ha, hr1, _⟩, q⟩ := h
    refine ⟨_, ((pss_one (ps_ret (pe_cmpR (k_op_in (K := K) rfl) (pv 1) (k_fld (K := K) rfl (pv 0)) (by rfl))))), ?_⟩
    walk_at "go0"
    refine hf_r Z_House (g0 _ _ ha) ?_
    walk_at "go"
    refine r_inT (Same.sqt g0 hr1) ?_
    exact q G H (Stp.refl g0)
def spHouseNeedRoom (K : PySem.W.Frag) (C : Addr) : Sp := fun vs H Q _ => ∃ (a : Addr) (z : Str) (rs : List Str) (es : List Dr) (G : Hp), vs = [.ref a, .str z] ∧ Same G H ∧ HouseIn K C G G a rs es ∧ z ∈ rs ∧ ∀ G' H', Stp M0 G H G' H' → Q .non H'
abbrev DHouseNeedRoom (P : Program) (w : World) (K : PySem.W.Frag) (mg : Str → Option Value) (base : Heap) (c_House : Addr) : Prop := Dm P w K mg base CX0 2 c_House "need_room" ["self", "thing"] (spHouseNeedRoom K c_House)
theorem ok_HouseNeedRoom {f : Addr} {fd : FuncData} (F : Fun K "need_room" "House.need_room" sHouseNeedRoom f fd) (M : Mgs mg) {c_House : Addr} (Z_House : HouseC K mg c_House) (D_House_has_room : DHouseHasRoom P w K mg base c_House) : FnOk P w K mg base CX0 2 f fd ["self", "thing"] (spHouseNeedRoom K c_House) := by
  refine F.ok scHouseNeedRoom (fun vs H Q E h => ?_) (fun cdv A outer s H vs Q E hr h => ?_)
  · obtain ⟨a, z, rs, es, G, rfl, _⟩ := h
    rfl
  · obtain ⟨a, z, rs, es, G, rfl, g0, hh, hz, q⟩ := h
    obtain ⟨dx, r, d, N, xs, ha, _⟩ := id hh
    refine ⟨_, ((pss_one (ps_if (pt_not (pt_val (pe_dm D_House_has_room Z_House.cl hr pass0 (pv 0) (pa_cons (pv 1) pa_nil))))
    (pss_one ps_never)
    pss_nil))), ?_⟩
    walk_at "go0"
    refine ⟨a, dx, _, rfl, g0 _ _ ha, by rfl, ?_⟩
    walk_at "go"
    refine ⟨a, z, rs, es, G, rfl, g0, hh, fun G1 H1 s1 => ?_⟩
    rw [decide_eq_true hz]
    walk_at "go"
    exact q G1 H1 s1
def spHouseInit (K : PySem.W.Frag) (C : Addr) : Sp := fun vs H Q _ => ∃ (x a d dx : Addr) (rs0 : List Str) (xs0 : List V) (ds0 : List Dr) (G : Hp), vs = [.ref x, .ref a, .ref d] ∧ Same G H ∧ H x = some (.ins C dx []) ∧ G x = none ∧ SqQ K G a (rs0.map V.str) ∧ (∀ z ∈ rs0, NmOk z) ∧ rs0.Nodup ∧ 1 ≤ rs0.length ∧ rs0.length < 64 ∧
  SqL K G d xs0 ∧ PrsQ K G xs0 ds0 ∧ (∀ e ∈ ds0, e.1 ∈ rs0 ∧ e.2 ∈ rs0 ∧ e.1 ≠ e.2) ∧ (ds0.map ris).Nodup ∧ NoTri ds0 ∧ ds0.length < 64 ∧
  ∀ rs es G' H', Stp (M1 x) G H G' H' → G' x = none → rs.Perm rs0 → sortedS rs = true → es.Perm (ds0.map ris) → es.Pairwise leD → HouseIn K C G' H' x rs es → Q .non H'
abbrev DHouseInit (P : Program) (w : World) (K : PySem.W.Frag) (mg : Str → Option Value) (base : Heap) (c_House : Addr) : Prop := Dk P w K mg base CX0 3 "House" c_House ["self", "rooms", "doors"] (spHouseInit K c_House)
theorem ok_HouseInit {f : Addr} {fd : FuncData} (F : Fun K "__init__" "House.__init__" sHouseInit f fd) (M : Mgs mg) {c_House : Addr} (Z_House : HouseC K mg c_House) (D_wrong_names : DWrongNames P w K mg base) (D_wrong_pairs : DWrongPairs P w K mg base) (D_rising_pairs : DRisingPairs P w K mg base) (D_neighbours : DNeighbours P w K mg base) (D_House_refuse_three : DHouseRefuseThree P w K mg base c_House) : FnOk P w K mg base CX0 3 f fd ["self", "rooms", "doors"] (spHouseInit K c_House) := by
  refine F.ok scHouseInit (fun vs H Q E h => ?_) (fun cdv A outer s H vs Q E hr h => ?_)
  · obtain ⟨x, a, d, dx, rs0, xs0, ds0, G, rfl, _⟩ := h
    rfl
  · obtain ⟨x, a, d, dx, rs0, xs0, ds0, G, rfl, g0, hx, gx, ha, hn, hnd, h1, h64, hd, hP, hin, hdn, htri, hdl, q⟩ := h
    have hll : Loopless ds0 := fun e he => (hin e he).2.2
    refine ⟨_, ((pss_cons (ps_set (i := 3) scHouseInit.nd rfl (Or.inl rfl) (pe_df D_wrong_names hr (by rfl) pass0 (pa_cons (pv 1) pa_nil)))
    (pss_cons (ps_if (k_truth (K := K) rfl (pv 3) (by intro _; rfl))
    (pss_one ps_never)
    pss_nil)
    (pss_cons (ps_set (i := 3) scHouseInit.nd rfl (Or.inl rfl) (pe_df D_wrong_pairs hr (by rfl) pass0 (pa_cons (pv 2) (pa_cons (pv 1) pa_nil))))
    (pss_cons (ps_if (k_truth (K := K) rfl (pv 3) (by intro _; rfl))
    (pss_one ps_never)
    pss_nil)
    (pss_cons (k_ps_fld (K := K) rfl (pv 0) (pe_callTy (k_tuple (K := K) rfl) (by rfl) M.tuple_ (by decide +kernel) (pa_cons (pe_callB (k_sortedQ (K := K) rfl) (by rfl) M.sorted (by decide +kernel) (pa_cons (pv 1) pa_nil)) pa_nil)))
    (pss_cons (k_ps_fld (K := K) rfl (pv 0) (pe_df D_rising_pairs hr (by rfl) pass0 (pa_cons (pv 2) pa_nil)))
    (pss_cons (k_ps_fld (K := K) rfl (pv 0) (pe_df D_neighbours hr (by rfl) pass0 (pa_cons (k_fld (K := K) rfl (pv 0)) (pa_cons (k_fld (K := K) rfl (pv 0)) pa_nil))))
    (pss_one (ps_expr (pe_dm0 D_House_refuse_three Z_House.cl hr pass0 (pv 0)))))))))))), ?_⟩
    walk_at "go0"
    refine ⟨a, rs0, G, rfl, g0, ha, hn, hnd, h1, h64, fun e1 G1 H1 s1 he1 => ?_⟩
    walk_at "go"
    refine ⟨false, .inl ⟨[], s1.gh.seq he1, rfl⟩, ?_⟩
    walk_at "go"
    refine ⟨d, a, xs0, ds0, rs0, G1, rfl, s1.gh, s1.gg.seq hd, hP.same s1.gg, ha.same s1.gg, hin, hdn, hdl, fun e2 G2 H2 s2 he2 => ?_⟩
    walk_at "go"
    refine ⟨false, .inl ⟨[], s2.gh.seq he2, rfl⟩, ?_⟩
    walk_at "go"
    have sA := s1.trans s2
    have hx2 := sA.up _ _ (fun z => z) hx
    have gx2 : G2 x = none := (sA.fr _ _ hx).trans gx
    refine ⟨a, rs0, rfl, (ha.same sA.gg).same sA.gh, h64, fun rs p hrp hrs np => ?_⟩
    have sB : Stp M0 G2 H2 G2 (upd H2 p (.lst (rs.map V.str))) := Stp.newM sA.gh np
    have hp3 : (upd H2 p (.lst (rs.map V.str))) p = some (.lst (rs.map V.str)) := upd_same
    generalize upd H2 p (.lst (rs.map V.str)) = H3 at sB hp3 ⊢
    walk_at "go"
    refine c_tupleL (lof hp3) (fun r nr => ?_)
    have sC : Stp M0 G2 H3 (upd G2 r (.tup (rs.map V.str))) (upd H3 r (.tup (rs.map V.str))) := Stp.new sB.gh nr
    have hr4 : SqT K (upd G2 r (.tup (rs.map V.str))) r (rs.map V.str) := tof upd_same
    generalize upd G2 r (.tup (rs.map V.str)) = G4 at sC hr4
    generalize upd H3 r (.tup (rs.map V.str)) = H4 at sC ⊢
    have sD := (sA.trans sB).trans sC
    have hx4 := sD.up _ _ (fun z => z) hx
    have gx4 : G4 x = none := (sD.fr _ _ hx).trans gx
    walk_at "go"
    refine ⟨x, c_House, dx, [], rfl, hx4, Z_House.cl, Z_House.n1, by decide, ?_⟩
    have sE : Stp (M1 x) G H G4 (upd H4 x (.ins c_House dx (putF "_rooms" (.ref r) []))) := sD.weak.trans (Stp.mut sD.gh hx4 gx4 rfl)
    have hx5 : (upd H4 x (.ins c_House dx (putF "_rooms" (.ref r) []))) x = some (.ins c_House dx [("_rooms", .ref r)]) := upd_same
    generalize upd H4 x (.ins c_House dx (putF "_rooms" (.ref r) [])) = H5 at sE hx5 ⊢
    clear sA sB sC sD s1 s2 hx2 gx2 hp3 np he1 he2
    walk_at "go"
    refine ⟨d, xs0, ds0, G4, rfl, sE.gh, sE.gg.seq hd, hP.same sE.gg, hdl, fun r2 ys es G6 H6 s6 hys hpr hep hepw => ?_⟩
    have hx6 := s6.up _ _ (fun z => z) hx5
    have gx6 : G6 x = none := (s6.fr _ _ hx5).trans gx4
    walk_at "go"
    refine ⟨x, c_House, dx, _, rfl, hx6, Z_House.cl, Z_House.n2, by show 1 < 1000; decide, ?_⟩
    have sF : Stp (M1 x) G H G6 (upd H6 x (.ins c_House dx (putF "_doors" (.ref r2) [("_rooms", .ref r)]))) := (sE.trans s6.weak).trans (Stp.mut s6.gh hx6 gx6 rfl)
    have hx7 : (upd H6 x (.ins c_House dx (putF "_doors" (.ref r2) [("_rooms", .ref r)]))) x = some (.ins c_House dx [("_rooms", .ref r), ("_doors", .ref r2)]) := upd_same
    generalize upd H6 x (.ins c_House dx (putF "_doors" (.ref r2) [("_rooms", .ref r)])) = H7 at sF hx7 ⊢
    have hr6 := Same.sqt s6.gg hr4
    walk_at "go"
    refine r_fld' hx7 Z_House.cl Z_House.n1 (by rfl) ?_
    walk_at "go"
    refine r_fld' hx7 Z_House.cl Z_House.n2 (by rfl) ?_
    walk_at "go"
    have hnd1 : rs.Nodup := hrp.nodup_iff.mpr hnd
    have hin1 : ∀ e ∈ es, e.1 ∈ rs ∧ e.2 ∈ rs ∧ e.1 ≠ e.2 := fun e he => by
      have he' := hep.mem_iff.mp he
      have h2 := loopless_ris hll e he'
      obtain ⟨e0, h0, rfl⟩ := List.mem_map.mp he'
      have h3 := hin e0 h0
      rcases ris_or h3.2.2 with c | c
      · rw [c]; exact ⟨hrp.mem_iff.mpr h3.1, hrp.mem_iff.mpr h3.2.1, h3.2.2⟩
      · rw [c]; exact ⟨hrp.mem_iff.mpr h3.2.1, hrp.mem_iff.mpr h3.1, h3.2.2.symm⟩
    have hel : es.length < 64 := by rw [hep.length_eq, List.length_map]; exact hdl
    refine ⟨r, r2, rs, ys, es, G6, rfl, sF.gh, hr6, hnd1, by rw [hrp.length_eq]; exact h64, hys, hpr, hin1, hel, fun N G8 H8 s8 hN => ?_⟩
    have hx8 := s8.up _ _ (fun z => z) hx7
    have gx8 : G8 x = none := (s8.fr _ _ hx7).trans gx6
    walk_at "go"
    refine ⟨x, c_House, dx, _, rfl, hx8, Z_House.cl, Z_House.n3, by show 2 < 1000; decide, ?_⟩
    have sG : Stp (M1 x) G H G8 (upd H8 x (.ins c_House dx (putF "_near" (.ref N) [("_rooms", .ref r), ("_doors", .ref r2)]))) := (sF.trans s8.weak).trans (Stp.mut s8.gh hx8 gx8 rfl)
    have hx9 : (upd H8 x (.ins c_House dx (putF "_near" (.ref N) [("_rooms", .ref r), ("_doors", .ref r2)]))) x = some (.ins c_House dx (hfs r r2 N)) := upd_same
    generalize upd H8 x (.ins c_House dx (putF "_near" (.ref N) [("_rooms", .ref r), ("_doors", .ref r2)])) = H9 at sG hx9 ⊢
    walk_at "go"
    refine ⟨x, dx, _, rfl, hx9, by rfl, ?_⟩
    have htri1 : NoTri es := htri.of fun y z h => by
      have hl1 : Loopless es := fun e he => (hin1 e he).2.2
      refine (nb_ris hll).mp ?_
      exact (nb_perm hep y).mem_iff.mp h
    walk_at "go"
    refine ⟨x, dx, r, r2, N, rs, ys, es, G8, rfl, sG.gh, hx9, Same.sqt s8.gg hys, hpr.same s8.gg, hN, hnd1, hin1, htri1, fun GA HA sA => ?_⟩
    walk_at "go"
    exact q rs es GA HA (sG.trans sA.weak) ((sA.fr _ _ hx9).trans gx8) hrp hrs hep hepw ⟨dx, r, r2, N, ys, sA.up _ _ (fun z => z) hx9, Same.sqt (s8.gg.trans sA.gg) hr6, Same.sqt (s8.gg.trans sA.gg) hys, hpr.same (s8.gg.trans sA.gg), hN.same sA.gg⟩
end
abbrev sShuffled : Stmt := topS 24
theorem scShuffled : FnScope ["_law_pen_here", "_law_some", "_law_left", "_law_found"] ["_law_pen_here", "_law_some"] (defScope sShuffled) := ⟨rfl, rfl, rfl, by decide +kernel, rfl, by decide +kernel, by decide +kernel⟩
section
variable {P : Program} {w : World} {K : PySem.W.Frag} {mg : Str → Option Value} {base : Heap}
def spShuffled (K : PySem.W.Frag) : Sp := fun vs H Q _ => ∃ (p a : Addr) (xs : List V) (n : Nat) (G : Hp), vs = [.ref p, .ref a] ∧ Same G H ∧ Pen K G p n H ∧ n + 100 < 2 ^ 40 ∧ SqL K G a xs ∧ (∀ v ∈ xs, ItOk K G v) ∧ xs.length < 64 ∧
  ∀ r ys G' H', Stp (M1 p) G H G' H' → Pen K G' p (n + xs.length) H' → SqL K G' r ys → ys.Perm xs → Q (.ref r) H'
abbrev DShuffled (P : Program) (w : World) (K : PySem.W.Frag) (mg : Str → Option Value) (base : Heap) : Prop := Df P w K mg base CX0 2 "_law_shuffled" ["_law_pen_here", "_law_some"] (spShuffled K)
theorem ok_Shuffled {f : Addr} {fd : FuncData} (F : Fun K "_law_shuffled" "_law_shuffled" sShuffled f fd) (M : Mgs mg) (D_draw : DDraw P w K mg base) : FnOk P w K mg base CX0 2 f fd ["_law_pen_here", "_law_some"] (spShuffled K) := by
  refine F.ok scShuffled (fun vs H Q E h => ?_) (fun cdv A outer s H vs Q E hr h => ?_)
  · obtain ⟨p, a, xs, n, G, rfl, _⟩ := h
    rfl
  · obtain ⟨p, a, xs, n, G, rfl, g0, hp, hn, ha, hit, hl, q⟩ := h
    have hu64 := hu64_of hr
    refine ⟨_, ((pss_cons (ps_par (i := 2) (j := 3) (by rfl) scShuffled.nd rfl rfl (by decide) rfl rfl (pa_cons (pe_callTy (k_list (K := K) rfl) (by rfl) M.list_ (by decide +kernel) (pa_cons (pv 1) pa_nil)) (pa_cons (pe_lst pa_nil) pa_nil)) (by rfl))
    (pss_cons (ps_while PassesOwn.never (pt_cmpR (k_op_neD (K := K) rfl hu64) (pv 2) (pe_lst pa_nil) (nomark _))
    (pss_one (ps_expr (k_bm (K := K) rfl PySem.F.plainAttrs_list PySem.F.slot_list_append PySem.F.type_list_append mt_append (pv 3) (pa_cons (k_bm (K := K) rfl PySem.F.plainAttrs_list PySem.F.slot_list_pop PySem.F.type_list_pop mt_popAt (pv 2) (pa_cons (pe_df D_draw hr (by rfl) pass0 (pa_cons (pv 0) (pa_cons (pe_callB (k_len (K := K) rfl) (by rfl) M.len PySem.boot_len (pa_cons (pv 2) pa_nil)) pa_nil))) pa_nil)) pa_nil)))))
    (pss_one (ps_ret (pv 3)))))), ?_⟩
    walk_at "go0"
    refine c_list (.inl (g0.seq ha)) (fun L nL => ?_)
    have s1 : Stp (M1 p) G H G (upd H L (.lst xs)) := Stp.newM g0 nL
    have hL1 : (upd H L (.lst xs)) L = some (.lst xs) := upd_same
    have hp1 := hp.upd (x := .lst xs) (hp.new nL)
    have gL : G L = none := none_of g0 nL
    generalize upd H L (.lst xs) = H1 at s1 hL1 hp1 ⊢
    walk_at "go"
    refine ⟨Nat.zero_le _, fun F nF => ?_⟩
    have s2 : Stp (M1 p) G H G (upd H1 F (.lst [])) := s1.trans (Stp.newM s1.gh nF)
    have hF2 : (upd H1 F (.lst [])) F = some (.lst []) := upd_same
    have hL2 : (upd H1 F (.lst [])) L = some (.lst xs) := by rw [upd_ne (ne_of_none hL1 nF)]; exact hL1
    have hp2 := hp1.upd (x := .lst []) (hp1.new nF)
    have gF : G F = none := none_of s1.gh nF
    have hFH : H F = none := s1.free nF
    have nLF : L ≠ F := ne_of_none hL1 nF
    generalize upd H1 F (.lst []) = H2 at s2 hF2 hL2 hp2 ⊢
    walk_at "go"
    refine while_k (fun m σ H' => ∃ (ls fs : List V), σ = [some (.ref p), some (.ref a), some (.ref L), some (.ref F)] ∧ Stp (M1 p) G H G H' ∧ H' L = some (.lst ls) ∧ H' F = some (.lst fs) ∧ (fs ++ ls).Perm xs ∧ ls.length = m ∧ Pen K G p (n + fs.length) H')
      xs.length ⟨xs, [], rfl, s2, hL2, hF2, List.Perm.refl _, rfl, hp2⟩ (fun m σ H' pv Ct k1 k2 => ?_)
    obtain ⟨ls, fs, rfl, st, hLz, hFz, hpm, hm, hpz⟩ := pv
    walk_at "go"
    refine ⟨Nat.zero_le _, fun o no => ?_⟩
    have hLo : (upd H' o (.lst [])) L = some (.lst ls) := by rw [upd_ne (ne_of_none hLz no)]; exact hLz
    have hFo : (upd H' o (.lst [])) F = some (.lst fs) := by rw [upd_ne (ne_of_none hFz no)]; exact hFz
    have st3 : Stp (M1 p) G H G (upd H' o (.lst [])) := st.trans (Stp.newM st.gh no)
    have hpo := hpz.upd (x := .lst []) (hpz.new no)
    have hoo : (upd H' o (.lst [])) o = some (.lst []) := upd_same
    generalize upd H' o (.lst []) = H3 at st3 hLo hFo hpo hoo ⊢
    have hlen := hpm.length_eq
    rw [List.length_append] at hlen
    refine r_neNil (lof hLo) (fun v hv => (hit v (hpm.mem_iff.mp (List.mem_append_right _ hv))).same st3.gh) (lof hoo) ?_
    walk_at "go"
    cases ls with
    | nil =>
      refine k2 H3 ?_
      walk_at "go"
      rw [List.append_nil] at hpm
      rw [List.length_nil, Nat.add_zero] at hlen
      exact q F fs (upd G F (.lst fs)) H3 (st3.freeze hFo hFH gF) (by
        have e : n + xs.length = n + fs.length := by rw [← hlen]
        rw [e]
        exact hpo.know (same_new gF) (by rw [upd_ne (hpo.ne hFo).symm]; exact hpo.1)) (lof upd_same) hpm
    | cons l0 lr =>
      refine k1 H3 ?_
      walk_at "go"
      refine use_draw (m := (l0 :: lr).length) st3.gh hpo (by omega) rfl (by rw [List.length_cons]; omega) (by omega) (fun d H4 hd s4 hp4 => ?_)
      have st4 := st3.trans s4
      have hL4 := s4.up _ _ (hpo.ne hLo) hLo
      have hF4 := s4.up _ _ (hpo.ne hFo) hFo
      walk_at "go"
      have hy := List.getElem?_eq_getElem hd
      refine c_popAt hL4 rfl hy (by omega) ?_
      have st5 : Stp (M1 p) G H G (upd H4 L (.lst ((l0 :: lr).eraseIdx d))) := st4.inner (M' := M1 L) (Stp.mut st4.gh hL4 gL rfl) (fun b e => .inr (by rw [e]; exact nL))
      have hL5 : (upd H4 L (.lst ((l0 :: lr).eraseIdx d))) L = some (.lst ((l0 :: lr).eraseIdx d)) := upd_same
      have hF5 : (upd H4 L (.lst ((l0 :: lr).eraseIdx d))) F = some (.lst fs) := by rw [upd_ne nLF.symm]; exact hF4
      have hp5 := hp4.upd (x := .lst ((l0 :: lr).eraseIdx d)) (hp4.ne hL4)
      have hpe := erase_perm hy
      generalize (l0 :: lr)[d] = y at hpe ⊢
      generalize upd H4 L (.lst ((l0 :: lr).eraseIdx d)) = H5 at st5 hL5 hF5 hp5 ⊢
      walk_at "go"
      refine c_append hF5 (small5 (by omega)) ?_
      walk_at "go"
      have he := hpe.length_eq
      rw [List.length_cons] at he
      refine ⟨_, ?_, (l0 :: lr).eraseIdx d, fs ++ [y], rfl, st5.inner (M' := M1 F) (Stp.mut st5.gh hF5 gF rfl) (fun b e => .inr (by rw [e]; exact hFH)), by rw [upd_ne nLF]; exact hL5, upd_same, ?_, rfl, ?_⟩
      · omega
      · rw [List.append_assoc]
        exact ((List.Perm.append_left fs (show ([y] ++ (l0 :: lr).eraseIdx d).Perm (l0 :: lr) from hpe))).trans hpm
      · have e : n + fs.length + 1 = n + (fs ++ [y]).length := by rw [List.length_append]; rfl
        rw [← e]
        exact hp5.upd (hp5.ne hF5)
end
abbrev sHanded : Stmt := topS 31
theorem scHanded : FnScope ["_law_pen_here", "_law_some", "_law_found"] ["_law_pen_here", "_law_some"] (defScope sHanded) := ⟨rfl, rfl, rfl, by decide +kernel, rfl, by decide +kernel, by decide +kernel⟩
abbrev sEither : Stmt := topS 32
theorem scEither : FnScope ["_law_pen_here", "_law_pairs", "_law_found", "_law_pair", "_law_turned_pair"] ["_law_pen_here", "_law_pairs"] (defScope sEither) := ⟨rfl, rfl, rfl, by decide +kernel, rfl, by decide +kernel, by decide +kernel⟩
section
variable {P : Program} {w : World} {K : PySem.W.Frag} {mg : Str → Option Value} {base : Heap}
def spHanded (K : PySem.W.Frag) : Sp := fun vs H Q _ => ∃ (p a : Addr) (rs : List Str) (n : Nat) (G : Hp), vs = [.ref p, .ref a] ∧ Same G H ∧ Pen K G p n H ∧ n + 200 < 2 ^ 40 ∧ SqL K G a (rs.map V.str) ∧ (∀ z ∈ rs, NmOk z) ∧ rs.length < 64 ∧
  ∀ r (rs' : List Str) G' H', Stp (M1 p) G H G' H' → Pen K G' p (n + 100) H' → SqQ K G' r (rs'.map V.str) → rs'.Perm rs → Q (.ref r) H'
abbrev DHanded (P : Program) (w : World) (K : PySem.W.Frag) (mg : Str → Option Value) (base : Heap) : Prop := Df P w K mg base CX0 3 "_law_handed" ["_law_pen_here", "_law_some"] (spHanded K)
theorem ok_Handed {f : Addr} {fd : FuncData} (F : Fun K "_law_handed" "_law_handed" sHanded f fd) (M : Mgs mg) (D_shuffled : DShuffled P w K mg base) (D_draw : DDraw P w K mg base) : FnOk P w K mg base CX0 3 f fd ["_law_pen_here", "_law_some"] (spHanded K) := by
  refine F.ok scHanded (fun vs H Q E h => ?_) (fun cdv A outer s H vs Q E hr h => ?_)
  · obtain ⟨p, a, rs, n, G, rfl, _⟩ := h
    rfl
  · obtain ⟨p, a, rs, n, G, rfl, g0, hp, hn, ha, hz, hl, q⟩ := h
    refine ⟨_, ((pss_cons (ps_set (i := 2) scHanded.nd rfl (Or.inl rfl) (pe_df D_shuffled hr (by rfl) pass0 (pa_cons (pv 0) (pa_cons (pv 1) pa_nil))))
    (pss_one (ps_ret (pe_ix (k_ix_list (K := K) rfl) (pe_lst (pa_cons (pv 2) (pa_cons (pe_callTy (k_tuple (K := K) rfl) (by rfl) M.tuple_ (by decide +kernel) (pa_cons (pv 2) pa_nil)) pa_nil))) (pe_df D_draw hr (by rfl) pass0 (pa_cons (pv 0) (pa_cons pe_int pa_nil))) (fun _ _ => rfl)))))), ?_⟩
    walk_at "go0"
    refine ⟨p, a, rs.map V.str, n, G, rfl, g0, hp, by omega, ha, fun v hv => ?_, by rw [List.length_map]; exact hl, fun r ys G1 H1 s1 hp1 hr1 hpm => ?_⟩
    · obtain ⟨z, hzm, rfl⟩ := List.mem_map.mp hv
      exact .inl ⟨z, rfl, (hz z hzm).sok⟩
    rw [List.length_map] at hp1
    obtain ⟨rs', hpr, rfl⟩ := perm_map V.str hpm rs rfl
    walk_at "go"
    refine c_tupleL (s1.gh.seq hr1) (fun t nt => ?_)
    have s2 : Stp (M1 p) G H (upd G1 t (.tup (rs'.map V.str))) (upd H1 t (.tup (rs'.map V.str))) := s1.trans (Stp.new s1.gh nt)
    have ht2 : SqT K (upd G1 t (.tup (rs'.map V.str))) t (rs'.map V.str) := tof upd_same
    have hr2 : SqL K (upd G1 t (.tup (rs'.map V.str))) r (rs'.map V.str) := (same_new (none_of s1.gh nt)).seq hr1
    have hp2 : Pen K (upd G1 t (.tup (rs'.map V.str))) p (n + rs.length) (upd H1 t (.tup (rs'.map V.str))) := hp1.stp (Stp.new (M := M0) s1.gh nt) (fun z => z)
    generalize upd G1 t (.tup (rs'.map V.str)) = G2 at s2 ht2 hr2 hp2
    generalize upd H1 t (.tup (rs'.map V.str)) = H2 at s2 hp2 ⊢
    walk_at "go"
    refine ⟨by show 2 ≤ sizeLine; decide, fun l nl => ?_⟩
    have s3 : Stp (M1 p) G H G2 (upd H2 l (.lst [.ref r, .ref t])) := s2.trans (Stp.newM s2.gh nl)
    have hp3 := hp2.upd (x := .lst [.ref r, .ref t]) (hp2.new nl)
    have hl3 : (upd H2 l (.lst [.ref r, .ref t])) l = some (.lst [.ref r, .ref t]) := upd_same
    generalize upd H2 l (.lst [.ref r, .ref t]) = H3 at s3 hp3 hl3 ⊢
    walk_at "go"
    refine use_draw (m := 2) s3.gh hp3 (by omega) rfl (by omega) (by omega) (fun d H4 hd s4 hp4 => ?_)
    have hl4 := s4.up _ _ (hp3.ne hl3) hl3
    walk_at "go"
    have hd2 : d = 0 ∨ d = 1 := by omega
    rcases hd2 with rfl | rfl
    · refine r_ixL' (lof hl4) rfl rfl ?_
      exact q r rs' G2 H4 (s3.trans s4) (hp4.mono (by omega)) (.inl hr2) hpr
    · refine r_ixL' (lof hl4) rfl rfl ?_
      exact q t rs' G2 H4 (s3.trans s4) (hp4.mono (by omega)) (.inr ht2) hpr
def spEither (K : PySem.W.Frag) : Sp := fun vs H Q _ => ∃ (p a : Addr) (xs : List V) (ds : List Dr) (n : Nat) (G : Hp), vs = [.ref p, .ref a] ∧ Same G H ∧ Pen K G p n H ∧ n + 400 < 2 ^ 40 ∧ SqL K G a xs ∧ PrsT K G xs ds ∧ DsOk ds ∧ ds.length < 64 ∧
  ∀ r ys es G' H', Stp (M1 p) G H G' H' → Pen K G' p (n + 200) H' → SqL K G' r ys → PrsQ K G' ys es → (es.map ris).Perm (ds.map ris) → (∀ e ∈ es, e ∈ ds ∨ (e.2, e.1) ∈ ds) → Q (.ref r) H'
abbrev DEither (P : Program) (w : World) (K : PySem.W.Frag) (mg : Str → Option Value) (base : Heap) : Prop := Df P w K mg base CX0 3 "_law_either" ["_law_pen_here", "_law_pairs"] (spEither K)
theorem ok_Either {f : Addr} {fd : FuncData} (F : Fun K "_law_either" "_law_either" sEither f fd) (M : Mgs mg) (D_shuffled : DShuffled P w K mg base) (D_draw : DDraw P w K mg base) : FnOk P w K mg base CX0 3 f fd ["_law_pen_here", "_law_pairs"] (spEither K) := by
  refine F.ok scEither (fun vs H Q E h => ?_) (fun cdv A outer s H vs Q E hr h => ?_)
  · obtain ⟨p, a, xs, ds, n, G, rfl, _⟩ := h
    rfl
  · obtain ⟨p, a, xs, ds, n, G, rfl, g0, hp, hn, ha, hP, hok, hl, q⟩ := h
    refine ⟨_, ((pss_cons (ps_set (i := 2) scEither.nd rfl (Or.inl rfl) (pe_lst pa_nil))
    (pss_cons (ps_for PassesOwn.never rfl (k_pi_list (K := K) rfl (pe_df D_shuffled hr (by rfl) pass0 (pa_cons (pv 0) (pa_cons (pv 1) pa_nil)))) (pg_name (i := 3) scEither.nd rfl (Or.inl rfl))
    (pss_cons (ps_set (i := 4) scEither.nd rfl (Or.inl rfl) (pe_ix (k_ix_list (K := K) rfl) (pe_lst (pa_cons (pv 3) (pa_cons (k_revT (K := K) rfl (pv 3)) pa_nil))) (pe_df D_draw hr (by rfl) pass0 (pa_cons (pv 0) (pa_cons pe_int pa_nil))) (fun _ _ => rfl)))
    (pss_one (ps_expr (k_bm (K := K) rfl PySem.F.plainAttrs_list PySem.F.slot_list_append PySem.F.type_list_append mt_append (pv 2) (pa_cons (pe_ix (k_ix_list (K := K) rfl) (pe_lst (pa_cons (pv 4) (pa_cons (pe_callTy (k_list (K := K) rfl) (by rfl) M.list_ (by decide +kernel) (pa_cons (pv 4) pa_nil)) pa_nil))) (pe_df D_draw hr (by rfl) pass0 (pa_cons (pv 0) (pa_cons pe_int pa_nil))) (fun _ _ => rfl)) pa_nil))))))
    (pss_one (ps_ret (pv 2)))))), ?_⟩
    walk_at "go0"
    refine ⟨Nat.zero_le _, fun F nF => ?_⟩
    have s1 : Stp (M1 p) G H G (upd H F (.lst [])) := Stp.newM g0 nF
    have hF1 : (upd H F (.lst [])) F = some (.lst []) := upd_same
    have hp1 := hp.upd (x := .lst []) (hp.new nF)
    have gF : G F = none := none_of g0 nF
    generalize upd H F (.lst []) = H1 at s1 hF1 hp1 ⊢
    walk_at "go"
    refine ⟨p, a, xs, n, G, rfl, s1.gh, hp1, by omega, ha, fun v hv => ?_, by rw [hP.1]; omega, fun r ys G2 H2 s2 hp2 hr2 hpm => ?_⟩
    · obtain ⟨i, hi, e⟩ := List.getElem_of_mem hv
      have hi2 : i < ds.length := by rw [← hP.1]; exact hi
      obtain ⟨t, e1, e2⟩ := hP.2 i _ (List.getElem?_eq_getElem hi2)
      rw [List.getElem?_eq_getElem hi, e] at e1
      have hm := hok _ (List.getElem_mem hi2)
      exact .inr ⟨t, _, Option.some.inj e1, e2, hm.1, hm.2⟩
    obtain ⟨ds1, hP1, hpd⟩ := prs_perm hP hpm
    have hP2 : PrsT K G2 ys ds1 := hP1.same s2.gg
    have hF2 := s2.up _ _ (hp1.ne hF1) hF1
    have gF2 : G2 F = none := (s2.fr _ _ hF1).trans gF
    have hyl : ys.length = xs.length := hpm.length_eq
    have hdl : ds1.length = ds.length := hpd.length_eq
    have hxl : xs.length = ds.length := hP.1
    have s12 := s1.trans s2
    refine loopL (xs := ys) (s2.gh.seq hr2) (fun i σ H' => ∃ y3 y4, ∃ (G' : Hp) (zs : List V) (es : List Dr), σ = [some (.ref p), some (.ref a), some (.ref F), y3, y4] ∧ Stp (M1 p) G H G' H' ∧ Same G2 G' ∧ H' F = some (.lst zs) ∧ G' F = none ∧ PrsQ K G' zs es ∧
        es.map ris = (ds1.take i).map ris ∧ (∀ e ∈ es, e ∈ ds ∨ (e.2, e.1) ∈ ds) ∧ Pen K G' p (n + xs.length + 2 * i) H')
      ⟨none, none, G2, [], [], rfl, s12, Same.refl _, hF2, gF2, .nil, rfl, (fun _ h => by cases h), hp2⟩ (fun i σ H' _ pv => ?_) (fun i v σ H' hi hv pv => ?_) (fun σ H' pv => ?_)
    · obtain ⟨_, _, G', _, _, _, st, sg, _⟩ := pv
      exact (sg.trans st.gh).seq hr2
    · obtain ⟨y3, y4, G', zs, es, rfl, st, sg, hFz, gFz, hes, hris, hin, hpz⟩ := pv
      have hi' : i < ds1.length := by rw [← hP2.1]; exact hi
      obtain ⟨t, et, hq⟩ := hP2.2 i _ (List.getElem?_eq_getElem hi')
      cases et.symm.trans hv
      have hz := List.getElem?_eq_getElem hi'
      have hmd : ds1[i] ∈ ds := hpd.mem_iff.mp (List.getElem_mem hi')
      generalize ds1[i] = d at hq hz hmd
      have hzl : zs.length = i := by
        have e := congrArg List.length hris
        rw [List.length_map, List.length_map, List.length_take] at e
        rw [hes.1]
        omega
      walk_at "go"
      refine ⟨t, _, rfl, Same.sqt (sg.trans st.gh) hq, fun t2 nt2 => ?_⟩
      have s3 : Stp (M1 p) G H (upd G' t2 (.tup [.str d.2, .str d.1])) (upd H' t2 (.tup ([.str d.1, .str d.2] : List V).reverse)) := st.trans (Stp.new st.gh nt2)
      have hq3 : SqT K (upd G' t2 (.tup [.str d.2, .str d.1])) t [.str d.1, .str d.2] := Same.sqt (sg.trans (same_new (none_of st.gh nt2))) hq
      have hr3 : SqT K (upd G' t2 (.tup [.str d.2, .str d.1])) t2 [.str d.2, .str d.1] := tof upd_same
      have sg3 : Same G' (upd G' t2 (.tup [.str d.2, .str d.1])) := same_new (none_of st.gh nt2)
      have nFt : F ≠ t2 := ne_of_none hFz nt2
      have hF3 : (upd H' t2 (.tup ([.str d.1, .str d.2] : List V).reverse)) F = some (.lst zs) := by rw [upd_ne nFt]; exact hFz
      have gF3 : (upd G' t2 (.tup [.str d.2, .str d.1])) F = none := by rw [upd_ne nFt]; exact gFz
      have hp3 : Pen K (upd G' t2 (.tup [.str d.2, .str d.1])) p (n + xs.length + 2 * i) (upd H' t2 (.tup ([.str d.1, .str d.2] : List V).reverse)) := hpz.stp (Stp.new (M := M0) st.gh nt2) (fun z => z)
      generalize upd G' t2 (.tup [.str d.2, .str d.1]) = G3 at s3 hq3 hr3 sg3 gF3 hp3
      generalize upd H' t2 (.tup ([.str d.1, .str d.2] : List V).reverse) = H3 at s3 hF3 hp3 ⊢
      walk_at "go"
      refine ⟨by show 2 ≤ sizeLine; decide, fun l nl => ?_⟩
      have s4 : Stp (M1 p) G H G3 (upd H3 l (.lst [.ref t, .ref t2])) := s3.trans (Stp.newM s3.gh nl)
      have hp4 := hp3.upd (x := .lst [.ref t, .ref t2]) (hp3.new nl)
      have hl4 : (upd H3 l (.lst [.ref t, .ref t2])) l = some (.lst [.ref t, .ref t2]) := upd_same
      have hF4 : (upd H3 l (.lst [.ref t, .ref t2])) F = some (.lst zs) := by rw [upd_ne (ne_of_none hF3 nl)]; exact hF3
      generalize upd H3 l (.lst [.ref t, .ref t2]) = H4 at s4 hp4 hl4 hF4 ⊢
      walk_at "go"
      refine use_draw (m := 2) s4.gh hp4 (by omega) rfl (by omega) (by omega) (fun k H5 hk s5 hp5 => ?_)
      have hl5 := s5.up _ _ (hp4.ne hl4) hl4
      have hF5 := s5.up _ _ (hp4.ne hF4) hF4
      obtain ⟨u, e, hu, hqe, hre, hme⟩ : ∃ (u : Addr) (e : Dr), ([.ref t, .ref t2] : List V)[k]? = some (.ref u) ∧ SqT K G3 u [.str e.1, .str e.2] ∧ ris e = ris d ∧ (e ∈ ds ∨ (e.2, e.1) ∈ ds) := by
        have h : k = 0 ∨ k = 1 := by omega
        rcases h with rfl | rfl
        · exact ⟨t, d, rfl, hq3, rfl, .inl hmd⟩
        · exact ⟨t2, (d.2, d.1), rfl, hr3, ris_swap d, .inr hmd⟩
      walk_at "go"
      refine r_ixL' (lof hl5) rfl hu ?_
      have st5 := s4.trans s5
      clear s5 hl5 hl4 hp4 s4 hp3 s3 hq3 hr3 hu
      walk_at "go"
      refine c_list (.inr (Same.sqt st5.gh hqe)) (fun l2 nl2 => ?_)
      have nFl : F ≠ l2 := ne_of_none hF5 nl2
      have s6 : Stp (M1 p) G H (upd G3 l2 (.lst [.str e.1, .str e.2])) (upd H5 l2 (.lst [.str e.1, .str e.2])) := st5.trans (Stp.new st5.gh nl2)
      have hq6 : SqT K (upd G3 l2 (.lst [.str e.1, .str e.2])) u [.str e.1, .str e.2] := Same.sqt (same_new (none_of st5.gh nl2)) hqe
      have hr6 : SqL K (upd G3 l2 (.lst [.str e.1, .str e.2])) l2 [.str e.1, .str e.2] := lof upd_same
      have sg6 : Same G' (upd G3 l2 (.lst [.str e.1, .str e.2])) := sg3.trans (same_new (none_of st5.gh nl2))
      have hF6 : (upd H5 l2 (.lst [.str e.1, .str e.2])) F = some (.lst zs) := by rw [upd_ne nFl]; exact hF5
      have gF6 : (upd G3 l2 (.lst [.str e.1, .str e.2])) F = none := by rw [upd_ne nFl]; exact gF3
      have hp6 : Pen K (upd G3 l2 (.lst [.str e.1, .str e.2])) p (n + xs.length + 2 * i + 1) (upd H5 l2 (.lst [.str e.1, .str e.2])) := hp5.stp (Stp.new (M := M0) st5.gh nl2) (fun z => z)
      generalize upd G3 l2 (.lst [.str e.1, .str e.2]) = G6 at s6 hq6 hr6 sg6 gF6 hp6
      generalize upd H5 l2 (.lst [.str e.1, .str e.2]) = H6 at s6 hF6 hp6 ⊢
      walk_at "go"
      refine ⟨by show 2 ≤ sizeLine; decide, fun l3 nl3 => ?_⟩
      have s7 : Stp (M1 p) G H G6 (upd H6 l3 (.lst [.ref u, .ref l2])) := s6.trans (Stp.newM s6.gh nl3)
      have hp7 := hp6.upd (x := .lst [.ref u, .ref l2]) (hp6.new nl3)
      have hl7 : (upd H6 l3 (.lst [.ref u, .ref l2])) l3 = some (.lst [.ref u, .ref l2]) := upd_same
      have hF7 : (upd H6 l3 (.lst [.ref u, .ref l2])) F = some (.lst zs) := by rw [upd_ne (ne_of_none hF6 nl3)]; exact hF6
      generalize upd H6 l3 (.lst [.ref u, .ref l2]) = H7 at s7 hp7 hl7 hF7 ⊢
      walk_at "go"
      refine use_draw (m := 2) s7.gh hp7 (by omega) rfl (by omega) (by omega) (fun k2 H8 hk2 s8 hp8 => ?_)
      have hl8 := s8.up _ _ (hp7.ne hl7) hl7
      have hF8 := s8.up _ _ (hp7.ne hF7) hF7
      obtain ⟨u2, hu2, hqe2⟩ : ∃ (u2 : Addr), ([.ref u, .ref l2] : List V)[k2]? = some (.ref u2) ∧ SqQ K G6 u2 [.str e.1, .str e.2] := by
        have h : k2 = 0 ∨ k2 = 1 := by omega
        rcases h with rfl | rfl
        · exact ⟨u, rfl, .inr hq6⟩
        · exact ⟨l2, rfl, .inl hr6⟩
      walk_at "go"
      refine r_ixL' (lof hl8) rfl hu2 ?_
      walk_at "go"
      have st8 := s7.trans s8
      refine c_append hF8 (small5 (by omega)) ?_
      walk_at "go"
      refine ⟨_, _, G6, zs ++ [.ref u2], es ++ [e], rfl, st8.inner (M' := M1 F) (Stp.mut st8.gh hF8 gF6 rfl) (fun b eb => .inr (by rw [eb]; exact nF)), sg.trans sg6, upd_same, gF6, (hes.same sg6).snoc hqe2, ?_, fun e' he' => ?_, ?_⟩
      · rw [take_succ_get hz, List.map_append, List.map_append, hris]
        show _ ++ [ris e] = _ ++ [ris d]
        rw [hre]
      · rcases List.mem_append.mp he' with h | h
        · exact hin e' h
        · rw [List.mem_singleton.mp h]; exact hme
      · have ep : n + xs.length + 2 * (i + 1) = n + xs.length + 2 * i + 1 + 1 := by omega
        rw [ep]
        exact hp8.upd (hp8.ne hF8)
    · obtain ⟨y3, y4, G', zs, es, rfl, st, sg, hFz, gFz, hes, hris, hin, hpz⟩ := pv
      rw [List.take_of_length_le (by rw [hP2.1]; exact Nat.le_refl _)] at hris
      walk_at "go"
      refine q F zs es (upd G' F (.lst zs)) H' (st.freeze hFz nF gFz) ?_ (lof upd_same) (hes.same (same_new gFz)) (by rw [hris]; exact hpd.map _) hin
      exact (hpz.know (same_new gFz) (by rw [upd_ne (hpz.ne hFz).symm]; exact hpz.1)).mono (by rw [hyl, hP.1]; omega)
end
abbrev sHouse : Stmt := topS 34
theorem scHouse : FnScope ["_law_pen_here", "_law_yard_here"] ["_law_pen_here", "_law_yard_here"] (defScope sHouse) := ⟨rfl, rfl, rfl, by decide +kernel, rfl, by decide +kernel, by decide +kernel⟩
section
variable {P : Program} {w : World} {K : PySem.W.Frag} {mg : Str → Option Value} {base : Heap}
/-- rooms and doors that may be handed in -/
structure Fine (rs : List Str) (ds : List Dr) : Prop where
  nd : rs.Nodup
  inn : ∀ e ∈ ds, e.1 ∈ rs ∧ e.2 ∈ rs ∧ e.1 ≠ e.2
  rn : (ds.map ris).Nodup
  tri : NoTri ds
theorem Fine.ll {rs : List Str} {ds : List Dr} (h : Fine rs ds) : Loopless ds := fun e he => (h.inn e he).2.2
theorem nb_app {ds : List Dr} {a b x z : Str} (hab : a ≠ b) (hl : Loopless ds) : z ∈ nb (ds ++ [(a, b)]) x ↔ z ∈ nb ds x ∨ (x = a ∧ z = b) ∨ (x = b ∧ z = a) := by
  have hl2 : Loopless (ds ++ [(a, b)]) := fun e he => by
    rcases List.mem_append.mp he with he | he
    · exact hl e he
    · rw [List.mem_singleton.mp he]; exact hab
  rw [mem_nb hl2, mem_nb hl]
  simp only [List.mem_append, List.mem_singleton, Prod.mk.injEq]
  constructor
  · rintro ((h | h) | (h | h))
    · exact .inl (.inl h)
    · exact .inr (.inl h)
    · exact .inl (.inr h)
    · exact .inr (.inr ⟨h.2, h.1⟩)
  · rintro ((h | h) | h | h)
    · exact .inl (.inl h)
    · exact .inr (.inl h)
    · exact .inl (.inr h)
    · exact .inr (.inr ⟨h.2, h.1⟩)
theorem Fine.add {rs : List Str} {ds : List Dr} (h : Fine rs ds) {a b : Str} (ha : a ∈ rs) (hb : b ∈ rs) (hm : mayD ds a b = true) : Fine rs (ds ++ [(a, b)]) := by
  unfold mayD at hm
  rw [Bool.and_eq_true, Bool.and_eq_true] at hm
  obtain ⟨⟨m1, m2⟩, m3⟩ := hm
  have m1 := of_decide_eq_true m1
  have m2 := of_decide_eq_true m2
  have m3 := of_decide_eq_true m3
  have hll := h.ll
  refine ⟨h.nd, fun e he => ?_, ?_, fun x y z h1 h2 h3 => ?_⟩
  · rcases List.mem_append.mp he with he | he
    · exact h.inn e he
    · rw [List.mem_singleton.mp he]; exact ⟨ha, hb, m1⟩
  · rw [List.map_append, List.nodup_append]
    refine ⟨h.rn, List.nodup_cons.mpr ⟨fun z => (by cases z), List.nodup_nil⟩, fun c hc e he => ?_⟩
    rw [List.map_singleton, List.mem_singleton] at he
    intro ec
    rw [ec, he] at hc
    refine m2 ((mem_nb hll).mpr ?_)
    rcases ris_or (d := (a, b)) m1 with c2 | c2
    · rw [c2] at hc
      exact (mem_ris hll).mp (.inl hc)
    · rw [c2] at hc
      exact (mem_ris hll).mp (.inr hc)
  · exact tri_add (R := fun x y => y ∈ nb ds x) (fun x y => nb_sym hll) (fun x => nb_irr hll) (fun x y z => h.tri x y z) m1 m3 x y z ((nb_app m1 hll).mp h1) ((nb_app m1 hll).mp h2) ((nb_app m1 hll).mp h3)
theorem withD_fine {rs : List Str} (hnd : rs.Nodup) : ∀ (ps : List (Nat × Nat)), PrIn rs.length ps → ∀ ds, Fine rs ds → Fine rs (ps.foldl (stepD rs) ds)
  | [], _, ds, h => h
  | q :: ps, hp, ds, h => by
    rw [List.foldl_cons]
    refine withD_fine hnd ps (fun e he => hp e (List.mem_cons_of_mem _ he)) _ ?_
    unfold stepD
    have hq := hp q List.mem_cons_self
    have g : ∀ i, i < rs.length → gR rs i ∈ rs := fun i hi => by
      unfold gR
      rw [List.getD_eq_getElem?_getD, List.getElem?_eq_getElem hi]
      exact List.getElem_mem hi
    by_cases c : mayD ds (gR rs q.1) (gR rs q.2) = true
    · rw [if_pos c]
      exact h.add (g _ hq.1) (g _ hq.2) c
    · rw [if_neg c]
      exact h
theorem withD_fine' {rs : List Str} (hnd : rs.Nodup) {ps : List (Nat × Nat)} (hp : PrIn rs.length ps) : Fine rs (withD rs ps) :=
  withD_fine hnd ps hp [] ⟨hnd, fun _ h => (by cases h), List.nodup_nil, fun a b c h => (by cases h)⟩
theorem Fine.less {rs : List Str} {ds es : List Dr} (h : Fine rs ds) (s : es.Sublist ds) : Fine rs es :=
  ⟨h.nd, fun e he => h.inn e (s.subset he), (s.map ris).nodup h.rn, h.tri.of fun x z => nb_less (fun d hd => s.subset hd) h.ll⟩
def spHouse (K : PySem.W.Frag) (C : Addr) : Sp := fun vs H Q _ => ∃ (p y : Addr) (rs : List Str) (ds : List Dr) (n : Nat) (G : Hp), vs = [.ref p, .ref y] ∧ Same G H ∧ Pen K G p n H ∧ n + 800 < 2 ^ 40 ∧ Yard K G y rs ds ∧ (∀ z ∈ rs, NmOk z) ∧ 1 ≤ rs.length ∧ rs.length < 64 ∧ Fine rs ds ∧ ds.length < 64 ∧
  ∀ h rs' es G' H', Stp (M1 p) G H G' H' → Pen K G' p (n + 400) H' → HouseIn K C G' G' h rs' es → rs'.Perm rs → sortedS rs' = true → es.Perm (ds.map ris) → es.Pairwise leD → Q (.ref h) H'
abbrev DHouse (P : Program) (w : World) (K : PySem.W.Frag) (mg : Str → Option Value) (base : Heap) (c_House : Addr) : Prop := Df P w K mg base CX0 5 "_law_house" ["_law_pen_here", "_law_yard_here"] (spHouse K c_House)
theorem ok_House {f : Addr} {fd : FuncData} (F : Fun K "_law_house" "_law_house" sHouse f fd) (M : Mgs mg) {c_House : Addr} (Z_House : HouseC K mg c_House) (D_House_init : DHouseInit P w K mg base c_House) (D_handed : DHanded P w K mg base) (D_either : DEither P w K mg base) : FnOk P w K mg base CX0 5 f fd ["_law_pen_here", "_law_yard_here"] (spHouse K c_House) := by
  refine F.ok scHouse (fun vs H Q E h => ?_) (fun cdv A outer s H vs Q E hr h => ?_)
  · obtain ⟨p, y, rs, ds, n, G, rfl, _⟩ := h
    rfl
  · obtain ⟨p, y, rs, ds, n, G, rfl, g0, hp, hn, hy, hnm, h1, h64, hf, hdl, q⟩ := h
    have hu := hu_of hr
    have hyh := hy
    obtain ⟨d, xs, hyd, hsd, hdr⟩ := hyh
    obtain ⟨r, e1, e2⟩ := hyd
    refine ⟨_, ((pss_one (ps_ret (pe_dk D_House_init hr (by rfl) pass0 (pa_cons (pe_df D_handed hr (by rfl) pass0 (pa_cons (pv 0) (pa_cons (pe_dget hu (pv 1) pe_str (fun _ _ => rfl)) pa_nil))) (pa_cons (pe_df D_either hr (by rfl) pass0 (pa_cons (pv 0) (pa_cons (pe_dget hu (pv 1) pe_str (fun _ _ => rfl)) pa_nil))) pa_nil)))))), ?_⟩
    walk_at "go0"
    refine r_dget' (dk (g0 _ _ e1) vv0) ?_
    walk_at "go"
    refine ⟨p, r, rs, n, G, rfl, g0, hp, by omega, e2, hnm, h64, fun a rs1 G1 H1 s1 hp1 ha hpm => ?_⟩
    walk_at "go"
    refine r_dget' (dk ((s1.gg.trans s1.gh) _ _ e1) ((vv1 (by decide +kernel)).trans vv0)) ?_
    walk_at "go"
    refine ⟨p, d, xs, ds, n + 100, G1, rfl, s1.gh, hp1, by omega, s1.gg.seq hsd, hdr.prs.same s1.gg, fun e he => ⟨(hnm _ (hf.inn e he).1).sok, (hnm _ (hf.inn e he).2.1).sok⟩, hdl, fun dd ys es G2 H2 s2 hp2 hdd hq2 hrs2 hin2 => ?_⟩
    walk_at "go"
    intro x dx nx ndx hne
    have s12 := s1.trans s2
    have s3a : Stp (M1 p) G H G2 (upd H2 dx (.own x)) := s12.trans (Stp.newM s12.gh ndx)
    have nx3 : (upd H2 dx (.own x)) x = none := by rw [upd_ne hne.symm]; exact nx
    have s3 : Stp (M1 p) G H G2 (upd (upd H2 dx (.own x)) x (.ins c_House dx [])) := s3a.trans (Stp.newM s3a.gh nx3)
    have hx3 : (upd (upd H2 dx (.own x)) x (.ins c_House dx [])) x = some (.ins c_House dx []) := upd_same
    have hxp := hp2.new nx
    have hp3 := (hp2.upd (x := .own x) (hp2.new ndx)).upd (x := .ins c_House dx []) hxp
    have gx : G2 x = none := none_of s12.gh nx
    have nxH : H x = none := s12.free nx
    generalize upd (upd H2 dx (.own x)) x (.ins c_House dx []) = H3 at s3 hx3 hp3 ⊢
    have hle : es.length = ds.length := by
      have h := hrs2.length_eq
      rw [List.length_map, List.length_map] at h
      exact h
    have hinn : ∀ e ∈ es, e.1 ∈ rs1 ∧ e.2 ∈ rs1 ∧ e.1 ≠ e.2 := fun e he => by
      rcases hin2 e he with h | h
      · have h := hf.inn _ h
        exact ⟨hpm.mem_iff.mpr h.1, hpm.mem_iff.mpr h.2.1, h.2.2⟩
      · have h := hf.inn _ h
        exact ⟨hpm.mem_iff.mpr h.2.1, hpm.mem_iff.mpr h.1, h.2.2.symm⟩
    have htri : NoTri es := hf.tri.of fun x z h => by
      refine (mem_nb hf.ll).mpr ?_
      rcases (mem_nb (fun e he => (hinn e he).2.2)).mp h with h | h
      · exact hin2 _ h
      · exact (hin2 _ h).symm
    refine ⟨x, a, dd, dx, rs1, ys, es, G2, rfl, s3.gh, hx3, gx, ha.same s2.gg, fun z hz => hnm z (hpm.mem_iff.mp hz), hpm.nodup_iff.mpr hf.nd, by rw [hpm.length_eq]; exact h1, by rw [hpm.length_eq]; exact h64, hdd, hq2, hinn, hrs2.nodup_iff.mpr hf.rn, htri, by omega, fun rs' es' G4 H4 s4 gx4 p1 p2 p3 p4 hh => ?_⟩
    refine ⟨rfl, ?_⟩
    have s34 : Stp (M1 p) G H G4 H4 := s3.inner (M' := M1 x) s4 (fun b e => .inr (by rw [e]; exact nxH))
    obtain ⟨dx', r', d', N', xs', hx4, q1, q2, q3, q4⟩ := hh
    have hp4 := hp3.stp s4 (fun z => hxp z.symm)
    refine q x rs' es' (upd G4 x _) H4 (s34.freeze hx4 nxH gx4) ((hp4.know (same_new gx4) (by rw [upd_ne hxp.symm]; exact hp4.1)).mono (by omega)) ⟨dx', r', d', N', xs', upd_same, Same.sqt (same_new gx4) q1, Same.sqt (same_new gx4) q2, q3.same (same_new gx4), q4.same (same_new gx4)⟩ (p1.trans hpm) p2 (p3.trans hrs2) p4
end
local macro_rules | `(tactic| walk_at "u1") => `(tactic| first
  | with_reducible refine r_din ?_ | with_reducible refine r_dnotin ?_)
abbrev sSpans : Stmt := topS 15
theorem scSpans : FnScope ["near", "begin", "found", "edge", "ahead", "name", "other"] ["near", "begin"] (defScope sSpans) := ⟨rfl, rfl, rfl, by decide +kernel, rfl, by decide +kernel, by decide +kernel⟩
section
variable {P : Program} {w : World} {K : PySem.W.Frag} {mg : Str → Option Value} {base : Heap}
theorem near_get {G H : Hp} {N : Addr} {rs : List Str} {es : List Dr} {z : Str} (h : Near K G N rs es) (g : Same G H) (hnd : rs.Nodup) (hz : z ∈ rs) : ∃ (m : Addr) (ys : List Str), DGet H N (.str z) (some (.ref m)) ∧ SqL K G m (ys.map V.str) ∧ ys.Perm (nb es z) ∧ sortedS ys = true := by
  obtain ⟨ms, h1, h2, h3⟩ := h
  obtain ⟨j, hj, e⟩ := List.getElem_of_mem hz
  have e1 : rs[j]? = some z := by rw [List.getElem?_eq_getElem hj, e]
  have e2 : ms[j]? = some ms[j] := List.getElem?_eq_getElem (by omega)
  obtain ⟨ys, a, b⟩ := h3 j z _ e1 e2
  exact ⟨ms[j], ys, dk (g _ _ h2) (kvs_get hnd e1 (by rw [List.getElem?_map, e2]; rfl)), a, b⟩
def spSpans (K : PySem.W.Frag) : Sp := fun vs H Q _ => ∃ (N : Addr) (b : Str) (rs : List Str) (es : List Dr) (G : Hp), vs = [.ref N, .str b] ∧ Same G H ∧ Near K G N rs es ∧ rs.Nodup ∧ rs.length < 64 ∧ b ∈ rs ∧ (∀ x z, z ∈ nb es x → z ∈ rs) ∧
  ∀ f fs G' H', Stp M0 G H G' H' → G' f = some (.dK (kvN fs)) → Spans es b fs → Q (.ref f) H'
abbrev DSpans (P : Program) (w : World) (K : PySem.W.Frag) (mg : Str → Option Value) (base : Heap) : Prop := Df P w K mg base CX0 1 "spans" ["near", "begin"] (spSpans K)
theorem ok_Spans {f : Addr} {fd : FuncData} (F : Fun K "spans" "spans" sSpans f fd) (M : Mgs mg) : FnOk P w K mg base CX0 1 f fd ["near", "begin"] (spSpans K) := by
  refine F.ok scSpans (fun vs H Q E h => ?_) (fun cdv A outer s H vs Q E hr h => ?_)
  · obtain ⟨N, b, rs, es, G, rfl, _⟩ := h
    rfl
  · obtain ⟨N, b, rs, es, G, rfl, g0, hN, hnd, hl, hb, hin, q⟩ := h
    have hu := hu_of hr
    refine ⟨_, ((pss_cons (ps_set (i := 2) scSpans.nd rfl (Or.inl rfl) (pe_disp (pps_cons (pv 1) pe_int pps_nil) (by rfl) (by rfl) (fun z => by cases z) (by decide)))
    (pss_cons (ps_set (i := 3) scSpans.nd rfl (Or.inl rfl) (pe_lst (pa_cons (pv 1) pa_nil)))
    (pss_cons (ps_while PassesOwn.never (k_truth (K := K) rfl (pv 3) (by intro _; rfl))
    (pss_cons (ps_set (i := 4) scSpans.nd rfl (Or.inl rfl) (pe_lst pa_nil))
    (pss_cons (ps_for PassesOwn.never rfl (k_pi_list (K := K) rfl (pv 3)) (pg_name (i := 5) scSpans.nd rfl (Or.inl rfl))
    (pss_one (ps_for PassesOwn.never rfl (k_pi_list (K := K) rfl (pe_dget hu (pv 0) (pv 5) (fun _ _ => rfl))) (pg_name (i := 6) scSpans.nd rfl (Or.inl rfl))
    (pss_one (ps_if (pt_cmp (pc_dnotin hu (pv 6) (pv 2)))
    (pss_cons (ps_dput hu (pv 2) (pv 6) (pe_op op_add (pe_dget hu (pv 2) (pv 5) (fun _ _ => rfl)) pe_int) rfl)
    (pss_one (ps_expr (k_bm (K := K) rfl PySem.F.plainAttrs_list PySem.F.slot_list_append PySem.F.type_list_append mt_append (pv 4) (pa_cons (pv 6) pa_nil)))))
    pss_nil)))))
    (pss_one (ps_set (i := 3) scSpans.nd rfl (Or.inl rfl) (pv 4))))))
    (pss_one (ps_ret (pv 2))))))), ?_⟩
    walk_at "go0"
    intro d nd
    walk_at "go"
    have hd1 : (upd H d (.dK [])) d = some (.dK []) := upd_same
    refine ⟨hd1, [(Sum.inr b, .int 0)], rfl, by show 1 ≤ 15; decide, ?_⟩
    have em : mergeK [] [((Sum.inr b : Key), V.int 0)] = kvN [(b, 0)] := rfl
    rw [em]
    have s1 : Stp M0 G H G (upd H d (.dK [])) := Stp.newM g0 nd
    have gd : G d = none := none_of g0 nd
    have s2 : Stp M0 G H G (upd (upd H d (.dK [])) d (.dK (kvN [(b, 0)]))) := s1.inner (M' := M1 d) (Stp.mut s1.gh hd1 gd rfl) (fun a e => .inr (by rw [e]; exact nd))
    have hd2 : (upd (upd H d (.dK [])) d (.dK (kvN [(b, 0)]))) d = some (.dK (kvN [(b, 0)])) := upd_same
    generalize upd (upd H d (.dK [])) d (.dK (kvN [(b, 0)])) = H2 at s2 hd2 ⊢
    walk_at "go"
    refine ⟨by show 1 ≤ sizeLine; decide, fun l nl => ?_⟩
    have s3 : Stp M0 G H G (upd H2 l (.lst [.str b])) := s2.trans (Stp.newM s2.gh nl)
    have hl3 : (upd H2 l (.lst [.str b])) l = some (.lst (([b] : List Str).map V.str)) := upd_same
    have hd3 : (upd H2 l (.lst [.str b])) d = some (.dK (kvN [(b, 0)])) := by rw [upd_ne (ne_of_none hd2 nl)]; exact hd2
    generalize upd H2 l (.lst [.str b]) = H3 at s3 hl3 hd3 ⊢
    walk_at "go"
    have inr : ∀ {m z}, Wn es b m z → z ∈ rs := fun h => h.inn hb hin
    refine while_k (fun m σ H' => ∃ (k : Nat) (fs : List (Str × Nat)) (edge : List Str) (l : Addr), ∃ y4 y5 y6, σ = [some (.ref N), some (.str b), some (.ref d), some (.ref l), y4, y5, y6] ∧ Stp M0 G H G H' ∧ H' d = some (.dK (kvN fs)) ∧ H' l = some (.lst (edge.map V.str)) ∧ Bfs es b k fs edge ∧ m = 2 * (64 - fs.length) + (if edge = [] then 0 else 1))
      _ ⟨0, [(b, 0)], [b], l, none, none, none, rfl, s3, hd3, hl3, Bfs.start es b, rfl⟩ (fun m σ H' pv Ct hT hF => ?_)
    obtain ⟨k, fs, edge, l, y4, y5, y6, rfl, st, hdz, hlz, hB, hm⟩ := pv
    have flen : ∀ fs' : List (Str × Nat), (fs'.map Prod.fst).Nodup → (∀ z n, (z, n) ∈ fs' → z ∈ rs) → fs'.length < 64 := fun fs' h1 h2 => by
      have h := nd_le2 (L := rs) h1 (fun z hz => by
        obtain ⟨⟨x, n⟩, hp, e⟩ := List.mem_map.mp hz
        cases e
        exact h2 _ _ hp)
      rw [List.length_map] at h
      omega
    walk_at "go"
    cases edge with
    | nil =>
      refine ⟨false, .inl ⟨[], lof hlz, rfl⟩, ?_⟩
      refine hF H' ?_
      walk_at "go"
      exact q d fs (upd G d _) H' (st.freeze hdz nd gd) upd_same hB.done
    | cons e0 er =>
      refine ⟨true, .inl ⟨_, lof hlz, rfl⟩, ?_⟩
      refine hT H' ?_
      have hm1 : m = 2 * (64 - fs.length) + 1 := by rw [hm, if_neg (fun z => by cases z)]
      clear hm hT hF
      generalize e0 :: er = edge at hlz hB ⊢
      walk_at "go"
      refine ⟨Nat.zero_le _, fun A nA => ?_⟩
      have nlA : l ≠ A := ne_of_none hlz nA
      have ndA : d ≠ A := ne_of_none hdz nA
      have nld : l ≠ d := ne_of hlz hdz (fun z => nomatch z)
      have gA : G A = none := none_of st.gh nA
      have hAH : H A = none := st.free nA
      have s4 : Stp M0 G H G (upd H' A (.lst [])) := st.trans (Stp.newM st.gh nA)
      have hA4 : (upd H' A (.lst [])) A = some (.lst (([] : List Str).map V.str)) := upd_same
      have hl4 : (upd H' A (.lst [])) l = some (.lst (edge.map V.str)) := by rw [upd_ne nlA]; exact hlz
      have hd4 : (upd H' A (.lst [])) d = some (.dK (kvN fs)) := by rw [upd_ne ndA]; exact hdz
      generalize upd H' A (.lst []) = H4 at s4 hA4 hl4 hd4 ⊢
      have fok : ∀ {fs' ahead}, Mid es k fs edge fs' ahead → fs'.length < 64 := fun {fs' ahead} hM => flen fs' hM.nd (fun z n hz => by
        rw [hM.eq] at hz
        rcases List.mem_append.mp hz with hz | hz
        · exact inr (hB.val z n hz).1
        · obtain ⟨y, hy, e⟩ := List.mem_map.mp hz
          cases e
          obtain ⟨x, _, h2⟩ := hM.by_ _ hy
          exact hin _ _ h2)
      walk_at "go"
      refine loopL (xs := edge.map V.str) (lof hl4) (fun i σ H' => ∃ (fs' : List (Str × Nat)) (ahead : List Str), ∃ y5 y6, σ = [some (.ref N), some (.str b), some (.ref d), some (.ref l), some (.ref A), y5, y6] ∧ Stp M0 G H G H' ∧ H' d = some (.dK (kvN fs')) ∧ H' l = some (.lst (edge.map V.str)) ∧ H' A = some (.lst (ahead.map V.str)) ∧
          Mid es k fs edge fs' ahead ∧ ∀ x ∈ edge.take i, ∀ a ∈ nb es x, a ∈ fs'.map Prod.fst) ⟨fs, [], y5, y6, rfl, s4, hd4, hl4, hA4, Mid.start hB, fun x hx => (by cases hx)⟩ (fun i σ H' _ pv => ?_) (fun i v σ H' hi hv pv => ?_) (fun σ H' pv => ?_)
      · obtain ⟨_, _, _, _, _, _, _, h, _⟩ := pv
        exact lof h
      · obtain ⟨fs', ahead, y5, y6, rfl, st5, hd5, hl5, hA5, hM, hdone⟩ := pv
        obtain ⟨x, hx, rfl⟩ := map_get hv
        have hxe := List.mem_of_getElem? hx
        have hxk := (hB.edge x).mp hxe
        have hxr : x ∈ rs := inr (hB.val x k hxk).1
        walk_at "go"
        obtain ⟨m1, ys, hg1, hs1, hp1, _⟩ := near_get hN st5.gh hnd hxr
        refine r_dget' hg1 ?_
        walk_at "go"
        refine loopL (xs := ys.map V.str) (st5.gh.seq hs1) (fun j σ H' => ∃ (fs' : List (Str × Nat)) (ahead : List Str), ∃ y6, σ = [some (.ref N), some (.str b), some (.ref d), some (.ref l), some (.ref A), some (.str x), y6] ∧ Stp M0 G H G H' ∧ H' d = some (.dK (kvN fs')) ∧ H' l = some (.lst (edge.map V.str)) ∧ H' A = some (.lst (ahead.map V.str)) ∧
            Mid es k fs edge fs' ahead ∧ (∀ x ∈ edge.take i, ∀ a ∈ nb es x, a ∈ fs'.map Prod.fst) ∧ ∀ a ∈ ys.take j, a ∈ fs'.map Prod.fst) ⟨fs', ahead, _, rfl, st5, hd5, hl5, hA5, hM, hdone, fun a ha => (by cases ha)⟩ (fun j σ H' _ pv => ?_) (fun j v σ H' hj hv pv => ?_) (fun σ H' pv => ?_)
        · obtain ⟨_, _, _, _, st6, _⟩ := pv
          exact st6.gh.seq hs1
        · obtain ⟨fs', ahead, y6, rfl, st6, hd6, hl6, hA6, hM, hdone, hsome⟩ := pv
          obtain ⟨a, ha, rfl⟩ := map_get hv
          have han : a ∈ nb es x := hp1.mem_iff.mp (List.mem_of_getElem? ha)
          walk_at "go"
          refine ⟨d, _, rfl, dg_str hd6, ?_⟩
          walk_at "go"
          by_cases hk : a ∈ fs'.map Prod.fst
          · obtain ⟨⟨a', n⟩, hpn, e⟩ := List.mem_map.mp hk
            cases e
            rw [kvN_get hM.nd hpn]
            walk_at "go"
            refine ⟨fs', ahead, _, rfl, st6, hd6, hl6, hA6, hM, hdone, fun y hy => ?_⟩
            rw [take_succ_get ha] at hy
            rcases List.mem_append.mp hy with hy | hy
            · exact hsome y hy
            · rw [List.mem_singleton.mp hy]; exact hk
          · rw [kvN_none hk, show (none : Option V).isSome = false from rfl]
            walk_at "go"
            have hxf : (x, k) ∈ fs' := by rw [hM.eq]; exact List.mem_append_left _ hxk
            refine ⟨d, _, rfl, by rw [← kvN_get hM.nd hxf]; exact dg_str hd6, ?_⟩
            walk_at "go"
            refine ⟨d, _, rfl, dp_str hd6 (small5 (by rw [kvN_len]; have := fok hM; omega)), ?_⟩
            rw [show ((k : Int) + 1) = ((k + 1 : Nat) : Int) from rfl, kvN_put hk]
            have s7 : Stp M0 G H G (upd H' d (.dK (kvN (fs' ++ [(a, k + 1)])))) := st6.inner (M' := M1 d) (Stp.mut st6.gh hd6 gd rfl) (fun b e => .inr (by rw [e]; exact nd))
            have hd7 : (upd H' d (.dK (kvN (fs' ++ [(a, k + 1)])))) d = some (.dK (kvN (fs' ++ [(a, k + 1)]))) := upd_same
            have hl7 : (upd H' d (.dK (kvN (fs' ++ [(a, k + 1)])))) l = some (.lst (edge.map V.str)) := by rw [upd_ne nld]; exact hl6
            have hA7 : (upd H' d (.dK (kvN (fs' ++ [(a, k + 1)])))) A = some (.lst (ahead.map V.str)) := by rw [upd_ne ndA.symm]; exact hA6
            generalize upd H' d (.dK (kvN (fs' ++ [(a, k + 1)]))) = H7 at s7 hd7 hl7 hA7 ⊢
            have hM2 := hM.add hxe han hk
            have hal : ahead.length < 64 := by
              have h := fok hM
              rw [hM.eq, List.length_append, List.length_map] at h
              omega
            walk_at "go"
            refine c_append hA7 (small5 (by rw [List.length_map]; omega)) ?_
            walk_at "go"
            refine ⟨fs' ++ [(a, k + 1)], ahead ++ [a], _, rfl, s7.inner (M' := M1 A) (Stp.mut s7.gh hA7 gA rfl) (fun b e => .inr (by rw [e]; exact hAH)), by rw [upd_ne ndA]; exact hd7, by rw [upd_ne nlA]; exact hl7, by rw [upd_same, List.map_append]; rfl, hM2, fun x hx c hc => ?_, fun y hy => ?_⟩
            · rw [List.map_append]
              exact List.mem_append_left _ (hdone x hx c hc)
            · rw [take_succ_get ha] at hy
              rw [List.map_append]
              rcases List.mem_append.mp hy with hy | hy
              · exact List.mem_append_left _ (hsome y hy)
              · rw [List.mem_singleton.mp hy]; exact List.mem_append_right _ (by simp)
        · obtain ⟨fs', ahead, y6, rfl, st6, hd6, hl6, hA6, hM, hdone, hsome⟩ := pv
          rw [List.length_map, List.take_length] at hsome
          walk_at "go"
          refine ⟨fs', ahead, _, _, rfl, st6, hd6, hl6, hA6, hM, fun y hy c hc => ?_⟩
          rw [take_succ_get hx] at hy
          rcases List.mem_append.mp hy with hy | hy
          · exact hdone y hy c hc
          · rw [List.mem_singleton.mp hy] at hc
            exact hsome c (hp1.mem_iff.mpr hc)
      · obtain ⟨fs', ahead, y5, y6, rfl, st5, hd5, hl5, hA5, hM, hdone⟩ := pv
        rw [List.length_map, List.take_length] at hdone
        have h64 := fok hM
        have hfl : fs'.length = fs.length + ahead.length := by rw [hM.eq, List.length_append, List.length_map]
        walk_at "go"
        refine ⟨_, ?_, k + 1, fs', ahead, A, _, _, _, rfl, st5, hd5, hA5, hM.next hB hdone, rfl⟩
        by_cases c : ahead = []
        · rw [if_pos c, hm1]
          rw [c, List.length_nil] at hfl
          omega
        · rw [if_neg c, hm1]
          have h1 : 1 ≤ ahead.length := by
            cases ahead with
            | nil => exact absurd rfl c
            | cons _ _ => rw [List.length_cons]; omega
          omega
end
local macro_rules | `(tactic| walk_at "u1") => `(tactic| first
  | with_reducible refine r_din ?_ | with_reducible refine r_dnotin ?_)
abbrev sPath : Stmt := topS 16
theorem scPath : FnScope ["near", "one", "other", "left", "names", "nearer", "name"] ["near", "one", "other"] (defScope sPath) := ⟨rfl, rfl, rfl, by decide +kernel, rfl, by decide +kernel, by decide +kernel⟩
abbrev sHouseWay : Stmt := inClass (topS 19) 13
theorem scHouseWay : FnScope ["self", "one", "other"] ["self", "one", "other"] (defScope sHouseWay) := ⟨rfl, rfl, rfl, by decide +kernel, rfl, by decide +kernel, by decide +kernel⟩
abbrev sHouseSteps : Stmt := inClass (topS 19) 12
theorem scHouseSteps : FnScope ["self", "one", "other", "walk"] ["self", "one", "other"] (defScope sHouseSteps) := ⟨rfl, rfl, rfl, by decide +kernel, rfl, by decide +kernel, by decide +kernel⟩
section
variable {P : Program} {w : World} {K : PySem.W.Frag} {mg : Str → Option Value} {base : Heap}
/-- a walk from a to b with the fewest steps -/
structure Way (es : List Dr) (a b : Str) (ws : List Str) : Prop where
  first : ws[0]? = some a
  last : ws[ws.length - 1]? = some b
  road : ∀ (i : Nat) (x y : Str), ws[i]? = some x → ws[i + 1]? = some y → y ∈ nb es x
  wn : Wn es b (ws.length - 1) a
  few : ∀ m, Wn es b m a → ws.length - 1 ≤ m
theorem at_end2 {l : List Str} {a : Str} (h : l[l.length - 1]? = some a) : atI (l.map V.str) (-1) = some (.str a) := by
  have hn : 0 < l.length := by
    cases l with
    | nil => simp at h
    | cons x r => simp
  unfold atI ixN
  rw [if_neg (by omega), if_pos (by rw [List.length_map]; omega)]
  show (l.map V.str)[(((l.map V.str).length : Int) + -1).toNat]? = _
  rw [List.length_map, show ((l.length : Int) + -1).toNat = l.length - 1 by omega, List.getElem?_map, h]
  rfl
def dz (fs : List (Str × Nat)) (z : Str) : Int := match valV (kvN fs) (.inr z : Key) with
  | some (.int i) => i
  | _ => 0
theorem dz_of {fs : List (Str × Nat)} {z : Str} {n : Nat} (hn : (fs.map Prod.fst).Nodup) (h : (z, n) ∈ fs) : dz fs z = n := by
  unfold dz
  rw [kvN_get hn h]
theorem wn_zero {es : List Dr} {b z : Str} (h : Wn es b 0 z) : z = b := by cases h; rfl
def spPath (K : PySem.W.Frag) : Sp := fun vs H Q _ => ∃ (N : Addr) (a b : Str) (rs : List Str) (es : List Dr) (G : Hp), vs = [.ref N, .str a, .str b] ∧ Same G H ∧ Near K G N rs es ∧ rs.Nodup ∧ rs.length < 64 ∧ a ∈ rs ∧ b ∈ rs ∧ (∀ x z, z ∈ nb es x → z ∈ rs) ∧ Loopless es ∧ es.length < 64 ∧
  (∀ G' H', Stp M0 G H G' H' → (∀ n, ¬ Wn es b n a) → Q .non H') ∧ ∀ t ws G' H', Stp M0 G H G' H' → SqT K G' t (ws.map V.str) → Way es a b ws → ws.length < 64 → Q (.ref t) H'
abbrev DPath (P : Program) (w : World) (K : PySem.W.Frag) (mg : Str → Option Value) (base : Heap) : Prop := Df P w K mg base CX0 2 "path" ["near", "one", "other"] (spPath K)
theorem ok_Path {f : Addr} {fd : FuncData} (F : Fun K "path" "path" sPath f fd) (M : Mgs mg) (D_spans : DSpans P w K mg base) : FnOk P w K mg base CX0 2 f fd ["near", "one", "other"] (spPath K) := by
  refine F.ok scPath (fun vs H Q E h => ?_) (fun cdv A outer s H vs Q E hr h => ?_)
  · obtain ⟨N, a, b, rs, es, G, rfl, _⟩ := h
    rfl
  · obtain ⟨N, a, b, rs, es, G, rfl, g0, hN, hnd, hl, ha, hb, hin, hll, hel, q1, q2⟩ := h
    have hu := hu_of hr
    refine ⟨_, ((pss_cons (ps_set (i := 3) scPath.nd rfl (Or.inr rfl) (pe_df D_spans hr (by rfl) pass0 (pa_cons (pv 0) (pa_cons (pv 2) pa_nil))))
    (pss_cons (ps_if (pt_cmp (pc_dnotin hu (pv 1) (pv 3)))
    (pss_one (ps_ret pe_non))
    pss_nil)
    (pss_cons (ps_set (i := 4) scPath.nd rfl (Or.inr rfl) (pe_lst (pa_cons (pv 1) pa_nil)))
    (pss_cons (ps_while PassesOwn.never (pt_cmpR op_ne (pe_ix (k_ix_list (K := K) rfl) (pv 4) (pe_un un_neg pe_int) (fun _ _ => rfl)) (pv 2) (nomark _))
    (pss_cons (ps_setLc (i := 5) (own := [("name", 6)]) rfl scPath.nd rfl rfl (sw_true rfl rfl rfl (by decide +kernel)) (k_pi_list (K := K) rfl (pe_dget hu (pv 0) (pe_ix (k_ix_list (K := K) rfl) (pv 4) (pe_un un_neg pe_int) (fun _ _ => rfl)) (fun _ _ => rfl))) (blkOk_by (N := ["near", "one", "other", "left", "names", "nearer", "name"]) (sc := defScope sPath) (by decide +kernel)) (fun _ _ _ _ _ => (pg_name (i := 6) scPath.nd rfl (Or.inl rfl))) (fun _ _ _ _ _ => (pts_one (pt_cmpR op_lt (pe_dget hu (pv 3) (pv 6) (fun _ _ => rfl)) (pe_dget hu (pv 3) (pe_ix (k_ix_list (K := K) rfl) (pv 4) (pe_un un_neg pe_int) (fun _ _ => rfl)) (fun _ _ => rfl)) (nomark _)))) (fun _ _ _ _ _ => (pv 6)))
    (pss_one (ps_expr (k_bm (K := K) rfl PySem.F.plainAttrs_list PySem.F.slot_list_append PySem.F.type_list_append mt_append (pv 4) (pa_cons (pe_ix (k_ix_list (K := K) rfl) (pv 5) pe_int (fun _ _ => rfl)) pa_nil))))))
    (pss_one (ps_ret (pe_callTy (k_tuple (K := K) rfl) (by rfl) M.tuple_ (by decide +kernel) (pa_cons (pv 4) pa_nil))))))))), ?_⟩
    walk_at "go0"
    refine ⟨N, b, rs, es, G, rfl, g0, hN, hnd, hl, hb, hin, fun f fs G1 H1 s1 hf hS => ?_⟩
    walk_at "go"
    refine ⟨f, _, rfl, dg_str (s1.gh _ _ hf), ?_⟩
    walk_at "go"
    by_cases hk : a ∈ fs.map Prod.fst
    · obtain ⟨⟨a', n0⟩, hpn, e⟩ := List.mem_map.mp hk
      cases e
      rw [kvN_get hS.nd hpn, show (some (V.int (n0 : Int))).isSome = true from rfl]
      walk_at "go"
      refine ⟨by show 1 ≤ sizeLine; decide, fun W nW => ?_⟩
      have s2 : Stp M0 G H G1 (upd H1 W (.lst [.str a'])) := s1.trans (Stp.newM s1.gh nW)
      have hW2 : (upd H1 W (.lst [.str a'])) W = some (.lst (([a'] : List Str).map V.str)) := upd_same
      have gW : G1 W = none := none_of s1.gh nW
      have hWH : H W = none := s1.free nW
      generalize upd H1 W (.lst [.str a']) = H2 at s2 hW2 ⊢
      walk_at "go"
      refine while_k (fun m σ H' => ∃ (ws : List Str) (cur : Str) (d : Nat), ∃ y5, σ = [some (.ref N), some (.str a'), some (.str b), some (.ref f), some (.ref W), y5, none] ∧ Stp M0 G H G1 H' ∧ H' W = some (.lst (ws.map V.str)) ∧ ws[0]? = some a' ∧ ws[ws.length - 1]? = some cur ∧ (cur, d) ∈ fs ∧
          (∀ (i : Nat) (x y : Str), ws[i]? = some x → ws[i + 1]? = some y → y ∈ nb es x) ∧ ws.length + d = n0 + 1 ∧ ws.Nodup ∧ (∀ z ∈ ws, z ∈ rs ∧ (d : Int) ≤ dz fs z) ∧ m = d)
        n0 ⟨[a'], a', n0, none, rfl, s2, hW2, rfl, rfl, hpn, (fun i x y _ h => by simp at h), by simp; omega, by simp, (fun z hz => by rw [List.mem_singleton.mp hz, dz_of hS.nd hpn]; exact ⟨ha, Int.le_refl _⟩), rfl⟩ (fun m σ H' pv Ct hT hF => ?_)
      obtain ⟨ws, cur, d, y5, rfl, st, hWz, hw0, hwl, hcd, hroad, hlen, hwn, hwr, rfl⟩ := pv
      have hwlen : ws.length < 64 := Nat.lt_of_le_of_lt (nd_le2 hwn (fun z hz => (hwr z hz).1)) hl
      walk_at "go"
      refine r_ixL (lof hWz) (at_end2 hwl) ?_
      walk_at "go"
      by_cases hcb : cur = b
      · subst hcb
        rw [decide_eq_true rfl]
        refine hF H' ?_
        walk_at "go"
        have hd0 : m = 0 := Nat.le_zero.mp ((hS.val _ _ hcd).2 0 .zero)
        refine c_tupleL (lof hWz) (fun t nt => ?_)
        have hv := hS.val _ _ hpn
        have e1 : ws.length - 1 = n0 := by omega
        exact q2 t ws (upd G1 t (.tup (ws.map V.str))) _ (st.trans (Stp.new st.gh nt)) (tof upd_same) ⟨hw0, hwl, hroad, by rw [e1]; exact hv.1, by rw [e1]; exact hv.2⟩ hwlen
      · rw [decide_eq_false (show ¬ V.str cur = V.str b from fun e => hcb (V.str.inj e))]
        refine hT H' ?_
        have hcur := hwr cur (List.mem_of_getElem? hwl)
        have hcv := hS.val _ _ hcd
        obtain ⟨m1, ys, hg1, hs1, hp1, _⟩ := near_get (hN.same s1.gg) st.gh hnd hcur.1
        walk_at "go"
        refine r_ixL (lof hWz) (at_end2 hwl) ?_
        walk_at "go"
        refine r_dget' hg1 ?_
        refine lcL (M := M0) hs1 ?_ st.gh (fun i acc G' H' => G1 = G' ∧ acc = ((ys.take i).filter fun z => decide (dz fs z < (m : Int))).map V.str) (fun L hL => ⟨rfl, rfl⟩)
          (fun L i v acc G' H'' Em Sk hi hL hL' gL hacc st2 pv hv hEm hSk => ?_) (fun L acc G' H'' hL hacc st2 hL' gL pv => ?_)
        · rw [List.length_map, hp1.length_eq]
          unfold nb
          rw [List.length_map]
          exact Nat.lt_of_le_of_lt (List.length_filter_le _ _) (by omega)
        · obtain ⟨e, rfl⟩ := pv
          subst e
          obtain ⟨z, hz, rfl⟩ := map_get hv
          have hzn := hp1.mem_iff.mp (List.mem_of_getElem? hz)
          obtain ⟨⟨z', n⟩, hzp, e⟩ := List.mem_map.mp (hS.all _ _ (.succ hcv.1 hzn))
          cases e
          walk_at "go"
          refine ⟨rfl, ?_⟩
          walk_at "go"
          refine ⟨f, _, rfl, by rw [← kvN_get hS.nd hzp]; exact dg_str ((st2.gg.trans st2.gh) _ _ hf), ?_⟩
          walk_at "go"
          refine r_ixL (lof (st2.up _ _ (fun z => z) hWz)) (at_end2 hwl) ?_
          walk_at "go"
          refine ⟨f, _, rfl, by rw [← kvN_get hS.nd hcd]; exact dg_str ((st2.gg.trans st2.gh) _ _ hf), ?_⟩
          walk_at "go"
          have hdz := dz_of hS.nd hzp
          refine ifD (fun c => ?_) (fun c => ?_)
          · walk_at "go"
            refine hEm _ G1 H'' st2 hL' gL ⟨rfl, ?_⟩
            rw [take_succ_get hz, filt_yes (p := fun z => decide (dz fs z < (m : Int))) (decide_eq_true (by rw [hdz]; exact c)), List.map_append]
            rfl
          · refine hSk G1 H'' st2 hL' gL ⟨rfl, ?_⟩
            rw [take_succ_get hz, filt_no (p := fun z => decide (dz fs z < (m : Int))) (decide_eq_false (by rw [hdz]; exact c))]
        · obtain ⟨e, rfl⟩ := pv
          subst e
          rw [List.take_of_length_le (by rw [List.length_map]; exact Nat.le_refl _)] at hL'
          have hW3 := st2.up _ _ (fun z => z) hWz
          have st3 := st.trans st2
          obtain ⟨x, hx, hxd⟩ : ∃ x ∈ ys, dz fs x < (m : Int) := by
            cases hm : m with
            | zero =>
              rw [hm] at hcv
              exact absurd (wn_zero hcv.1) hcb
            | succ m' =>
              rw [hm] at hcv
              have h1 := hcv.1
              cases h1 with
              | @succ _ x _ h1 h2 =>
                have hxc : x ∈ nb es cur := nb_sym hll h2
                obtain ⟨⟨x', n⟩, hxp, e⟩ := List.mem_map.mp (hS.all _ _ h1)
                cases e
                refine ⟨_, hp1.mem_iff.mpr hxc, ?_⟩
                rw [dz_of hS.nd hxp]
                have := (hS.val _ _ hxp).2 _ h1
                omega
          cases hfl : ys.filter fun z => decide (dz fs z < (m : Int)) with
          | nil =>
            have := List.mem_filter (p := fun z => decide (dz fs z < (m : Int))) |>.mpr ⟨hx, decide_eq_true hxd⟩
            rw [hfl] at this
            cases this
          | cons y yr =>
            have hyf : y ∈ ys.filter fun z => decide (dz fs z < (m : Int)) := by rw [hfl]; exact List.mem_cons_self
            obtain ⟨hy1, hy2⟩ := List.mem_filter.mp hyf
            have hy2 := of_decide_eq_true hy2
            have hyn := hp1.mem_iff.mp hy1
            obtain ⟨⟨y', n⟩, hyp, e⟩ := List.mem_map.mp (hS.all _ _ (.succ hcv.1 hyn))
            cases e
            rw [dz_of hS.nd hyp] at hy2
            have hback := hcv.2 _ (.succ (hS.val _ _ hyp).1 (nb_sym hll hyn))
            have hnm : n + 1 = m := by omega
            rw [hfl] at hL'
            walk_at "go"
            refine r_ixL' (n := 0) (lof hL') rfl rfl ?_
            walk_at "go"
            refine c_append hW3 (small5 (by rw [List.length_map]; omega)) ?_
            walk_at "go"
            have hL1 : 1 ≤ ws.length := by
              cases ws with
              | nil => simp at hw0
              | cons _ _ => rw [List.length_cons]; omega
            refine ⟨n, by omega, ws ++ [y'], y', n, _, rfl, st3.inner (M' := M1 W) (Stp.mut st3.gh hW3 gW rfl) (fun b e => .inr (by rw [e]; exact hWH)), by rw [upd_same, List.map_append]; rfl, by rw [List.getElem?_append_left (by omega)]; exact hw0, ?_, hyp, fun i x1 x2 e1 e2 => ?_, by rw [List.length_append]; show ws.length + 1 + n = _; omega, ?_, fun z hz => ?_, rfl⟩
            · rw [List.length_append, List.getElem?_append_right (by show ws.length ≤ ws.length + 1 - 1; omega)]
              show [y'][ws.length + 1 - 1 - ws.length]? = _
              rw [show ws.length + 1 - 1 - ws.length = 0 by omega]
              rfl
            · rcases snoc_at e2 with ⟨e2', h2⟩ | ⟨h2, rfl⟩
              · rw [List.getElem?_append_left (by omega)] at e1
                exact hroad i x1 x2 e1 e2'
              · rw [List.getElem?_append_left (by omega), show i = ws.length - 1 by omega, hwl] at e1
                rw [← Option.some.inj e1]
                exact hyn
            · rw [List.nodup_append]
              exact ⟨hwn, List.nodup_cons.mpr ⟨fun z => (by cases z), List.nodup_nil⟩, fun c hc e he => by
                rw [List.mem_singleton.mp he]
                intro ec
                rw [ec] at hc
                have h := (hwr _ hc).2
                rw [dz_of hS.nd hyp] at h
                omega⟩
            · rcases List.mem_append.mp hz with hz | hz
              · exact ⟨(hwr z hz).1, by have := (hwr z hz).2; omega⟩
              · rw [List.mem_singleton.mp hz, dz_of hS.nd hyp]
                exact ⟨hin _ _ hyn, Int.le_refl _⟩
    · rw [kvN_none hk, show (none : Option V).isSome = false from rfl]
      walk_at "go"
      exact q1 G1 H1 s1 (fun n hn => hk (hS.all _ _ hn))
theorem nb_in {rs : List Str} {es : List Dr} (h : ∀ e ∈ es, e.1 ∈ rs ∧ e.2 ∈ rs ∧ e.1 ≠ e.2) {x z : Str} (m : z ∈ nb es x) : z ∈ rs := by
  rcases (mem_nb (fun e he => (h e he).2.2)).mp m with m | m
  · exact (h _ m).2.1
  · exact (h _ m).1
def spHouseWay (K : PySem.W.Frag) (C : Addr) : Sp := fun vs H Q _ => ∃ (h : Addr) (a b : Str) (rs : List Str) (es : List Dr) (G : Hp), vs = [.ref h, .str a, .str b] ∧ Same G H ∧ HouseIn K C G G h rs es ∧ rs.Nodup ∧ rs.length < 64 ∧ a ∈ rs ∧ b ∈ rs ∧ (∀ e ∈ es, e.1 ∈ rs ∧ e.2 ∈ rs ∧ e.1 ≠ e.2) ∧ es.length < 64 ∧
  (∀ G' H', Stp M0 G H G' H' → (∀ n, ¬ Wn es b n a) → Q .non H') ∧ ∀ t ws G' H', Stp M0 G H G' H' → SqT K G' t (ws.map V.str) → Way es a b ws → ws.length < 64 → Q (.ref t) H'
abbrev DHouseWay (P : Program) (w : World) (K : PySem.W.Frag) (mg : Str → Option Value) (base : Heap) (c_House : Addr) : Prop := Dm P w K mg base CX0 3 c_House "way" ["self", "one", "other"] (spHouseWay K c_House)
theorem ok_HouseWay {f : Addr} {fd : FuncData} (F : Fun K "way" "House.way" sHouseWay f fd) (M : Mgs mg) {c_House : Addr} (Z_House : HouseC K mg c_House) (D_House_need_room : DHouseNeedRoom P w K mg base c_House) (D_path : DPath P w K mg base) : FnOk P w K mg base CX0 3 f fd ["self", "one", "other"] (spHouseWay K c_House) := by
  refine F.ok scHouseWay (fun vs H Q E h => ?_) (fun cdv A outer s H vs Q E hr h => ?_)
  · obtain ⟨h, a, b, rs, es, G, rfl, _⟩ := h
    rfl
  · obtain ⟨h, a, b, rs, es, G, rfl, g0, hh, hnd, hl, ha, hb, hin, hel, q1, q2⟩ := h
    obtain ⟨dx, r, d, N, xs, hi, h1, h2, h3, h4⟩ := id hh
    refine ⟨_, ((pss_cons (ps_expr (pe_dm D_House_need_room Z_House.cl hr pass0 (pv 0) (pa_cons (pv 1) pa_nil)))
    (pss_cons (ps_expr (pe_dm D_House_need_room Z_House.cl hr pass0 (pv 0) (pa_cons (pv 2) pa_nil)))
    (pss_one (ps_ret (pe_df D_path hr (by rfl) pass0 (pa_cons (k_fld (K := K) rfl (pv 0)) (pa_cons (pv 1) (pa_cons (pv 2) pa_nil))))))))), ?_⟩
    walk_at "go0"
    refine ⟨h, dx, _, rfl, g0 _ _ hi, by rfl, ?_⟩
    walk_at "go"
    refine ⟨h, a, rs, es, G, rfl, g0, hh, ha, fun G1 H1 s1 => ?_⟩
    walk_at "go"
    have hh1 := hh.same s1.gg (fun o => s1.gg _ o)
    refine ⟨h, dx, _, rfl, s1.gh _ _ (s1.gg _ _ hi), by rfl, ?_⟩
    walk_at "go"
    refine ⟨h, b, rs, es, G1, rfl, s1.gh, hh1, hb, fun G2 H2 s2 => ?_⟩
    walk_at "go"
    have s12 := s1.trans s2
    refine hf_n Z_House (s12.gh _ _ (s12.gg _ _ hi)) ?_
    walk_at "go"
    exact ⟨N, a, b, rs, es, G2, rfl, s12.gh, h4.same s12.gg, hnd, hl, ha, hb, fun x z => nb_in hin, fun e he => (hin e he).2.2, hel, fun G' H' s3 => q1 G' H' (s12.trans s3), fun t ws G' H' s3 => q2 t ws G' H' (s12.trans s3)⟩
def spHouseSteps (K : PySem.W.Frag) (C : Addr) : Sp := fun vs H Q _ => ∃ (h : Addr) (a b : Str) (rs : List Str) (es : List Dr) (G : Hp), vs = [.ref h, .str a, .str b] ∧ Same G H ∧ HouseIn K C G G h rs es ∧ rs.Nodup ∧ rs.length < 64 ∧ a ∈ rs ∧ b ∈ rs ∧ (∀ e ∈ es, e.1 ∈ rs ∧ e.2 ∈ rs ∧ e.1 ≠ e.2) ∧ es.length < 64 ∧
  (∀ G' H', Stp M0 G H G' H' → (∀ n, ¬ Wn es b n a) → Q .non H') ∧ ∀ (n : Nat) G' H', Stp M0 G H G' H' → Wn es b n a → (∀ m, Wn es b m a → n ≤ m) → Q (.int (n : Int)) H'
abbrev DHouseSteps (P : Program) (w : World) (K : PySem.W.Frag) (mg : Str → Option Value) (base : Heap) (c_House : Addr) : Prop := Dm P w K mg base CX0 4 c_House "steps" ["self", "one", "other"] (spHouseSteps K c_House)
theorem ok_HouseSteps {f : Addr} {fd : FuncData} (F : Fun K "steps" "House.steps" sHouseSteps f fd) (M : Mgs mg) {c_House : Addr} (Z_House : HouseC K mg c_House) (D_House_way : DHouseWay P w K mg base c_House) : FnOk P w K mg base CX0 4 f fd ["self", "one", "other"] (spHouseSteps K c_House) := by
  refine F.ok scHouseSteps (fun vs H Q E h => ?_) (fun cdv A outer s H vs Q E hr h => ?_)
  · obtain ⟨h, a, b, rs, es, G, rfl, _⟩ := h
    rfl
  · obtain ⟨h, a, b, rs, es, G, rfl, g0, hh, hnd, hl, ha, hb, hin, hel, q1, q2⟩ := h
    obtain ⟨dx, r, d, N, xs, hi, _⟩ := id hh
    refine ⟨_, ((pss_cons (ps_set (i := 3) scHouseSteps.nd rfl (Or.inl rfl) (pe_dm D_House_way Z_House.cl hr pass0 (pv 0) (pa_cons (pv 1) (pa_cons (pv 2) pa_nil))))
    (pss_one (ps_ret (pe_ifExp (pt_cmpR op_isN (pv 3) pe_non (nomark _)) pe_non (pe_op op_sub (pe_callB (k_len (K := K) rfl) (by rfl) M.len PySem.boot_len (pa_cons (pv 3) pa_nil)) pe_int)))))), ?_⟩
    walk_at "go0"
    refine ⟨h, dx, _, rfl, g0 _ _ hi, by rfl, ?_⟩
    walk_at "go"
    refine ⟨h, a, b, rs, es, G, rfl, g0, hh, hnd, hl, ha, hb, hin, hel, fun G1 H1 s1 hno => ?_, fun t ws G1 H1 s1 ht hw hwl => ?_⟩
    · walk_at "go"
      refine ⟨rfl, _, rfl, ?_⟩
      rw [decide_eq_true rfl]
      walk_at "go"
      exact q1 G1 H1 s1 hno
    · walk_at "go"
      refine ⟨rfl, _, rfl, ?_⟩
      rw [decide_eq_false (show ¬ V.ref t = V.non from fun z => nomatch z)]
      walk_at "go"
      have hL1 : 1 ≤ ws.length := by
        cases ws with
        | nil => have := hw.first; simp at this
        | cons _ _ => rw [List.length_cons]; omega
      have e : ((ws.map V.str).length : Int) - 1 = ((ws.length - 1 : Nat) : Int) := by rw [List.length_map]; omega
      rw [e]
      exact q2 _ G1 H1 s1 hw.wn hw.few
end
abbrev sHungTogether : Stmt := topS 17
theorem scHungTogether : FnScope ["names", "near", "parts", "done", "name", "part", "other"] ["names", "near"] (defScope sHungTogether) := ⟨rfl, rfl, rfl, by decide +kernel, rfl, by decide +kernel, by decide +kernel⟩
abbrev sHouseParts : Stmt := inClass (topS 19) 11
theorem scHouseParts : FnScope ["self"] ["self"] (defScope sHouseParts) := ⟨rfl, rfl, rfl, by decide +kernel, rfl, by decide +kernel, by decide +kernel⟩
section
variable {P : Program} {w : World} {K : PySem.W.Frag} {mg : Str → Option Value} {base : Heap}
theorem partsOf_snoc_yes {es : List Dr} {rs xs : List Str} {b : Str} (h : Least es rs b) : partsOf es rs (xs ++ [b]) = partsOf es rs xs ++ [comp es rs b] := by
  unfold partsOf
  rw [List.filter_append, List.map_append, List.filter_cons_of_pos (by simpa using h)]
  rfl
theorem partsOf_snoc_no {es : List Dr} {rs xs : List Str} {b : Str} (h : ¬ Least es rs b) : partsOf es rs (xs ++ [b]) = partsOf es rs xs := by
  unfold partsOf
  rw [List.filter_append, List.map_append, List.filter_cons_of_neg (by simpa using h)]
  simp
/-- lists of texts that are new since H, none of them known -/
structure Rows (G' H' H : Hp) (ls : List Addr) (pss : List (List Str)) : Prop where
  len : ls.length = pss.length
  nd : ls.Nodup
  at_ : ∀ (i : Nat) (l : Addr) (ys : List Str), ls[i]? = some l → pss[i]? = some ys → H' l = some (.lst (ys.map V.str))
  new : ∀ l ∈ ls, G' l = none ∧ H l = none
def spHungTogether (K : PySem.W.Frag) : Sp := fun vs H Q _ => ∃ (a N : Addr) (rs : List Str) (es : List Dr) (G : Hp), vs = [.ref a, .ref N] ∧ Same G H ∧ SqT K G a (rs.map V.str) ∧ Near K G N rs es ∧ rs.Nodup ∧ sortedS rs = true ∧ rs.length < 64 ∧ (∀ x z, z ∈ nb es x → z ∈ rs) ∧ Loopless es ∧
  ∀ r ls G' H', Stp M0 G H G' H' → H' r = some (.lst (ls.map V.ref)) → G' r = none → H r = none → r ∉ ls → Rows G' H' H ls (partsOf es rs rs) → Q (.ref r) H'
abbrev DHungTogether (P : Program) (w : World) (K : PySem.W.Frag) (mg : Str → Option Value) (base : Heap) : Prop := Df P w K mg base CX0 2 "hung_together" ["names", "near"] (spHungTogether K)
theorem ok_HungTogether {f : Addr} {fd : FuncData} (F : Fun K "hung_together" "hung_together" sHungTogether f fd) (M : Mgs mg) (D_spans : DSpans P w K mg base) : FnOk P w K mg base CX0 2 f fd ["names", "near"] (spHungTogether K) := by
  refine F.ok scHungTogether (fun vs H Q E h => ?_) (fun cdv A outer s H vs Q E hr h => ?_)
  · obtain ⟨a, N, rs, es, G, rfl, _⟩ := h
    rfl
  · obtain ⟨a, N, rs, es, G, rfl, g0, ha, hN, hnd, hs, hl, hin, hll, q⟩ := h
    refine ⟨_, ((pss_cons (ps_set (i := 2) scHungTogether.nd rfl (Or.inl rfl) (pe_lst pa_nil))
    (pss_cons (ps_set (i := 3) scHungTogether.nd rfl (Or.inl rfl) (pe_callTy0 (k_set0K (P := P) (w := w) rfl rfl) (by rfl) M.set_ (by decide +kernel)))
    (pss_cons (ps_for PassesOwn.never rfl (k_pi_list (K := K) rfl (pe_callB (k_sortedQ (K := K) rfl) (by rfl) M.sorted (by decide +kernel) (pa_cons (pv 0) pa_nil))) (pg_name (i := 4) scHungTogether.nd rfl (Or.inl rfl))
    (pss_one (ps_if (pt_cmpR (k_snotinK (P := P) (w := w) rfl rfl) (pv 4) (pv 3) (by rfl))
    (pss_cons (ps_set (i := 5) scHungTogether.nd rfl (Or.inl rfl) (pe_callB (k_sortedD rfl) (by rfl) M.sorted (by decide +kernel) (pa_cons (pe_df D_spans hr (by rfl) pass0 (pa_cons (pv 1) (pa_cons (pv 4) pa_nil))) pa_nil)))
    (pss_cons (ps_for PassesOwn.never rfl (k_pi_list (K := K) rfl (pv 5)) (pg_name (i := 6) scHungTogether.nd rfl (Or.inl rfl))
    (pss_one (ps_expr (k_saddK (P := P) (w := w) rfl rfl (pv 3) (pa_cons (pv 6) pa_nil)))))
    (pss_one (ps_expr (k_bm (K := K) rfl PySem.F.plainAttrs_list PySem.F.slot_list_append PySem.F.type_list_append mt_append (pv 2) (pa_cons (pv 5) pa_nil))))))
    pss_nil)))
    (pss_one (ps_ret (pv 2))))))), ?_⟩
    walk_at "go0"
    refine ⟨Nat.zero_le _, fun R nR => ?_⟩
    have s1 : Stp M0 G H G (upd H R (.lst [])) := Stp.newM g0 nR
    have hR1 : (upd H R (.lst [])) R = some (.lst []) := upd_same
    have gR : G R = none := none_of g0 nR
    generalize upd H R (.lst []) = H1 at s1 hR1 ⊢
    walk_at "go"
    refine ⟨rfl, fun S nS => ?_⟩
    have s2 : Stp M0 G H G (upd H1 S (SetK P w S (fun _ => false) 0)) := s1.trans (Stp.newM s1.gh nS)
    have hS2 : (upd H1 S (SetK P w S (fun _ => false) 0)) S = some (SetK P w S (fun _ => false) 0) := upd_same
    have hR2 : (upd H1 S (SetK P w S (fun _ => false) 0)) R = some (.lst []) := by rw [upd_ne (ne_of_none hR1 nS)]; exact hR1
    have gS : G S = none := none_of s1.gh nS
    have hSH : H S = none := s1.free nS
    have nRS : R ≠ S := ne_of_none hR1 nS
    generalize upd H1 S (SetK P w S (fun _ => false) 0) = H2 at s2 hS2 hR2 ⊢
    walk_at "go"
    refine ⟨a, rs, rfl, .inr (Same.sqt s2.gh ha), hl, fun ys o hyp hys no => ?_⟩
    have ey : ys = rs := sorted_uniq hyp hys hs
    subst ey
    have s3 : Stp M0 G H (upd G o (.lst (ys.map V.str))) (upd H2 o (.lst (ys.map V.str))) := s2.trans (Stp.new s2.gh no)
    have ho3 : SqL K (upd G o (.lst (ys.map V.str))) o (ys.map V.str) := lof upd_same
    have hS3 : (upd H2 o (.lst (ys.map V.str))) S = some (SetK P w S (fun _ => false) 0) := by rw [upd_ne (ne_of_none hS2 no)]; exact hS2
    have hR3 : (upd H2 o (.lst (ys.map V.str))) R = some (.lst []) := by rw [upd_ne (ne_of_none hR2 no)]; exact hR2
    have gS3 : (upd G o (.lst (ys.map V.str))) S = none := by rw [upd_ne (ne_of_none hS2 no)]; exact gS
    have gR3 : (upd G o (.lst (ys.map V.str))) R = none := by rw [upd_ne (ne_of_none hR2 no)]; exact gR
    generalize upd G o (.lst (ys.map V.str)) = G3 at s3 ho3 gS3 gR3
    generalize upd H2 o (.lst (ys.map V.str)) = H3 at s3 hS3 hR3 ⊢
    walk_at "go"
    refine loopL (xs := ys.map V.str) (s3.gh.seq ho3) (fun i σ H' => ∃ (G' : Hp) (ls : List Addr) (T : Key → Bool) (n : Nat), ∃ y4 y5 y6, σ = [some (.ref a), some (.ref N), some (.ref R), some (.ref S), y4, y5, y6] ∧ Stp M0 G H G' H' ∧ Same G3 G' ∧ H' R = some (.lst (ls.map V.ref)) ∧ G' R = none ∧ R ∉ ls ∧
        H' S = some (SetK P w S T n) ∧ G' S = none ∧ n ≤ 64 * i ∧ (∀ z : Str, z ∈ ys → (T (.inr z) = true ↔ ∃ x ∈ ys.take i, Con es x z)) ∧ Rows G' H' H ls (partsOf es ys (ys.take i)))
      ⟨G3, [], _, 0, none, none, none, rfl, s3, Same.refl _, hR3, gR3, (fun h => by cases h), hS3, gS3, Nat.zero_le _, (fun z _ => by simp), ⟨by simp [partsOf], List.nodup_nil, (fun i l ys h => by simp at h), (fun _ h => by cases h)⟩⟩ (fun i σ H' _ pv => ?_) (fun i v σ H' hi hv pv => ?_) (fun σ H' pv => ?_)
    · obtain ⟨G', _, _, _, _, _, _, _, st, sg, _⟩ := pv
      exact (sg.trans st.gh).seq ho3
    · obtain ⟨G', ls, T, n, y4, y5, y6, rfl, st, sg, hRz, gRz, hRl, hSz, gSz, hn, hT, hW⟩ := pv
      obtain ⟨b, hb, rfl⟩ := map_get hv
      have hbm := List.mem_of_getElem? hb
      rw [List.length_map] at hi
      walk_at "go"
      refine ⟨.inr b, S, T, n, rfl, rfl, hSz, ?_⟩
      have e1 := take_succ_get hb
      have hLi := least_iff hll hnd hs hb
      cases hTb : T (.inr b) with
      | true =>
        walk_at "go"
        have hno : ¬ Least es ys b := fun h => by
          obtain ⟨x, hx, hc⟩ := (hT b hbm).mp hTb
          exact hLi.mp h x hx hc
        refine ⟨G', ls, T, n, _, _, _, rfl, st, sg, hRz, gRz, hRl, hSz, gSz, by omega, fun z hz => ?_, ?_⟩
        · rw [hT z hz, e1]
          constructor
          · rintro ⟨x, hx, hc⟩
            exact ⟨x, List.mem_append_left _ hx, hc⟩
          · rintro ⟨x, hx, hc⟩
            rcases List.mem_append.mp hx with hx | hx
            · exact ⟨x, hx, hc⟩
            · rw [List.mem_singleton.mp hx] at hc
              obtain ⟨x', hx', hc'⟩ := (hT b hbm).mp hTb
              exact ⟨x', hx', hc'.trans hc⟩
        · rw [e1, partsOf_snoc_no hno]
          exact hW
      | false =>
        rw [show (if (true : Bool) = true then !false else false) = true from rfl]
        walk_at "go"
        have hLb : Least es ys b := hLi.mpr fun x hx hc => by
          have h := (hT b hbm).mpr ⟨x, hx, hc⟩
          rw [hTb] at h
          cases h
        refine ⟨N, b, ys, es, G', rfl, st.gh, hN.same (s3.gg.trans sg), hnd, hl, hbm, hin, fun f fs G4 H4 s4 hf hSp => ?_⟩
        walk_at "go"
        refine ⟨f, kvN fs, fs.map Prod.fst, rfl, s4.gh _ _ hf, by unfold kvN; rw [List.map_map, List.map_map]; rfl, fun zs pp hzp hzs np => ?_⟩
        have ez : zs = comp es ys b := spans_comp hSp hnd hs hbm hin hzp hzs
        rw [ez]
        have hcl : (comp es ys b).length ≤ ys.length := List.length_filter_le _ _
        have hR4 := s4.up _ _ (fun z => z) hRz
        have hS4 := s4.up _ _ (fun z => z) hSz
        have gR4 : G4 R = none := (s4.fr _ _ hRz).trans gRz
        have gS4 : G4 S = none := (s4.fr _ _ hSz).trans gSz
        have st4 := st.trans s4
        have hpH : H pp = none := st4.free np
        have gp4 : G4 pp = none := none_of s4.gh np
        have nSp : S ≠ pp := ne_of_none hS4 np
        have nRp : R ≠ pp := ne_of_none hR4 np
        have st5 : Stp M0 G H G4 (upd H4 pp (.lst ((comp es ys b).map V.str))) := st4.trans (Stp.newM s4.gh np)
        have hp5 : (upd H4 pp (.lst ((comp es ys b).map V.str))) pp = some (.lst ((comp es ys b).map V.str)) := upd_same
        have hR5 : (upd H4 pp (.lst ((comp es ys b).map V.str))) R = some (.lst (ls.map V.ref)) := by rw [upd_ne nRp]; exact hR4
        have hS5 : (upd H4 pp (.lst ((comp es ys b).map V.str))) S = some (SetK P w S T n) := by rw [upd_ne nSp]; exact hS4
        have hrow : ∀ (k : Nat) (l : Addr) (zs : List Str), ls[k]? = some l → (partsOf es ys (ys.take i))[k]? = some zs → (upd H4 pp (.lst ((comp es ys b).map V.str))) l = some (.lst (zs.map V.str)) ∧ l ≠ S ∧ l ≠ pp := fun k l zs h1 h2 => by
          have h3 := s4.up _ _ (fun z => z) (hW.at_ k l zs h1 h2)
          have h4 : l ≠ pp := ne_of_none h3 np
          have h5 : l ≠ S := fun e => by
            rw [e, hS4] at h3
            unfold SetK at h3
            cases h3
          exact ⟨by rw [upd_ne h4]; exact h3, h5, h4⟩
        generalize upd H4 pp (.lst ((comp es ys b).map V.str)) = H5 at st5 hp5 hR5 hS5 hrow ⊢
        walk_at "go"
        refine loopL (xs := (comp es ys b).map V.str) (lof hp5) (fun j σ H6 => ∃ (T' : Key → Bool) (n' : Nat), ∃ y6, σ = [some (.ref a), some (.ref N), some (.ref R), some (.ref S), some (.str b), some (.ref pp), y6] ∧ Stp M0 G H G4 H6 ∧ (∀ x, x ≠ S → H6 x = H5 x) ∧
            H6 S = some (SetK P w S T' n') ∧ n' ≤ n + j ∧ ∀ z : Str, T' (.inr z) = (T (.inr z) || decide (z ∈ (comp es ys b).take j))) ⟨T, n, _, rfl, st5, (fun _ _ => rfl), hS5, Nat.le_refl _, fun z => by simp⟩ (fun j σ H6 _ pv => ?_) (fun j v σ H6 hj hv pv => ?_) (fun σ H6 pv => ?_)
        · obtain ⟨_, _, _, _, _, hx, _⟩ := pv
          exact lof ((hx pp nSp.symm).trans hp5)
        · obtain ⟨T', n', y6, rfl, st6, hx6, hS6, hn6, hT6⟩ := pv
          obtain ⟨c, hc, rfl⟩ := map_get hv
          rw [List.length_map] at hj
          walk_at "go"
          refine ⟨⟨S, T', n', rfl, hS6⟩, ?_⟩
          walk_at "go"
          refine ⟨S, .inr c, T', n', rfl, rfl, hS6, Nat.lt_of_lt_of_le (show n' + 1 < 4096 by omega) (by decide), ?_⟩
          walk_at "go"
          refine ⟨_, _, _, rfl, st6.inner (M' := M1 S) (Stp.mut st6.gh hS6 gS4 rfl) (fun b e => .inr (by rw [e]; exact hSH)), fun x hx => by rw [upd_ne hx]; exact hx6 x hx, upd_same, ?_, fun z => ?_⟩
          · split <;> omega
          · rw [hT6, take_succ_get hc]
            have e : decide ((Sum.inr z : Key) = Sum.inr c) = decide (z = c) := decide_eq_decide.mpr ⟨fun e => Sum.inr.inj e, fun e => by rw [e]⟩
            rw [e, Bool.or_assoc, ← Bool.decide_or]
            congr 1
            exact decide_eq_decide.mpr (by rw [List.mem_append, List.mem_singleton])
        · obtain ⟨T', n', y6, rfl, st6, hx6, hS6, hn6, hT6⟩ := pv
          rw [List.length_map] at hn6 hT6
          rw [List.take_length] at hT6
          have hR6 := (hx6 R nRS).trans hR5
          walk_at "go"
          have hls : ls.length ≤ 64 := by
            rw [hW.len]
            unfold partsOf
            rw [List.length_map]
            exact Nat.le_trans (List.length_filter_le _ _) (by rw [List.length_take]; omega)
          refine c_append hR6 (small5 (by rw [List.length_map]; omega)) ?_
          walk_at "go"
          refine ⟨G4, ls ++ [pp], T', n', _, _, _, rfl, st6.inner (M' := M1 R) (Stp.mut st6.gh hR6 gR4 rfl) (fun b e => .inr (by rw [e]; exact nR)), sg.trans s4.gg, by rw [upd_same, List.map_append]; rfl, gR4, ?_, by rw [upd_ne nRS.symm]; exact hS6, gS4, by omega, fun z hz => ?_, ?_⟩
          · rw [List.mem_append, List.mem_singleton, not_or]
            exact ⟨hRl, nRp⟩
          · rw [hT6, e1, Bool.or_eq_true, decide_eq_true_eq, hT z hz, comp_mem]
            constructor
            · rintro (⟨x, hx, hc⟩ | ⟨_, hc⟩)
              · exact ⟨x, List.mem_append_left _ hx, hc⟩
              · exact ⟨b, List.mem_append_right _ (by simp), hc⟩
            · rintro ⟨x, hx, hc⟩
              rcases List.mem_append.mp hx with hx | hx
              · exact .inl ⟨x, hx, hc⟩
              · rw [List.mem_singleton.mp hx] at hc
                exact .inr ⟨hz, hc⟩
          · rw [e1, partsOf_snoc_yes hLb]
            have hpl : pp ∉ ls := fun h => by
              obtain ⟨k, hk, ek⟩ := List.getElem_of_mem h
              have h2 := List.getElem?_eq_getElem (l := partsOf es ys (ys.take i)) (i := k) (by rw [← hW.len]; exact hk)
              exact (hrow k pp _ (by rw [List.getElem?_eq_getElem hk, ek]) h2).2.2 rfl
            refine ⟨by rw [List.length_append, List.length_append, hW.len]; rfl, ?_, fun k l zs h1 h2 => ?_, fun l h => ?_⟩
            · rw [List.nodup_append]
              exact ⟨hW.nd, List.nodup_cons.mpr ⟨fun z => (by cases z), List.nodup_nil⟩, fun c hc e he => by
                rw [List.mem_singleton.mp he]
                exact fun ec => hpl (ec ▸ hc)⟩
            · have hlR : l ≠ R := fun e => by
                have hm := List.mem_of_getElem? h1
                rw [e, List.mem_append, List.mem_singleton] at hm
                rcases hm with hm | hm
                · exact hRl hm
                · exact nRp hm
              rw [upd_ne hlR]
              rcases snoc_at h1 with ⟨h1', hk⟩ | ⟨rfl, rfl⟩
              · rw [List.getElem?_append_left (by rw [← hW.len]; exact hk)] at h2
                obtain ⟨a1, a2, _⟩ := hrow k l zs h1' h2
                exact (hx6 l a2).trans a1
              · rw [List.getElem?_append_right (by rw [hW.len]; exact Nat.le_refl _), hW.len, Nat.sub_self] at h2
                cases Option.some.inj h2
                exact (hx6 _ nSp.symm).trans hp5
            · rcases List.mem_append.mp h with h | h
              · obtain ⟨k, hk, ek⟩ := List.getElem_of_mem h
                have h2 := List.getElem?_eq_getElem (l := partsOf es ys (ys.take i)) (i := k) (by rw [← hW.len]; exact hk)
                have h3 := hW.at_ k l _ (by rw [List.getElem?_eq_getElem hk, ek]) h2
                exact ⟨(s4.fr _ _ h3).trans (hW.new l h).1, (hW.new l h).2⟩
              · rw [List.mem_singleton.mp h]
                exact ⟨gp4, hpH⟩
    · obtain ⟨G', ls, T, n, y4, y5, y6, rfl, st, sg, hRz, gRz, hRl, hSz, gSz, hn, hT, hW⟩ := pv
      rw [List.length_map, List.take_length] at hW
      walk_at "go"
      exact q R ls G' H' st hRz gRz nR hRl hW
def spHouseParts (K : PySem.W.Frag) (C : Addr) : Sp := fun vs H Q _ => ∃ (h : Addr) (rs : List Str) (es : List Dr) (G : Hp), vs = [.ref h] ∧ Same G H ∧ HouseIn K C G G h rs es ∧ rs.Nodup ∧ sortedS rs = true ∧ rs.length < 64 ∧ (∀ e ∈ es, e.1 ∈ rs ∧ e.2 ∈ rs ∧ e.1 ≠ e.2) ∧
  ∀ r ls G' H', Stp M0 G H G' H' → H' r = some (.lst (ls.map V.ref)) → G' r = none → H r = none → r ∉ ls → Rows G' H' H ls (partsOf es rs rs) → Q (.ref r) H'
abbrev DHouseParts (P : Program) (w : World) (K : PySem.W.Frag) (mg : Str → Option Value) (base : Heap) (c_House : Addr) : Prop := Dm P w K mg base CX0 3 c_House "parts" ["self"] (spHouseParts K c_House)
theorem ok_HouseParts {f : Addr} {fd : FuncData} (F : Fun K "parts" "House.parts" sHouseParts f fd) (M : Mgs mg) {c_House : Addr} (Z_House : HouseC K mg c_House) (D_hung_together : DHungTogether P w K mg base) : FnOk P w K mg base CX0 3 f fd ["self"] (spHouseParts K c_House) := by
  refine F.ok scHouseParts (fun vs H Q E h => ?_) (fun cdv A outer s H vs Q E hr h => ?_)
  · obtain ⟨h, rs, es, G, rfl, _⟩ := h
    rfl
  · obtain ⟨h, rs, es, G, rfl, g0, ⟨dx, r, d, N, xs, hi, h1, h2, h3, h4⟩, hnd, hs, hl, hin, q⟩ := h
    refine ⟨_, ((pss_one (ps_ret (pe_df D_hung_together hr (by rfl) pass0 (pa_cons (k_fld (K := K) rfl (pv 0)) (pa_cons (k_fld (K := K) rfl (pv 0)) pa_nil)))))), ?_⟩
    walk_at "go0"
    refine hf_r Z_House (g0 _ _ hi) ?_
    walk_at "go"
    refine hf_n Z_House (g0 _ _ hi) ?_
    walk_at "go"
    exact ⟨r, N, rs, es, G, rfl, g0, h1, h4, hnd, hs, hl, fun x z => nb_in hin, fun e he => (hin e he).2.2, q⟩
end
local macro_rules | `(tactic| walk_at "u1") => `(tactic| first
  | with_reducible refine r_din ?_ | with_reducible refine r_dnotin ?_)
abbrev sReach : Stmt := topS 33
theorem scReach : FnScope ["_law_yard_here", "_law_begin", "_law_found", "_law_line", "_law_at", "_law_room"] ["_law_yard_here", "_law_begin"] (defScope sReach) := ⟨rfl, rfl, rfl, by decide +kernel, rfl, by decide +kernel, by decide +kernel⟩
theorem val_none2 {kvs : List (Key × V)} {xs : List Str} {z : Str} (h : kvs.map (·.1) = xs.map Sum.inr) : (valV kvs (Sum.inr z)).isSome = decide (z ∈ xs) := by
  rw [← valV_any]
  by_cases hz : z ∈ xs
  · rw [decide_eq_true hz, List.any_eq_true]
    have h1 : (Sum.inr z : Key) ∈ kvs.map (·.1) := by rw [h]; exact List.mem_map.mpr ⟨z, hz, rfl⟩
    obtain ⟨kv, hk, e⟩ := List.mem_map.mp h1
    exact ⟨kv, hk, decide_eq_true e⟩
  · rw [decide_eq_false hz, List.any_eq_false]
    intro kv hk
    rw [decide_eq_true_eq]
    intro e
    have h1 : kv.1 ∈ kvs.map (·.1) := List.mem_map.mpr ⟨kv, hk, rfl⟩
    rw [h, e] at h1
    obtain ⟨x, hx, e2⟩ := List.mem_map.mp h1
    exact hz (by rw [← Sum.inr.inj e2]; exact hx)
/-- by each room found its walk, of just as many steps -/
structure RqK (K : PySem.W.Frag) (G : Hp) (kvs : List (Key × V)) (fs : List (Str × Nat)) : Prop where
  ks : kvs.map (·.1) = (fs.map Prod.fst).map Sum.inr
  wk : ∀ z n, (z, n) ∈ fs → ∃ (t : Addr) (ws : List Str), valV kvs (Sum.inr z) = some (.ref t) ∧ SqT K G t (ws.map V.str) ∧ ws.length = n + 1 ∧ ws.length ≤ fs.length
theorem RqK.same {K : PySem.W.Frag} {G G' : Hp} {kvs : List (Key × V)} {fs : List (Str × Nat)} (e : Same G G') (h : RqK K G kvs fs) : RqK K G' kvs fs :=
  ⟨h.ks, fun z n hz => by obtain ⟨t, ws, h1, h2, h3⟩ := h.wk z n hz; exact ⟨t, ws, h1, Same.sqt e h2, h3⟩⟩
theorem RqK.klen {K : PySem.W.Frag} {G : Hp} {kvs : List (Key × V)} {fs : List (Str × Nat)} (h : RqK K G kvs fs) : kvs.length = fs.length := by
  have e := congrArg List.length h.ks
  rwa [List.length_map, List.length_map, List.length_map] at e
theorem RqK.snoc {K : PySem.W.Frag} {G : Hp} {z : Str} {k : Nat} {t : Addr} {ws : List Str} {kvs : List (Key × V)} {fs : List (Str × Nat)} (h : RqK K G kvs fs) (hz : ¬ z ∈ fs.map Prod.fst) (ht : SqT K G t (ws.map V.str)) (hw : ws.length = k + 1) (hl : ws.length ≤ fs.length + 1) :
    RqK K G (putK kvs (Sum.inr z) (.ref t)) (fs ++ [(z, k)]) := by
  have hn : valV kvs (Sum.inr z) = none := by
    have e := val_none2 (z := z) h.ks
    rw [decide_eq_false hz] at e
    cases q : valV kvs (Sum.inr z) with
    | none => rfl
    | some _ => rw [q] at e; cases e
  rw [L2.putK_new _ hn]
  refine ⟨?_, ?_⟩
  · rw [List.map_append, h.ks, List.map_append, List.map_append]
    rfl
  · intro x n hx
    rw [valV_snoc _ _ _ _ hn, List.length_append]
    rcases List.mem_append.mp hx with hx | hx
    · obtain ⟨t', ws', h1, h2, h3, h4⟩ := h.wk x n hx
      have hne : ¬ (Sum.inr x : Key) = Sum.inr z := fun e => hz (by rw [← Sum.inr.inj e]; exact List.mem_map.mpr ⟨_, hx, rfl⟩)
      rw [if_neg hne]
      exact ⟨t', ws', h1, h2, h3, Nat.le_succ_of_le h4⟩
    · rw [List.mem_singleton] at hx
      cases hx
      rw [if_pos rfl]
      exact ⟨t, ws, rfl, ht, hw, hl⟩
def spReach (K : PySem.W.Frag) : Sp := fun vs H Q _ => ∃ (y : Addr) (b : Str) (rs : List Str) (ds : List Dr) (G : Hp), vs = [.ref y, .str b] ∧ Same G H ∧ Yard K G y rs ds ∧ ds.length < 64 ∧ rs.length < 64 ∧ b ∈ rs ∧ (∀ x z, z ∈ nb ds x → z ∈ rs) ∧
  ∀ r kvs fs G' H', Stp M0 G H G' H' → G' r = some (.dK kvs) → RqK K G' kvs fs → Spans ds b fs → Q (.ref r) H'
abbrev DReach (P : Program) (w : World) (K : PySem.W.Frag) (mg : Str → Option Value) (base : Heap) : Prop := Df P w K mg base CX0 2 "_law_reach" ["_law_yard_here", "_law_begin"] (spReach K)
section
variable {P : Program} {w : World} {K : PySem.W.Frag} {mg : Str → Option Value} {base : Heap}
theorem ok_Reach {f : Addr} {fd : FuncData} (F : Fun K "_law_reach" "_law_reach" sReach f fd) (M : Mgs mg) (D_near : DNear P w K mg base) : FnOk P w K mg base CX0 2 f fd ["_law_yard_here", "_law_begin"] (spReach K) := by
  refine F.ok scReach (fun vs H Q E h => ?_) (fun cdv A outer s H vs Q E hr h => ?_)
  · obtain ⟨y, b, rs, ds, G, rfl, _⟩ := h
    rfl
  · obtain ⟨y, b, rs, ds, G, rfl, g0, hy, hl, hrl, hb, hin, q⟩ := h
    have hu := hu_of hr
    refine ⟨_, ((pss_cons (ps_par3 (i := 2) (j := 3) (l := 4) (by rfl) scReach.nd rfl rfl rfl (by decide) (by decide) (by decide) rfl rfl rfl (pa_cons (pe_disp (pps_cons (pv 1) (pe_tup (pa_cons (pv 1) pa_nil)) pps_nil) (by rfl) (by rfl) (fun z => by cases z) (by decide)) (pa_cons (pe_lst (pa_cons (pv 1) pa_nil)) (pa_cons pe_int pa_nil))) (by rfl))
    (pss_cons (ps_while PassesOwn.never (pt_cmpR op_lt (pv 4) (pe_callB (k_len (K := K) rfl) (by rfl) M.len PySem.boot_len (pa_cons (pv 3) pa_nil)) (nomark _))
    (pss_cons (ps_for PassesOwn.never rfl (k_pi_list (K := K) rfl (pe_df D_near hr (by rfl) pass0 (pa_cons (pv 0) (pa_cons (pe_ix (k_ix_list (K := K) rfl) (pv 3) (pv 4) (fun _ _ => rfl)) pa_nil)))) (pg_name (i := 5) scReach.nd rfl (Or.inl rfl))
    (pss_one (ps_if (pt_cmp (pc_dnotin hu (pv 5) (pv 2)))
    (pss_cons (ps_dput hu (pv 2) (pv 5) (pe_op (k_op_catA (K := K) rfl) (pe_dget hu (pv 2) (pe_ix (k_ix_list (K := K) rfl) (pv 3) (pv 4) (fun _ _ => rfl)) (fun _ _ => rfl)) (pe_tup (pa_cons (pv 5) pa_nil))) rfl)
    (pss_one (ps_expr (k_bm (K := K) rfl PySem.F.plainAttrs_list PySem.F.slot_list_append PySem.F.type_list_append mt_append (pv 3) (pa_cons (pv 5) pa_nil)))))
    pss_nil)))
    (pss_one (ps_set (i := 4) scReach.nd rfl (Or.inl rfl) (pe_op op_add (pv 4) pe_int)))))
    (pss_one (ps_ret (pv 2)))))), ?_⟩
    walk_at "go0"
    intro d nd
    walk_at "go"
    refine ⟨by show 1 ≤ sizeLine; decide, fun t nt => ?_⟩
    walk_at "go"
    have s1 : Stp M0 G H G (upd H d (.dK [])) := Stp.newM g0 nd
    have hd1 : (upd H d (.dK [])) d = some (.dK []) := upd_same
    have gd1 : G d = none := none_of g0 nd
    have s2 := s1.trans (Stp.new (M := M0) (x := .tup ([b].map V.str)) s1.gh nt)
    have hd2 : (upd (upd H d (.dK [])) t (.tup ([b].map V.str))) d = some (.dK []) := by rw [upd_ne (ne_of_none hd1 nt)]; exact hd1
    have gd2 : (upd G t (.tup ([b].map V.str))) d = none := by rw [upd_ne (ne_of_none hd1 nt)]; exact gd1
    have ht2 : (upd G t (.tup ([b].map V.str))) t = some (.tup ([b].map V.str)) := upd_same
    refine ⟨hd2, [(Sum.inr b, .ref t)], rfl, by show 1 ≤ 15; decide, ?_⟩
    have em : mergeK [] [((Sum.inr b : Key), V.ref t)] = [(Sum.inr b, V.ref t)] := rfl
    rw [em]
    have s3 := s2.inner (M' := M1 d) (Stp.mut (x := .dK [(Sum.inr b, V.ref t)]) s2.gh hd2 gd2 rfl) (fun a e => .inr (by rw [e]; exact nd))
    have hd3 : (upd (upd (upd H d (.dK [])) t (.tup ([b].map V.str))) d (.dK [(Sum.inr b, V.ref t)])) d = some (.dK [(Sum.inr b, V.ref t)]) := upd_same
    show tCons _ _ _ (upd (upd (upd H d (.dK [])) t (.tup ([b].map V.str))) d (.dK [(Sum.inr b, V.ref t)])) _
    generalize upd (upd (upd H d (.dK [])) t (.tup ([b].map V.str))) d (.dK [(Sum.inr b, V.ref t)]) = H3 at s3 hd3 ⊢
    generalize upd G t (.tup ([b].map V.str)) = G3 at s3 gd2 ht2
    clear s1 s2 hd1 hd2
    walk_at "go"
    refine ⟨by show 1 ≤ sizeLine; decide, fun l nl => ?_⟩
    have s4 := s3.trans (Stp.newM (M := M0) (x := .lst ([b].map V.str)) s3.gh nl)
    have hd4 : (upd H3 l (.lst ([b].map V.str))) d = some (.dK [(Sum.inr b, V.ref t)]) := by rw [upd_ne (ne_of_none hd3 nl)]; exact hd3
    have hl4 : (upd H3 l (.lst ([b].map V.str))) l = some (.lst ([b].map V.str)) := upd_same
    have gl4 : G3 l = none := none_of s3.gh nl
    have nl0 : H l = none := s3.free nl
    have hdl : d ≠ l := ne_of_none hd3 nl
    show tCons _ _ _ (upd H3 l (.lst ([b].map V.str))) _
    generalize upd H3 l (.lst ([b].map V.str)) = H4 at s4 hd4 hl4 ⊢
    have hR : RqK K G3 [(Sum.inr b, V.ref t)] [(b, 0)] := by
      refine ⟨rfl, fun z n hz => ?_⟩
      rw [List.mem_singleton] at hz
      cases hz
      exact ⟨t, [b], valV_pos rfl, tof ht2, rfl, by simp⟩
    have fln : ∀ {fs at_}, Que ds b fs at_ → fs.length < 64 := fun {fs at_} hq => by
      have h := nd_le2 (L := rs) hq.nd (fun z hz => by
        obtain ⟨⟨x, n⟩, hp, e⟩ := List.mem_map.mp hz
        cases e
        exact (hq.val _ _ hp).1.inn hb hin)
      rw [List.length_map] at h
      omega
    walk_at "go"
    refine while_k (fun m σ H' => ∃ (at_ : Nat), ∃ kvs, ∃ (xs : List (Str × Nat)), ∃ G' y5, σ = [some (.ref y), some (.str b), some (.ref d), some (.ref l), some (.int (at_ : Int)), y5] ∧ Stp M0 G H G' H' ∧ H' d = some (.dK kvs) ∧ H' l = some (.lst ((xs.map Prod.fst).map V.str)) ∧ G' d = none ∧ G' l = none ∧ RqK K G' kvs xs ∧ Que ds b xs at_ ∧ at_ ≤ xs.length ∧ m + at_ = 200)
      200 ⟨0, _, [(b, 0)], G3, none, rfl, s4, hd4, hl4, gd2, gl4, hR, Que.start ds b, Nat.zero_le _, rfl⟩ (fun m σ H' pv Ct hT hF => ?_)
    obtain ⟨at_, kvs, xs, G', y5, rfl, st, hd', hl', gd', gl', hR', hQ', hat, hm⟩ := pv
    have hxl := fln hQ'
    clear s3 s4 hd3 hd4 hl4 hR
    walk_at "go"
    by_cases hc : at_ < xs.length
    · rw [decide_eq_true (by rw [List.length_map, List.length_map]; omega)]
      refine hT H' ?_
      obtain ⟨⟨x, kx⟩, hx⟩ : ∃ x, xs[at_]? = some x := ⟨_, List.getElem?_eq_getElem hc⟩
      walk_at "go"
      refine r_ixL' (n := at_) (lof hl') rfl (by rw [List.getElem?_map, List.getElem?_map, hx]; rfl) ?_
      walk_at "go"
      refine use_near st.gh (hy.same st.gg) hl (fun r2 ys G2 H2 s2 h2 p2 _ => ?_)
      walk_at "go"
      refine loopL (s2.gh.seq h2) (fun i σ H'' => ∃ kvs, ∃ (xs : List (Str × Nat)), ∃ G'' y5, σ = [some (.ref y), some (.str b), some (.ref d), some (.ref l), some (.int (at_ : Int)), y5] ∧ Stp M0 G H G'' H'' ∧ H'' d = some (.dK kvs) ∧ H'' l = some (.lst ((xs.map Prod.fst).map V.str)) ∧ G'' d = none ∧ G'' l = none ∧ RqK K G'' kvs xs ∧ Que ds b xs at_ ∧ xs[at_]? = some (x, kx) ∧ SqL K G'' r2 (ys.map V.str) ∧ ∀ a ∈ ys.take i, a ∈ xs.map Prod.fst)
        ⟨kvs, xs, G2, y5, rfl, st.trans s2, s2.up _ _ (fun z => z) hd', s2.up _ _ (fun z => z) hl', (s2.fr _ _ hd').trans gd', (s2.fr _ _ hl').trans gl', hR'.same s2.gg, hQ', hx, h2, (fun a ha => (by cases ha))⟩ (fun i σ H'' _ pv => ?_) (fun i v σ H'' hi hv pv => ?_) (fun σ H'' pv => ?_)
      · obtain ⟨_, _, _, _, _, s5, _, _, _, _, _, _, _, hs, _⟩ := pv
        exact s5.gh.seq hs
      · obtain ⟨kvs, xs, G'', y5, rfl, s5, hd5, hl5, gd5, gl5, hR5, hQ5, hx5, hs5, hsome⟩ := pv
        obtain ⟨e, he, rfl⟩ := map_get hv
        have hen : e ∈ nb ds x := p2.mem_iff.mp (List.mem_of_getElem? he)
        have hxl5 := fln hQ5
        have eys := take_succ_get he
        walk_at "go"
        refine ⟨d, _, rfl, dg_str hd5, ?_⟩
        walk_at "go"
        rw [val_none2 hR5.ks]
        by_cases hmem : e ∈ xs.map Prod.fst
        · rw [decide_eq_true hmem]
          walk_at "go"
          refine ⟨kvs, xs, G'', _, rfl, s5, hd5, hl5, gd5, gl5, hR5, hQ5, hx5, hs5, fun a ha => ?_⟩
          rw [eys] at ha
          rcases List.mem_append.mp ha with ha | ha
          · exact hsome a ha
          · rw [List.mem_singleton.mp ha]; exact hmem
        · rw [decide_eq_false hmem]
          walk_at "go"
          refine r_ixL' (n := at_) (lof hl5) rfl (by rw [List.getElem?_map, List.getElem?_map, hx5]; rfl) ?_
          obtain ⟨t6, ws, hv2, ht6, hw6, hn6⟩ := hR5.wk x kx (List.mem_of_getElem? hx5)
          refine ⟨d, _, rfl, by rw [← hv2]; exact dg_str hd5, ?_⟩
          walk_at "go"
          refine ⟨by show 1 ≤ sizeLine; decide, fun t7 nt7 => ?_⟩
          have s7 := Stp.new (M := M0) (x := .tup ([e].map V.str)) s5.gh nt7
          have ht7 : SqT K (upd G'' t7 (.tup ([e].map V.str))) t7 ([e].map V.str) := tof upd_same
          have ht6' := Same.sqt s7.gg ht6
          show rCatA K _ _ (upd H'' t7 (.tup ([e].map V.str))) _
          generalize upd G'' t7 (.tup ([e].map V.str)) = G7 at s7 ht7 ht6'
          generalize upd H'' t7 (.tup ([e].map V.str)) = H7 at s7 ⊢
          refine kn_cat s7.gh ht6' ht7 (Nat.le_of_lt (small5 (by rw [List.length_map, List.length_map]; show ws.length + 1 ≤ _; omega))) (fun r8 G8 H8 s8 h8 => ?_)
          rw [← List.map_append] at h8
          have s8' := s7.trans s8
          have hd8 := s8'.up _ _ (fun z => z) hd5
          have hl8 := s8'.up _ _ (fun z => z) hl5
          have gd8 : G8 d = none := (s8'.fr _ _ hd5).trans gd5
          have gl8 : G8 l = none := (s8'.fr _ _ hl5).trans gl5
          have hR8 := (hR5.same s8'.gg).snoc (z := e) (k := kx + 1) hmem h8 (by rw [List.length_append, hw6]; rfl) (by rw [List.length_append]; exact Nat.succ_le_succ hn6)
          have hQ8 := hQ5.add hx5 hen hmem
          have s9 := (s5.trans s8').inner (M' := M1 d) (Stp.mut (x := .dK (putK kvs (Sum.inr e) (.ref r8))) s8'.gh hd8 gd8 rfl) (fun a e => .inr (by rw [e]; exact nd))
          walk_at "go"
          refine ⟨d, _, rfl, dp_str hd8 (small5 (by rw [hR5.klen]; omega)), ?_⟩
          have hl9 : (upd H8 d (.dK (putK kvs (Sum.inr e) (.ref r8)))) l = some (.lst ((xs.map Prod.fst).map V.str)) := by rw [upd_ne (Ne.symm hdl)]; exact hl8
          have hd9 : (upd H8 d (.dK (putK kvs (Sum.inr e) (.ref r8)))) d = some (.dK (putK kvs (Sum.inr e) (.ref r8))) := upd_same
          generalize upd H8 d (.dK (putK kvs (Sum.inr e) (.ref r8))) = H9 at s9 hl9 hd9 ⊢
          walk_at "go"
          refine c_append hl9 (small5 (by rw [List.length_map, List.length_map]; omega)) ?_
          have s10 := s9.inner (M' := M1 l) (Stp.mut (x := .lst (((xs ++ [(e, kx + 1)]).map Prod.fst).map V.str)) s9.gh hl9 gl8 rfl) (fun a e => .inr (by rw [e]; exact nl0))
          rw [List.map_append, List.map_append] at s10
          have hatl : at_ < xs.length := (List.getElem?_eq_some_iff.mp hx5).1
          refine ⟨_, xs ++ [(e, kx + 1)], G8, _, rfl, s10, by rw [upd_ne hdl]; exact hd9, by rw [upd_same, List.map_append, List.map_append]; rfl, gd8, gl8, hR8, hQ8, by rw [List.getElem?_append_left hatl]; exact hx5, s8'.gg.seq hs5, fun a ha => ?_⟩
          rw [eys] at ha
          rw [List.map_append]
          rcases List.mem_append.mp ha with ha | ha
          · exact List.mem_append_left _ (hsome a ha)
          · rw [List.mem_singleton.mp ha]; exact List.mem_append_right _ (by simp)
      · obtain ⟨kvs, xs, G'', y5, rfl, s5, hd5, hl5, gd5, gl5, hR5, hQ5, hx5, hs5, hsome⟩ := pv
        walk_at "go"
        have hat5 : at_ < xs.length := (List.getElem?_eq_some_iff.mp hx5).1
        rw [List.length_map, List.take_length] at hsome
        exact ⟨m - 1, by omega, at_ + 1, kvs, xs, G'', y5, rfl, s5, hd5, hl5, gd5, gl5, hR5, hQ5.next hx5 (fun a ha => hsome a (p2.mem_iff.mpr ha)), hat5, by omega⟩
    · rw [decide_eq_false (by rw [List.length_map, List.length_map]; omega)]
      refine hF H' ?_
      walk_at "go"
      exact q d kvs xs (upd G' d (.dK kvs)) H' (st.freeze hd' nd gd') upd_same (hR'.same (same_new gd')) (hQ'.end (by omega))
end
local macro_rules | `(tactic| walk_at "u1") => `(tactic| first
  | with_reducible refine r_din ?_ | with_reducible refine r_dnotin ?_)
abbrev sLaw : Stmt := topS 35
theorem scLaw : FnScope ["_law_script", "_law_pen_here", "_law_turn", "_law_yard_here", "_law_house_here", "_law_masses", "_law_room", "_law_reach_here", "_law_other", "_law_due", "_law_road", "_law_k", "_law_again", "_law_told", "_law_door"] ["_law_script"] (defScope sLaw) := ⟨rfl, rfl, rfl, by decide +kernel, rfl, by decide +kernel, by decide +kernel⟩
section
variable {P : Program} {w : World} {K : PySem.W.Frag} {mg : Str → Option Value} {base : Heap}
def spLaw (K : PySem.W.Frag) : Sp := fun vs H Q _ => ∃ (a : Addr) (ns : List Int), vs = [.ref a] ∧ SqL K H a (ns.map V.int) ∧ ns.length ≤ 63 ∧ ∀ H', Q (.bl true) H'
abbrev DLaw (P : Program) (w : World) (K : PySem.W.Frag) (mg : Str → Option Value) (base : Heap) : Prop := Df P w K mg base CX0 6 "law" ["_law_script"] (spLaw K)
theorem ok_Law {f : Addr} {fd : FuncData} (F : Fun K "law" "law" sLaw f fd) (M : Mgs mg) {c_House : Addr} (Z_House : HouseC K mg c_House) (D_pen : DPen P w K mg base) (D_draw : DDraw P w K mg base) (D_yard : DYard P w K mg base) (D_house : DHouse P w K mg base c_House) (D_reach : DReach P w K mg base) (D_near : DNear P w K mg base) (D_House_steps : DHouseSteps P w K mg base c_House) (D_House_way : DHouseWay P w K mg base c_House) (D_House_parts : DHouseParts P w K mg base c_House) : FnG P w K mg base CX0 6 f fd ["_law_script"] (spLaw K) := by
  refine TT.Fun.okG F scLaw (fun vs H Q E h => ?_) (fun cdv A outer s H vs Q E gd hr h => ?_)
  · obtain ⟨a, ns, rfl, _⟩ := h
    rfl
  · obtain ⟨a, ns, rfl, hS, hl, q⟩ := h
    have hu := hu_of hr
    have hu64 := hu64_of hr
    refine ⟨_, ((pss_cons (ps_set (i := 1) scLaw.nd rfl (Or.inr rfl) (pe_df D_pen hr (by rfl) pass0 (pa_cons (pv 0) pa_nil)))
    (pss_cons (ps_for PassesOwn.never rfl (pi_range1 (by rfl) M.range (pa_cons pe_int pa_nil)) (pg_name (i := 2) scLaw.nd rfl (Or.inl rfl))
    (pss_cons (ps_set (i := 3) scLaw.nd rfl (Or.inl rfl) (pe_df D_yard hr (by rfl) pass0 (pa_cons (pv 1) (pa_cons (pe_ix (k_ix_list (K := K) rfl) (pe_lst (pa_cons pe_int (pa_cons pe_int (pa_cons pe_int pa_nil)))) (pe_op op_mod (pv 2) pe_int) (fun _ _ => rfl)) pa_nil))))
    (pss_cons (ps_dput hu (pv 3) pe_str (pe_lc (own := [("_law_door", 14)]) rfl scLaw.nd (k_pi_list (K := K) rfl (pe_dget hu (pv 3) pe_str (fun _ _ => rfl))) (blkOk_by (N := ["_law_script", "_law_pen_here", "_law_turn", "_law_yard_here", "_law_house_here", "_law_masses", "_law_room", "_law_reach_here", "_law_other", "_law_due", "_law_road", "_law_k", "_law_again", "_law_told", "_law_door"]) (sc := defScope sLaw) (by decide +kernel)) (fun _ _ _ _ _ => (pg_name (i := 14) scLaw.nd rfl (Or.inl rfl))) (fun _ _ _ _ _ => (pts_one (pt_cmpR op_gt (pe_df D_draw hr (by rfl) pass0 (pa_cons (pv 1) (pa_cons pe_int pa_nil))) pe_int (nomark _)))) (fun _ _ _ _ _ => (pv 14))) rfl)
    (pss_cons (ps_par (i := 4) (j := 5) (by rfl) scLaw.nd rfl rfl (by decide) rfl rfl (pa_cons (pe_df D_house hr (by rfl) pass0 (pa_cons (pv 1) (pa_cons (pv 3) pa_nil))) (pa_cons (pe_lst pa_nil) pa_nil)) (by rfl))
    (pss_cons (ps_for PassesOwn.never rfl (k_pi_list (K := K) rfl (pe_callB (k_sortedS (K := K) rfl) (by rfl) M.sorted (by decide +kernel) (pa_cons (pe_dget hu (pv 3) pe_str (fun _ _ => rfl)) pa_nil))) (pg_name (i := 6) scLaw.nd rfl (Or.inl rfl))
    (pss_cons (ps_set (i := 7) scLaw.nd rfl (Or.inl rfl) (pe_df D_reach hr (by rfl) pass0 (pa_cons (pv 3) (pa_cons (pv 6) pa_nil))))
    (pss_cons (ps_if (pt_cmpR op_eq (pe_callB (k_minD rfl) (by rfl) M.min (by decide +kernel) (pa_cons (pv 7) pa_nil)) (pv 6) (nomark _))
    (pss_one (ps_expr (k_bm (K := K) rfl PySem.F.plainAttrs_list PySem.F.slot_list_append PySem.F.type_list_append mt_append (pv 5) (pa_cons (pe_callB (k_sortedD rfl) (by rfl) M.sorted (by decide +kernel) (pa_cons (pv 7) pa_nil)) pa_nil))))
    pss_nil)
    (pss_one (ps_for PassesOwn.never rfl (k_pi_list (K := K) rfl (pe_dget hu (pv 3) pe_str (fun _ _ => rfl))) (pg_name (i := 8) scLaw.nd rfl (Or.inl rfl))
    (pss_cons (ps_set (i := 9) scLaw.nd rfl (Or.inl rfl) (pe_ifExp (pt_cmp (pc_din hu (pv 8) (pv 7))) (pe_op op_sub (pe_callB (k_len (K := K) rfl) (by rfl) M.len PySem.boot_len (pa_cons (pe_dget hu (pv 7) (pv 8) (fun _ _ => rfl)) pa_nil)) pe_int) pe_non))
    (pss_cons (ps_if (pt_cmpR op_ne (pe_callB call_reprX (by rfl) M.repr (by decide +kernel) (pa_cons (pe_dm D_House_steps Z_House.cl hr pass0 (pv 4) (pa_cons (pv 6) (pa_cons (pv 8) pa_nil))) pa_nil)) (pe_callB call_reprX (by rfl) M.repr (by decide +kernel) (pa_cons (pv 9) pa_nil)) (nomark _))
    (pss_one (ps_ret pe_bl))
    pss_nil)
    (pss_cons (ps_set (i := 10) scLaw.nd rfl (Or.inl rfl) (pe_dm D_House_way Z_House.cl hr pass0 (pv 4) (pa_cons (pv 6) (pa_cons (pv 8) pa_nil))))
    (pss_cons (ps_if (PW.pt (pw_and (pt_cmpR op_isN (pv 9) pe_non (nomark _)) (pw_and1 (pt_cmpR op_notN (pv 10) pe_non (nomark _)))))
    (pss_one (ps_ret pe_bl))
    pss_nil)
    (pss_cons (ps_if (PW.pt (pw_and (pt_cmpR op_notN (pv 9) pe_non (nomark _)) (pw_and1 (PW.pt (pw_or (pt_not (pt_val (pe_callB (k_isi (K := K) rfl) (by rfl) M.isinstance (by decide +kernel) (pa_cons (pv 10) (pa_cons (pe_bltn (v := V.ty "tuple") (u := Value.type "tuple") (by rfl) M.tuple_ (by decide +kernel) rfl) pa_nil))))) (pw_or1 (pt_cmpR op_ne (pe_callB (k_len (K := K) rfl) (by rfl) M.len PySem.boot_len (pa_cons (pv 10) pa_nil)) (pe_op op_add (pv 9) pe_int) (nomark _))))))))
    (pss_one (ps_ret pe_bl))
    pss_nil)
    (pss_cons (ps_if (PW.pt (pw_and (pt_cmpR op_notN (pv 9) pe_non (nomark _)) (pw_and1 (PW.pt (pw_or (pt_cmpR op_ne (pe_ix (k_ix_tup (K := K) rfl) (pv 10) pe_int (fun _ _ => rfl)) (pv 6) (nomark _)) (pw_or1 (pt_cmpR op_ne (pe_ix (k_ix_tup (K := K) rfl) (pv 10) (pe_un un_neg pe_int) (fun _ _ => rfl)) (pv 8) (nomark _))))))))
    (pss_one (ps_ret pe_bl))
    pss_nil)
    (pss_one (ps_if (pt_cmpR op_notN (pv 9) pe_non (nomark _))
    (pss_one (ps_for PassesOwn.never rfl (pi_range1 (by rfl) M.range (pa_cons (pv 9) pa_nil)) (pg_name (i := 11) scLaw.nd rfl (Or.inl rfl))
    (pss_one (ps_if (pt_cmpR (k_op_notIn (K := K) rfl) (pe_ix (k_ix_tup (K := K) rfl) (pv 10) (pe_op op_add (pv 11) pe_int) (fun _ _ => rfl)) (pe_df D_near hr (by rfl) pass0 (pa_cons (pv 3) (pa_cons (pe_ix (k_ix_tup (K := K) rfl) (pv 10) (pv 11) (fun _ _ => rfl)) pa_nil))) (by rfl))
    (pss_one (ps_ret pe_bl))
    pss_nil))))
    pss_nil)))))))))))))
    (pss_one (ps_for PassesOwn.never rfl (pi_range1 (by rfl) M.range (pa_cons pe_int pa_nil)) (pg_name (i := 12) scLaw.nd rfl (Or.inl rfl))
    (pss_cons (ps_set (i := 13) scLaw.nd rfl (Or.inl rfl) (pe_dm0 D_House_parts Z_House.cl hr pass0 (pv 4)))
    (pss_cons (ps_if (pt_cmpR op_ne (pe_callB (k_reprD (K := K) rfl gd hu64) (by rfl) M.repr (by decide +kernel) (pa_cons (pv 13) pa_nil)) (pe_callB (k_reprD (K := K) rfl gd hu64) (by rfl) M.repr (by decide +kernel) (pa_cons (pv 5) pa_nil)) (nomark _))
    (pss_one (ps_ret pe_bl))
    pss_nil)
    (pss_cons (ps_expr (k_bm (K := K) rfl PySem.F.plainAttrs_list PySem.F.slot_list_append PySem.F.type_list_append mt_append (pe_ix (k_ix_list (K := K) rfl) (pv 13) pe_int (fun _ _ => rfl)) (pa_cons pe_str pa_nil)))
    (pss_one (ps_expr (k_bm (K := K) rfl PySem.F.plainAttrs_list PySem.F.slot_list_append PySem.F.type_list_append mt_append (pv 13) (pa_cons (pe_lst pa_nil) pa_nil))))))))))))))
    (pss_one (ps_ret pe_bl))))), ?_⟩
    walk_at "go0"
    refine ⟨a, ns, H, rfl, Same.refl H, hS, hl, fun p G1 H1 s1 hp1 => ?_⟩
    walk_at "go"
    refine loopR1 (n := 5) rfl (by omega) (fun i σ H' => ∃ y2 y3 y4 y5 y6 y7 y8 y9 y10 y11 y12 y13, ∃ (G' : Hp), σ = [some (.ref a), some (.ref p), y2, y3, y4, y5, y6, y7, y8, y9, y10, y11, y12, y13, none] ∧ Same G' H' ∧ Pen K G' p (i * 3000) H')
      ⟨none, none, none, none, none, none, none, none, none, none, none, none, G1, rfl, s1.gh, hp1⟩ (fun i σ H' hi pv => ?_) (fun σ H' pv => ?_)
    · obtain ⟨y2, y3, y4, y5, y6, y7, y8, y9, y10, y11, y12, y13, G, rfl, g0, hp⟩ := pv
      clear s1 hp1 hS
      walk_at "go"
      refine ⟨by show 3 ≤ sizeLine; decide, fun l nl => ?_⟩
      have g1 : Same G (upd H' l (.lst [.int 16, .int 10, .int 6])) := g0.trans (same_new nl)
      have hl1 : (upd H' l (.lst [.int 16, .int 10, .int 6])) l = some (.lst [.int 16, .int 10, .int 6]) := upd_same
      have hp1 := hp.upd (x := .lst [.int 16, .int 10, .int 6]) (hp.new nl)
      generalize upd H' l (.lst [.int 16, .int 10, .int 6]) = H2 at g1 hl1 hp1 ⊢
      walk_at "go"
      obtain ⟨mo, hmo, hm1, hm2⟩ : ∃ mo : Nat, ([.int 16, .int 10, .int 6] : List V)[i % 3]? = some (.int (mo : Int)) ∧ 1 ≤ mo ∧ mo ≤ 16 := by
        have h : i % 3 = 0 ∨ i % 3 = 1 ∨ i % 3 = 2 := by omega
        rcases h with h | h | h <;> rw [h]
        · exact ⟨16, rfl, by omega, by omega⟩
        · exact ⟨10, rfl, by omega, by omega⟩
        · exact ⟨6, rfl, by omega, by omega⟩
      refine r_ixL' (n := i % 3) (lof hl1) (by omega) hmo ?_
      walk_at "go"
      refine ⟨p, _, mo, _, G, rfl, g1, hp1, by omega, rfl, hm1, hm2, fun y rs ps G3 H3 s3 hp3 hY hr1 hr2 hrn hpi hpl hnd => ?_⟩
      have hF := withD_fine' hnd hpi
      have hdl : (withD rs ps).length < 64 := Nat.lt_of_le_of_lt (withD_len _ _) hpl
      generalize withD rs ps = ds at hY hF hdl
      obtain ⟨dd, xs, ⟨rr, e1, e2⟩, hxs, hdr⟩ := hY
      walk_at "go"
      refine r_dget' (dk (s3.gh _ _ e1) ((vv1 (by decide +kernel)).trans vv0)) ?_
      refine lcL (M := M1 p) hxs (by rw [hdr.1]; omega) s3.gh (fun j acc G' H' => G3 = G' ∧ ∃ ds', DrAll G3 acc ds' ∧ ds'.Sublist (ds.take j) ∧ Pen K G3 p (i * 3000 + 200 + j) H') (fun L hL => ⟨rfl, [], .nil, by simp, hp3.upd (hp3.new hL)⟩)
        (fun L j v acc G' H' Em Sk hj hL hL' gL hacc st pv hv hEm hSk => ?_) (fun L acc G' H' hL hacc st hL' gL pv => ?_)
      · obtain ⟨e, ds', hds, hsub, hpz⟩ := pv
        subst e
        have hj' : j < ds.length := by rw [← hdr.1]; exact hj
        obtain ⟨t, o, et, ht, ho⟩ := hdr.2 j _ (List.getElem?_eq_getElem hj')
        cases et.symm.trans hv
        have hz := List.getElem?_eq_getElem hj'
        generalize ds[j] = d at ht hz
        walk_at "go"
        refine ⟨rfl, ?_⟩
        walk_at "go"
        refine use_draw (m := 6) st.gh hpz (by omega) rfl (by omega) (by omega) (fun k H5 hk s5 hp5 => ?_)
        have hL5 := s5.up _ _ (hpz.ne hL') hL'
        walk_at "go"
        refine ifD (fun c => ?_) (fun c => ?_)
        · walk_at "go"
          refine hEm _ G3 H5 (st.trans s5) hL5 gL ⟨rfl, ds' ++ [d], hds.snoc ht ho, ?_, hp5.upd (hp5.ne hL5)⟩
          rw [take_succ_get hz]
          exact hsub.append (List.Sublist.refl _)
        · refine hSk G3 H5 (st.trans s5) hL5 gL ⟨rfl, ds', hds, ?_, hp5⟩
          rw [take_succ_get hz]
          exact hsub.trans (List.sublist_append_left _ _)
      · obtain ⟨e, ds', hds, hsub, hpz⟩ := pv
        subst e
        rw [hdr.1, List.take_length] at hsub
        have s4 := st.freeze hL' hL gL
        have hp4 : Pen K (upd G3 L (.lst acc)) p (i * 3000 + 300) H' := (hpz.know (same_new gL) (by rw [upd_ne (hpz.ne hL').symm]; exact hpz.1)).mono (by rw [hdr.1]; omega)
        have hL4 : SqL K (upd G3 L (.lst acc)) L acc := lof upd_same
        have hy4 := s4.gg _ _ e1
        have hr4 := s4.gg.seq e2
        have hd4 := hds.same s4.gg
        have g4 := s4.gh
        have hyH := g4 _ _ hy4
        have hdl' : ds'.length ≤ ds.length := hsub.length_le
        have hF' := hF.less hsub
        generalize upd G3 L (.lst acc) = G4 at hp4 hL4 hy4 hr4 hd4 g4
        clear s4 st hpz hds hp3 s3 hxs hdr e1 e2 hL hL' gL hsub hF g1 hl1 hp1 g0 hp
        walk_at "go"
        refine r_put (dput hyH (by show 2 < sizeLine; decide) (putK_next (by decide +kernel) (by simp) |>.trans (by rw [putK_here (fun kv hk => by cases hk)]))) ?_
        have g5 : Same (upd G4 y (.dK [(.inr "rooms", .ref rr), (.inr "doors", .ref L)])) (upd H' y (.dK [(.inr "rooms", .ref rr), (.inr "doors", .ref L)])) := Same.put g4
        have hp5 := pen_put (u := .dK [(.inr "rooms", .ref rr), (.inr "doors", .ref L)]) hp4 hy4
        have hY5 : Yard K (upd G4 y (.dK [(.inr "rooms", .ref rr), (.inr "doors", .ref L)])) y rs ds' := ⟨L, acc, ⟨rr, upd_same, sqL_put hr4 hy4⟩, sqL_put hL4 hy4, drAll_put hd4 hy4⟩
        have hy5 : (upd G4 y (.dK [(.inr "rooms", .ref rr), (.inr "doors", .ref L)])) y = some (.dK [(.inr "rooms", .ref rr), (.inr "doors", .ref L)]) := upd_same
        have hr5 := sqL_put (u := .dK [(.inr "rooms", .ref rr), (.inr "doors", .ref L)]) hr4 hy4
        generalize upd G4 y (.dK [(.inr "rooms", .ref rr), (.inr "doors", .ref L)]) = G5 at g5 hp5 hY5 hy5 hr5
        generalize upd H' y (.dK [(.inr "rooms", .ref rr), (.inr "doors", .ref L)]) = H5 at g5 hp5 ⊢
        clear hyH g4 hd4 hr4 hy4 hL4 hp4
        walk_at "go"
        refine ⟨p, y, rs, ds', _, G5, rfl, g5, hp5, by omega, hY5, hrn, hr1, by omega, hF', by omega, fun h rs' es G6 H6 s6 hp6 hh q1 q2 q3 q4 => ?_⟩
        walk_at "go"
        refine ⟨Nat.zero_le _, fun M nM => ?_⟩
        have g7 : Same G6 (upd H6 M (.lst [])) := s6.gh.trans (same_new nM)
        have hp7 := hp6.upd (x := .lst []) (hp6.new nM)
        have hM7 : (upd H6 M (.lst [])) M = some (.lst (([] : List Addr).map V.ref)) := upd_same
        have gM7 : G6 M = none := none_of s6.gh nM
        generalize upd H6 M (.lst []) = H7 at g7 hp7 hM7 ⊢
        have hY6 := hY5.same s6.gg
        have hy6 := s6.gg _ _ hy5
        have hr6 := s6.gg.seq hr5
        clear s6 hp6 hp5 g5 hY5 hy5 hr5
        have hrl' : rs'.length < 64 := by rw [q1.length_eq]; omega
        have hnd' : rs'.Nodup := q1.nodup_iff.mpr hnd
        have hll := hF'.ll
        have hnb : ∀ x z, z ∈ nb ds' x ↔ z ∈ nb es x := fun x z => ((nb_ris hll).symm).trans (nb_perm q3 x).mem_iff.symm
        have hin' : ∀ e ∈ es, e.1 ∈ rs' ∧ e.2 ∈ rs' ∧ e.1 ≠ e.2 := fun e he => by
          have he' := q3.mem_iff.mp he
          obtain ⟨e0, h0, rfl⟩ := List.mem_map.mp he'
          have h3 := hF'.inn e0 h0
          rcases ris_or h3.2.2 with c | c
          · rw [c]; exact ⟨q1.mem_iff.mpr h3.1, q1.mem_iff.mpr h3.2.1, h3.2.2⟩
          · rw [c]; exact ⟨q1.mem_iff.mpr h3.2.1, q1.mem_iff.mpr h3.1, h3.2.2.symm⟩
        have hle : Loopless es := fun e he => (hin' e he).2.2
        have hel : es.length < 64 := by rw [q3.length_eq, List.length_map]; omega
        have hnr : ∀ x z, z ∈ nb ds' x → z ∈ rs := fun x z => nb_in hF'.inn
        have hnr' : ∀ x z, z ∈ nb es x → z ∈ rs' := fun x z => nb_in hin'
        obtain ⟨dx, hr0, hd0, hN0, hxs0, hh0, _⟩ := id hh
        walk_at "go"
        refine r_dget' (dk (g7 _ _ hy6) vv0) ?_
        walk_at "go"
        refine c_sorted (g7.seq hr6) (by omega) (fun ys o hyp hys no => ?_)
        have ey : ys = rs' := sorted_uniq (hyp.trans q1.symm) hys q2
        subst ey
        have s8 : Stp M0 G6 H7 (upd G6 o (.lst (ys.map V.str))) (upd H7 o (.lst (ys.map V.str))) := Stp.new g7 no
        have ho8 : SqL K (upd G6 o (.lst (ys.map V.str))) o (ys.map V.str) := lof upd_same
        have hp8 := hp7.stp0 s8
        have hM8 := s8.up _ _ (fun z => z) hM7
        have gM8 : (upd G6 o (.lst (ys.map V.str))) M = none := (s8.fr _ _ hM7).trans gM7
        have hY8 := hY6.same s8.gg
        have hy8 := s8.gg _ _ hy6
        have hr8 := s8.gg.seq hr6
        have hh8 : HouseIn K c_House (upd G6 o (.lst (ys.map V.str))) (upd G6 o (.lst (ys.map V.str))) h ys es := hh.same s8.gg (fun o' e => s8.gg _ o' e)
        have hi8 := s8.gg _ _ hh0
        have g8 := s8.gh
        generalize upd G6 o (.lst (ys.map V.str)) = G8 at ho8 hp8 gM8 hY8 hy8 hr8 hh8 hi8 g8
        generalize upd H7 o (.lst (ys.map V.str)) = H8 at hp8 hM8 g8 ⊢
        clear s8 hp7 hM7 gM7 g7 hY6 hy6 hr6 hh hh0
        walk_at "go"
        refine loopL (xs := ys.map V.str) (g8.seq ho8) (fun j σ H' => ∃ y6 y7 y8 y9 y10 y11, ∃ (G' : Hp) (ls : List Addr), σ = [some (.ref a), some (.ref p), some (.int (i : Int)), some (.ref y), some (.ref h), some (.ref M), y6, y7, y8, y9, y10, y11, y12, y13, none] ∧ Same G' H' ∧ Same G8 G' ∧ Pen K G' p (i * 3000 + 1000) H' ∧
            H' M = some (.lst (ls.map V.ref)) ∧ G' M = none ∧ ls.length = (partsOf es ys (ys.take j)).length ∧ ∀ (k : Nat) (l : Addr) (zs : List Str), ls[k]? = some l → (partsOf es ys (ys.take j))[k]? = some zs → SqL K G' l (zs.map V.str))
          ⟨_, _, _, _, _, _, G8, [], rfl, g8, Same.refl _, hp8.mono (by omega), hM8, gM8, by simp [partsOf], fun k l zs h => by simp at h⟩ (fun j σ H' _ pv => ?_) (fun j v σ H' hj hv pv => ?_) (fun σ H' pv => ?_)
        · obtain ⟨_, _, _, _, _, _, G', _, _, g', sg, _⟩ := pv
          exact (sg.trans g').seq ho8
        · obtain ⟨y6, y7, y8, y9, y10, y11, G', ls, rfl, g', sg, hp', hM', gM', hll', hls'⟩ := pv
          obtain ⟨b, hb, rfl⟩ := map_get hv
          have hbm := List.mem_of_getElem? hb
          have hbr : b ∈ rs := q1.mem_iff.mp hbm
          have eb := take_succ_get hb
          walk_at "go"
          refine ⟨y, b, rs, ds', G', rfl, g', hY8.same sg, by omega, by omega, hbr, hnr, fun f kvs fs G9 H9 s9 hf hK hS => ?_⟩
          have hSe := hS.of hnb
          have hM9 := s9.up _ _ (fun z => z) hM'
          have gM9 : G9 M = none := (s9.fr _ _ hM').trans gM'
          have hp9 := hp'.stp0 s9
          have hbk : b ∈ fs.map Prod.fst := hSe.all 0 b .zero
          walk_at "go"
          refine ⟨f, kvs, fs.map Prod.fst, rfl, s9.gh _ _ hf, hK.ks, List.ne_nil_of_mem hbk, fun m hm hmin => ?_⟩
          have keyc : ∀ z, z ∈ fs.map Prod.fst ↔ Con es b z := fun z => by
            constructor
            · intro hz
              obtain ⟨⟨x, n⟩, hp, e⟩ := List.mem_map.mp hz
              cases e
              exact ⟨n, (hSe.val _ _ hp).1⟩
            · rintro ⟨n, w⟩
              exact hSe.all _ _ w
          have hml : m = b ↔ Least es ys b := by
            constructor
            · intro e z hz hc
              rw [← e]
              exact hmin z ((keyc z).mpr hc)
            · intro hL
              have hc := (keyc m).mp hm
              obtain ⟨n, w⟩ := hc
              exact leS_anti (hmin b hbk) (hL m (w.inn hbm hnr') ⟨n, w⟩)
          walk_at "go"
          refine if_joinT (fun σ' H' => ∃ (G' : Hp) (ls : List Addr), σ' = [some (.ref a), some (.ref p), some (.int (i : Int)), some (.ref y), some (.ref h), some (.ref M), some (.str b), some (.ref f), y8, y9, y10, y11, y12, y13, none] ∧ Same G' H' ∧ Same G9 G' ∧ Pen K G' p (i * 3000 + 1000) H' ∧
            H' M = some (.lst (ls.map V.ref)) ∧ G' M = none ∧ ls.length = (partsOf es ys (ys.take (j + 1))).length ∧ ∀ (k : Nat) (l : Addr) (zs : List Str), ls[k]? = some l → (partsOf es ys (ys.take (j + 1)))[k]? = some zs → SqL K G' l (zs.map V.str)) (fun hc N hN => ?_) (fun hc N hN => ?_) (fun σ' H' pv => ?_)
          · have hL := hml.mp (V.str.inj (of_decide_eq_true hc))
            walk_at "go"
            refine ⟨f, kvs, fs.map Prod.fst, rfl, s9.gh _ _ hf, hK.ks, fun zs q hzp hzs nq => ?_⟩
            have ez : zs = comp es ys b := spans_comp hSe hnd' q2 hbm hnr' hzp hzs
            have sq : Stp M0 G9 H9 (upd G9 q (.lst (zs.map V.str))) (upd H9 q (.lst (zs.map V.str))) := Stp.new s9.gh nq
            have hMq := sq.up _ _ (fun z => z) hM9
            have gMq : (upd G9 q (.lst (zs.map V.str))) M = none := (sq.fr _ _ hM9).trans gM9
            have hpq := hp9.stp0 sq
            have hq : SqL K (upd G9 q (.lst (zs.map V.str))) q (zs.map V.str) := lof upd_same
            generalize upd G9 q (.lst (zs.map V.str)) = Gq at sq gMq hpq hq
            generalize upd H9 q (.lst (zs.map V.str)) = Hq at sq hMq hpq ⊢
            walk_at "go"
            refine c_append hMq (small5 (by
              rw [List.length_map, hll']
              have h1 : (partsOf es ys (ys.take j)).length ≤ 64 := by
                unfold partsOf
                rw [List.length_map]
                exact Nat.le_trans (List.length_filter_le _ _) (by rw [List.length_take]; omega)
              omega)) ?_
            walk_at "go"
            refine hN _ _ ⟨Gq, ls ++ [q], rfl, (Stp.mut (M := M1 M) sq.gh hMq gMq rfl).gh, sq.gg, hpq.upd (hpq.ne hMq), by rw [upd_same, List.map_append]; rfl, gMq, by rw [eb, partsOf_snoc_yes hL, List.length_append, List.length_append, hll']; rfl, fun k l zs' h1 h2 => ?_⟩
            rw [eb, partsOf_snoc_yes hL] at h2
            rcases snoc_at h1 with ⟨h1', hk⟩ | ⟨rfl, rfl⟩
            · rw [List.getElem?_append_left (by rw [← hll']; exact hk)] at h2
              exact (s9.gg.trans sq.gg).seq (hls' k l zs' h1' h2)
            · rw [List.getElem?_append_right (by rw [hll']; exact Nat.le_refl _), hll', Nat.sub_self] at h2
              cases Option.some.inj h2
              rw [← ez]
              exact hq
          · have hL : ¬ Least es ys b := fun h => by
              rw [hml.mpr h] at hc
              exact absurd hc (by simp)
            walk_at "go"
            refine hN _ _ ⟨G9, ls, rfl, s9.gh, Same.refl _, hp9, hM9, gM9, by rw [eb, partsOf_snoc_no hL]; exact hll', ?_⟩
            rw [eb, partsOf_snoc_no hL]
            exact fun k l zs h1 h2 => s9.gg.seq (hls' k l zs h1 h2)
          · obtain ⟨Ga, la, rfl, ga, sga, hpa, hMa, gMa, hla, hlsa⟩ := pv
            have sg9 := (sg.trans s9.gg).trans sga
            have hfa := sga _ _ hf
            have hKa := hK.same sga
            clear hls' hll' hM' gM' hp' g' hM9 gM9 hp9 hmin hm hml hf hK s9
            walk_at "go"
            refine r_dget' (dk ((sg9.trans ga) _ _ hy8) vv0) ?_
            have flen : fs.length < 64 := by
              have h := nd_le2 (L := ys) hSe.nd (fun z hz => by
                obtain ⟨n, w⟩ := (keyc z).mp hz
                exact w.inn hbm hnr')
              rw [List.length_map] at h
              omega
            refine loopL (xs := rs.map V.str) ((sg9.trans ga).seq hr8) (fun k σ H' => ∃ y8 y9 y10 y11, ∃ (G' : Hp), σ = [some (.ref a), some (.ref p), some (.int (i : Int)), some (.ref y), some (.ref h), some (.ref M), some (.str b), some (.ref f), y8, y9, y10, y11, y12, y13, none] ∧ Same G' H' ∧ Same Ga G' ∧ Pen K G' p (i * 3000 + 1000) H' ∧
              H' M = some (.lst (la.map V.ref)) ∧ G' M = none) ⟨_, _, _, _, Ga, rfl, ga, Same.refl _, hpa, hMa, gMa⟩ (fun k σ H' _ pv => ?_) (fun k v σ H' hk hv pv => ?_) (fun σ H' pv => ?_)
            · obtain ⟨_, _, _, _, G', _, g', sg', _⟩ := pv
              exact ((sg9.trans sg').trans g').seq hr8
            · obtain ⟨y8, y9, y10, y11, Gb, rfl, gb, sgb, hpb, hMb, gMb⟩ := pv
              obtain ⟨z, hz, rfl⟩ := map_get hv
              have hzr := List.mem_of_getElem? hz
              have hzy : z ∈ ys := q1.mem_iff.mpr hzr
              have hfb := gb _ _ (sgb _ _ hfa)
              have hKb := hKa.same (sgb.trans gb)
              walk_at "go"
              refine ⟨f, _, rfl, dg_str hfb, ?_⟩
              walk_at "go"
              by_cases hzk : z ∈ fs.map Prod.fst
              · obtain ⟨⟨z', n⟩, hzp, e⟩ := List.mem_map.mp hzk
                cases e
                obtain ⟨t, ws, hv2, ht, hwl, hwn⟩ := hKb.wk _ n hzp
                have hw := hSe.val _ _ hzp
                rw [hv2, show (some (V.ref t)).isSome = true from rfl]
                walk_at "go"
                refine ⟨f, _, rfl, by rw [← hv2]; exact dg_str hfb, ?_⟩
                walk_at "go"
                have e : ((ws.map V.str).length : Int) - 1 = (n : Int) := by rw [List.length_map, hwl]; omega
                rw [e]
                have sgB := (sg9.trans sgb)
                refine ⟨h, dx, _, rfl, gb _ _ (sgB _ _ hi8), by rfl, ?_⟩
                walk_at "go"
                refine ⟨h, b, z', ys, es, Gb, rfl, gb, hh8.same sgB (fun o' e => sgB _ o' e), hnd', hrl', hbm, hzy, hin', hel, fun _ _ _ hno => absurd (hw.1.turn hle) (hno n), fun n2 Gc Hc sc hw2 hf2 => ?_⟩
                have en : n2 = n := Nat.le_antisymm (hf2 _ (hw.1.turn hle)) (hw.2 _ (hw2.turn hle))
                subst en
                walk_at "go"
                refine c_reprS (by omega) ?_
                walk_at "go"
                refine c_reprS (by omega) ?_
                walk_at "go"
                rw [decide_eq_true rfl]
                walk_at "go"
                have sgC := sgB.trans sc.gg
                refine ⟨h, dx, _, rfl, sc.gh _ _ (sgC _ _ hi8), by rfl, ?_⟩
                walk_at "go"
                refine ⟨h, b, z', ys, es, Gc, rfl, sc.gh, hh8.same sgC (fun o' e => sgC _ o' e), hnd', hrl', hbm, hzy, hin', hel, fun _ _ _ hno => absurd (hw.1.turn hle) (hno n2), fun t2 ws2 Gd Hd sd ht2 hway hwl2 => ?_⟩
                have el2 : ws2.length - 1 = n2 := Nat.le_antisymm (hway.few _ (hw.1.turn hle)) (hw.2 _ (hway.wn.turn hle))
                have hne2 : 1 ≤ ws2.length := by
                  cases ws2 with
                  | nil => have := hway.first; simp at this
                  | cons _ _ => rw [List.length_cons]; omega
                have htd := Same.sqt sd.gh ht2
                have scd := sc.trans sd
                have hpd := hpb.stp0 scd
                have hMd := scd.up _ _ (fun z => z) hMb
                have gMd : Gd M = none := (scd.fr _ _ hMb).trans gMb
                have sgD := sgB.trans scd.gg
                walk_at "go"
                refine ⟨rfl, _, rfl, ?_⟩
                rw [decide_eq_false (show ¬ V.int (n2 : Int) = V.non from fun z => nomatch z)]
                walk_at "go"
                refine ⟨rfl, _, rfl, ?_⟩
                rw [decide_eq_false (show ¬ V.int (n2 : Int) = V.non from fun z => nomatch z)]
                walk_at "go"
                refine c_isiT1 htd ?_
                walk_at "go"
                rw [decide_eq_true (show V.int ((ws2.map V.str).length : Int) = V.int ((n2 : Int) + 1) from by rw [List.length_map]; congr 1; omega)]
                walk_at "go"
                refine ⟨rfl, _, rfl, ?_⟩
                rw [decide_eq_false (show ¬ V.int (n2 : Int) = V.non from fun z => nomatch z)]
                walk_at "go"
                refine r_ixT' htd rfl (by rw [List.getElem?_map, hway.first]; rfl) ?_
                walk_at "go"
                rw [decide_eq_true rfl]
                walk_at "go"
                refine r_ixT htd (at_end2 hway.last) ?_
                walk_at "go"
                rw [decide_eq_true rfl]
                walk_at "go"
                refine ⟨rfl, _, rfl, ?_⟩
                rw [decide_eq_false (show ¬ V.int (n2 : Int) = V.non from fun z => nomatch z)]
                walk_at "go"
                refine loopR1 (n := n2) rfl (by omega) (fun c σ H' => ∃ y11, ∃ (G' : Hp), σ = [some (.ref a), some (.ref p), some (.int (i : Int)), some (.ref y), some (.ref h), some (.ref M), some (.str b), some (.ref f), some (.str z'), some (.int (n2 : Int)), some (.ref t2), y11, y12, y13, none] ∧ Same G' H' ∧ Same Gd G' ∧ Pen K G' p (i * 3000 + 1000) H' ∧
                  H' M = some (.lst (la.map V.ref)) ∧ G' M = none) ⟨_, Gd, rfl, sd.gh, Same.refl _, hpd, hMd, gMd⟩ (fun c σ H' hc pv => ?_) (fun σ H' pv => ?_)
                · obtain ⟨y11, Ge, rfl, ge, sge, hpe, hMe, gMe⟩ := pv
                  have hte := Same.sqt (sge.trans ge) ht2
                  have hc1 := List.getElem?_eq_getElem (l := ws2) (i := c) (by omega)
                  have hc2 := List.getElem?_eq_getElem (l := ws2) (i := c + 1) (by omega)
                  have hrd := hway.road c _ _ hc1 hc2
                  generalize ws2[c] = u1 at hc1 hrd
                  generalize ws2[c + 1] = u2 at hc2 hrd
                  walk_at "go"
                  refine r_ixT' (n := c + 1) hte rfl (by rw [List.getElem?_map, hc2]; rfl) ?_
                  walk_at "go"
                  refine r_ixT' (n := c) hte rfl (by rw [List.getElem?_map, hc1]; rfl) ?_
                  walk_at "go"
                  refine use_near ge (hY8.same (sgD.trans sge)) (by omega) (fun r7 ys7 Gf Hf sf hf7 hp7 _ => ?_)
                  walk_at "go"
                  refine r_ninL (sf.gh.seq hf7) ?_
                  rw [decide_eq_true (hp7.mem_iff.mpr ((hnb u1 u2).mpr hrd))]
                  walk_at "go"
                  exact ⟨_, Gf, rfl, sf.gh, sge.trans sf.gg, hpe.stp0 sf, sf.up _ _ (fun z => z) hMe, (sf.fr _ _ hMe).trans gMe⟩
                · obtain ⟨y11, Ge, rfl, ge, sge, hpe, hMe, gMe⟩ := pv
                  walk_at "go"
                  exact ⟨_, _, _, _, Ge, rfl, ge, (sgb.trans scd.gg).trans sge, hpe, hMe, gMe⟩
              · have hno : ∀ n, ¬ Wn es z n b := fun n w => hzk (hSe.all _ _ (w.turn hle))
                have hvn : valV kvs (.inr z : Key) = none := by
                  have e := val_none2 (z := z) hKb.ks
                  rw [decide_eq_false hzk] at e
                  cases q : valV kvs (Sum.inr z) with
                  | none => rfl
                  | some _ => rw [q] at e; cases e
                rw [hvn, show (none : Option V).isSome = false from rfl]
                walk_at "go"
                have sgB := (sg9.trans sgb)
                refine ⟨h, dx, _, rfl, gb _ _ (sgB _ _ hi8), by rfl, ?_⟩
                walk_at "go"
                refine ⟨h, b, z, ys, es, Gb, rfl, gb, hh8.same sgB (fun o' e => sgB _ o' e), hnd', hrl', hbm, hzy, hin', hel, fun Gc Hc sc _ => ?_, fun n2 _ _ _ hw2 _ => absurd hw2 (hno n2)⟩
                walk_at "go"
                refine c_reprN ?_
                walk_at "go"
                refine c_reprN ?_
                walk_at "go"
                rw [decide_eq_true rfl]
                walk_at "go"
                have sgC := sgB.trans sc.gg
                refine ⟨h, dx, _, rfl, sc.gh _ _ (sgC _ _ hi8), by rfl, ?_⟩
                walk_at "go"
                refine ⟨h, b, z, ys, es, Gc, rfl, sc.gh, hh8.same sgC (fun o' e => sgC _ o' e), hnd', hrl', hbm, hzy, hin', hel, fun Gd Hd sd _ => ?_, fun _ ws2 _ _ _ _ hway _ => absurd hway.wn (hno _)⟩
                have scd := sc.trans sd
                have hpd := hpb.stp0 scd
                have hMd := scd.up _ _ (fun z => z) hMb
                have gMd : Gd M = none := (scd.fr _ _ hMb).trans gMb
                walk_at "go"
                refine ⟨rfl, _, rfl, ?_⟩
                rw [decide_eq_true rfl]
                walk_at "go"
                refine ⟨rfl, _, rfl, ?_⟩
                rw [decide_eq_true rfl]
                walk_at "go"
                refine ⟨rfl, _, rfl, ?_⟩
                rw [decide_eq_true rfl]
                walk_at "go"
                refine ⟨rfl, _, rfl, ?_⟩
                rw [decide_eq_true rfl]
                walk_at "go"
                refine ⟨rfl, _, rfl, ?_⟩
                rw [decide_eq_true rfl]
                walk_at "go"
                exact ⟨_, _, _, _, Gd, rfl, scd.gh, sgb.trans scd.gg, hpd, hMd, gMd⟩
            · obtain ⟨y8, y9, y10, y11, Gb, rfl, gb, sgb, hpb, hMb, gMb⟩ := pv
              walk_at "go"
              exact ⟨_, _, _, _, _, _, Gb, la, rfl, gb, sg9.trans sgb, hpb, hMb, gMb, hla, fun k l zs h1 h2 => sgb.seq (hlsa k l zs h1 h2)⟩
        · obtain ⟨y6, y7, y8, y9, y10, y11, G', ls, rfl, g', sg, hp', hM', gM', hll', hls'⟩ := pv
          rw [List.length_map, List.take_length] at hll' hls'
          have hps : ∀ zs ∈ partsOf es ys ys, zs.length ≤ 64 ∧ ∀ z ∈ zs, NmOk z := fun zs hz => by
            unfold partsOf at hz
            obtain ⟨b, _, rfl⟩ := List.mem_map.mp hz
            refine ⟨Nat.le_trans (List.length_filter_le _ _) (by omega), fun z hz => hrn z (q1.mem_iff.mp (comp_mem.mp hz).1)⟩
          have hpl2 : (partsOf es ys ys).length ≤ 64 := by
            unfold partsOf
            rw [List.length_map]
            exact Nat.le_trans (List.length_filter_le _ _) (by omega)
          obtain ⟨p0, pr, hp0⟩ : ∃ p0 pr, partsOf es ys ys = p0 :: pr := by
            cases hys0 : ys with
            | nil => rw [← q1.length_eq, hys0] at hr1; simp at hr1
            | cons b0 yr =>
              have hL0 : Least es (b0 :: yr) b0 := by
                rw [← hys0]
                exact (least_iff hle hnd' q2 (i := 0) (by rw [hys0]; rfl)).mpr (fun z hz => by simp at hz)
              refine ⟨comp es (b0 :: yr) b0, (List.map (comp es (b0 :: yr)) (yr.filter fun b => @decide (Least es (b0 :: yr) b) (Classical.propDecidable _))), ?_⟩
              unfold partsOf
              rw [List.filter_cons_of_pos (by simpa using hL0), List.map_cons]
          walk_at "go"
          refine loopR1 (n := 2) rfl (by omega) (fun c σ H' => ∃ y12 y13, ∃ (G'' : Hp), σ = [some (.ref a), some (.ref p), some (.int (i : Int)), some (.ref y), some (.ref h), some (.ref M), y6, y7, y8, y9, y10, y11, y12, y13, none] ∧ Same G'' H' ∧ Same G' G'' ∧ Pen K G'' p (i * 3000 + 1000) H' ∧
              H' M = some (.lst (ls.map V.ref)) ∧ G'' M = none) ⟨_, _, G', rfl, g', Same.refl _, hp', hM', gM'⟩ (fun c σ H' hc pv => ?_) (fun σ H' pv => ?_)
          · obtain ⟨y12, y13, G2, rfl, g2, sg2, hp2, hM2, gM2⟩ := pv
            have sgA := sg.trans sg2
            walk_at "go"
            refine ⟨h, dx, _, rfl, g2 _ _ (sgA _ _ hi8), by rfl, ?_⟩
            walk_at "go"
            refine ⟨h, ys, es, G2, rfl, g2, hh8.same sgA (fun o' e => sgA _ o' e), hnd', q2, hrl', hin', fun r ls2 G3 H3 s3 hr3 gr3 nr3 hrl3 hW => ?_⟩
            have hM3 := s3.up _ _ (fun z => z) hM2
            have gM3 : G3 M = none := (s3.fr _ _ hM2).trans gM2
            have hp3 := hp2.stp0 s3
            walk_at "go"
            refine c_reprLL (lof hr3) hW.len (fun k l zs h1 h2 => lof (hW.at_ k l zs h1 h2)) hps hpl2 ?_
            walk_at "go"
            refine c_reprLL (lof hM3) hll' (fun k l zs h1 h2 => ((sg2.trans s3.gg).trans s3.gh).seq (hls' k l zs h1 h2)) hps hpl2 ?_
            walk_at "go"
            rw [decide_eq_true rfl]
            walk_at "go"
            have hl0 : 0 < ls2.length := by rw [hW.len, hp0, List.length_cons]; omega
            have hl0' := List.getElem?_eq_getElem hl0
            have hm0 := List.getElem_mem hl0
            generalize ls2[0] = l0 at hl0' hm0
            have hat0 := hW.at_ 0 l0 p0 hl0' (by rw [hp0]; rfl)
            have hnew0 := hW.new l0 hm0
            have hr0l : r ≠ l0 := fun e => hrl3 (e ▸ hm0)
            have hMr : M ≠ r := fun e => by rw [e, nr3] at hM2; cases hM2
            have hMl : M ≠ l0 := fun e => by rw [e, hnew0.2] at hM2; cases hM2
            refine r_ixL' (n := 0) (lof hr3) rfl (by rw [List.getElem?_map, hl0']; rfl) ?_
            walk_at "go"
            refine c_append hat0 (small5 (by
              rw [List.length_map]
              have := (hps p0 (by rw [hp0]; exact List.mem_cons_self)).1
              omega)) ?_
            have s4 : Stp (M1 l0) G3 H3 G3 (upd H3 l0 (.lst (p0.map V.str ++ [.str "more"]))) := Stp.mut s3.gh hat0 hnew0.1 rfl
            have hr4 : (upd H3 l0 (.lst (p0.map V.str ++ [.str "more"]))) r = some (.lst (ls2.map V.ref)) := by rw [upd_ne hr0l]; exact hr3
            have hM4 : (upd H3 l0 (.lst (p0.map V.str ++ [.str "more"]))) M = some (.lst (ls.map V.ref)) := by rw [upd_ne hMl]; exact hM3
            have hp4 := hp3.upd (x := .lst (p0.map V.str ++ [.str "more"])) (hp3.ne hat0)
            have g4 := s4.gh
            clear s4
            generalize upd H3 l0 (.lst (p0.map V.str ++ [.str "more"])) = H4 at g4 hr4 hM4 hp4 ⊢
            walk_at "go"
            refine ⟨Nat.zero_le _, fun w5 nw => ?_⟩
            have hr5 : (upd H4 w5 (.lst [])) r = some (.lst (ls2.map V.ref)) := by rw [upd_ne (ne_of_none hr4 nw)]; exact hr4
            have hM5 : (upd H4 w5 (.lst [])) M = some (.lst (ls.map V.ref)) := by rw [upd_ne (ne_of_none hM4 nw)]; exact hM4
            have hp5 := hp4.upd (x := .lst []) (hp4.new nw)
            have g5 : Same G3 (upd H4 w5 (.lst [])) := g4.trans (same_new nw)
            generalize upd H4 w5 (.lst []) = H5 at g5 hr5 hM5 hp5 ⊢
            walk_at "go"
            refine c_append hr5 (small5 (by rw [List.length_map, hW.len]; omega)) ?_
            walk_at "go"
            exact ⟨_, _, G3, rfl, (Stp.mut (M := M1 r) g5 hr5 gr3 rfl).gh, sg2.trans s3.gg, hp5.upd (hp5.ne hr5), by rw [upd_ne hMr]; exact hM5, gM3⟩
          · obtain ⟨y12, y13, G2, rfl, g2, sg2, hp2, hM2, gM2⟩ := pv
            walk_at "go"
            exact ⟨_, _, _, _, _, _, _, _, _, _, _, _, G2, rfl, g2, hp2.mono (by omega)⟩
    · obtain ⟨y2, y3, y4, y5, y6, y7, y8, y9, y10, y11, y12, y13, G, rfl, g0, hp⟩ := pv
      walk_at "go"
      exact q H'
end
/-! ### what the top has written; the head -/
section
theorem df_of {P : Program} {w : World} {K : PySem.W.Frag} {mg : Str → Option Value} {base : Heap} {CX : CXT} {h : Heap} {x : Str} {st : Stmt} {f : Addr} {ps : List Str} {sp : Sp} {k : Nat} {oc kV dc pm cd ct : Value} {od an : Option Addr} {sl : Array (Option Value)} (X : K.In h) (G : h.Ns mainGlobals mg)
    (a : PySem.W.nsIn K mainGlobals x = some (some (.ref f))) (l : K.lookup f = some ⟨oc, od, .func (PySem.W.fnOf x x (defArgs st) (defBody st) (defScope st) .none kV dc pm an cd ct), sl⟩) (c : PySem.W.codeIn K cd x = true) (kk : PySem.W.keepIn K (.ref f) = true)
    (hb : ∀ (kV doc pm : Value) (an : Option Addr) (cdv ct : Value) (us : List Value), us.length = ps.length → bindArgs (PySem.W.fnOf x x (defArgs st) (defBody st) (defScope st) .none kV doc pm an cdv ct) ⟨us, []⟩ = pure (ps.zip us))
    (ok : ∀ {fd : FuncData}, Fun K x x st f fd → FnOk P w K mg base CX k f fd ps sp) : Df P w K mg base CX k x ps sp :=
  ⟨f, _, ok (fun_mk l c kk), PySem.W.mg_of X G a, kk, (fun_mk l c kk).binds hb⟩
theorem dm_of {P : Program} {w : World} {K : PySem.W.Frag} {mg : Str → Option Value} {base : Heap} {CX : CXT} {x qual : Str} {st : Stmt} {f C : Addr} {ps : List Str} {sp : Sp} {k : Nat} {oc kV dc pm cd ct : Value} {od an : Option Addr} {sl : Array (Option Value)}
    (a : PySem.W.findIn K (.ref C) x = some (some (.ref f))) (i : PySem.W.isFn K (.ref f) = true) (l : K.lookup f = some ⟨oc, od, .func (PySem.W.fnOf x qual (defArgs st) (defBody st) (defScope st) .none kV dc pm an cd ct), sl⟩) (c : PySem.W.codeIn K cd qual = true) (kk : PySem.W.keepIn K (.ref f) = true)
    (hb : ∀ (kV doc pm : Value) (an : Option Addr) (cdv ct : Value) (us : List Value), us.length = ps.length → bindArgs (PySem.W.fnOf x qual (defArgs st) (defBody st) (defScope st) .none kV doc pm an cdv ct) ⟨us, []⟩ = pure (ps.zip us))
    (ok : ∀ {fd : FuncData}, Fun K x qual st f fd → FnOk P w K mg base CX k f fd ps sp) : Dm P w K mg base CX k C x ps sp :=
  ⟨f, _, ⟨a, i, kk⟩, ok (fun_mk l c kk), (fun_mk l c kk).binds hb⟩
theorem dk_of {P : Program} {w : World} {K : PySem.W.Frag} {mg : Str → Option Value} {base : Heap} {CX : CXT} {x0 qual : Str} {st : Stmt} {f C : Addr} {ps : List Str} {sp : Sp} {k : Nat} {oc kV dc pm cd ct : Value} {od an : Option Addr} {sl : Array (Option Value)}
    (hg : mg x0 = some (.ref C)) (mk : PySem.W.makesIn K C = true) (kc : PySem.W.keepIn K (.ref C) = true)
    (a : PySem.W.findIn K (.ref C) "__init__" = some (some (.ref f))) (i : PySem.W.isFn K (.ref f) = true) (l : K.lookup f = some ⟨oc, od, .func (PySem.W.fnOf "__init__" qual (defArgs st) (defBody st) (defScope st) .none kV dc pm an cd ct), sl⟩) (c : PySem.W.codeIn K cd qual = true) (kk : PySem.W.keepIn K (.ref f) = true)
    (hb : ∀ (kV doc pm : Value) (an : Option Addr) (cdv ct : Value) (us : List Value), us.length = ps.length → bindArgs (PySem.W.fnOf "__init__" qual (defArgs st) (defBody st) (defScope st) .none kV doc pm an cdv ct) ⟨us, []⟩ = pure (ps.zip us))
    (ok : ∀ {fd : FuncData}, Fun K "__init__" qual st f fd → FnOk P w K mg base CX k f fd ps sp) : Dk P w K mg base CX k x0 C ps sp :=
  ⟨f, _, ⟨mk, a, i, kc⟩, ok (fun_mk l c kk), hg, (fun_mk l c kk).binds hb⟩
theorem all_mk {l : PySem.W.OpenLaw} {w : World} {K : PySem.W.Frag} {h : Heap} {mg : Str → Option Value} {fa : Addr} (X : K.In h) (G : h.Ns mainGlobals mg) (hfa : mg "law" = some (.ref fa))
    {c_House : Addr} (gc_House : PySem.W.nsIn K mainGlobals "House" = some (some (.ref c_House))) (pg_House : PySem.W.plainGet K c_House Str.empty = true) (hd_House : PySem.W.hasDictIn K c_House = true) (po_House : PySem.W.plainOver K c_House = true) (sa_House : PySem.W.findIn K (.ref c_House) "__setattr__" = some (some (.builtin "object.__setattr__"))) (mi_House : PySem.W.makesIn K c_House = true) (kc_House : PySem.W.keepIn K (.ref c_House) = true) (n1_House : PySem.W.findIn K (.ref c_House) "_rooms" = some none) (n2_House : PySem.W.findIn K (.ref c_House) "_doors" = some none) (n3_House : PySem.W.findIn K (.ref c_House) "_near" = some none)
    {f0 : Addr} {oc0 kV0 dc0 pm0 cd0 ct0 : Value} {od0 an0 : Option Addr} {sl0 : Array (Option Value)}
    (a0 : PySem.W.nsIn K mainGlobals "_law_draw" = some (some (.ref f0))) (l0 : K.lookup f0 = some ⟨oc0, od0, .func (PySem.W.fnOf "_law_draw" "_law_draw" (defArgs sDraw) (defBody sDraw) (defScope sDraw) .none kV0 dc0 pm0 an0 cd0 ct0), sl0⟩) (c0 : PySem.W.codeIn K cd0 "_law_draw" = true) (k0 : PySem.W.keepIn K (.ref f0) = true)
    {f1 : Addr} {oc1 kV1 dc1 pm1 cd1 ct1 : Value} {od1 an1 : Option Addr} {sl1 : Array (Option Value)}
    (a1 : PySem.W.nsIn K mainGlobals "_law_pick" = some (some (.ref f1))) (l1 : K.lookup f1 = some ⟨oc1, od1, .func (PySem.W.fnOf "_law_pick" "_law_pick" (defArgs sPick) (defBody sPick) (defScope sPick) .none kV1 dc1 pm1 an1 cd1 ct1), sl1⟩) (c1 : PySem.W.codeIn K cd1 "_law_pick" = true) (k1 : PySem.W.keepIn K (.ref f1) = true)
    {f2 : Addr} {oc2 kV2 dc2 pm2 cd2 ct2 : Value} {od2 an2 : Option Addr} {sl2 : Array (Option Value)}
    (a2 : PySem.W.nsIn K mainGlobals "_law_pen" = some (some (.ref f2))) (l2 : K.lookup f2 = some ⟨oc2, od2, .func (PySem.W.fnOf "_law_pen" "_law_pen" (defArgs sPen) (defBody sPen) (defScope sPen) .none kV2 dc2 pm2 an2 cd2 ct2), sl2⟩) (c2 : PySem.W.codeIn K cd2 "_law_pen" = true) (k2 : PySem.W.keepIn K (.ref f2) = true)
    {f3 : Addr} {oc3 kV3 dc3 pm3 cd3 ct3 : Value} {od3 an3 : Option Addr} {sl3 : Array (Option Value)}
    (a3 : PySem.W.nsIn K mainGlobals "_law_names" = some (some (.ref f3))) (l3 : K.lookup f3 = some ⟨oc3, od3, .func (PySem.W.fnOf "_law_names" "_law_names" (defArgs sNames) (defBody sNames) (defScope sNames) .none kV3 dc3 pm3 an3 cd3 ct3), sl3⟩) (c3 : PySem.W.codeIn K cd3 "_law_names" = true) (k3 : PySem.W.keepIn K (.ref f3) = true)
    {f4 : Addr} {oc4 kV4 dc4 pm4 cd4 ct4 : Value} {od4 an4 : Option Addr} {sl4 : Array (Option Value)}
    (a4 : PySem.W.nsIn K mainGlobals "_law_near" = some (some (.ref f4))) (l4 : K.lookup f4 = some ⟨oc4, od4, .func (PySem.W.fnOf "_law_near" "_law_near" (defArgs sNear) (defBody sNear) (defScope sNear) .none kV4 dc4 pm4 an4 cd4 ct4), sl4⟩) (c4 : PySem.W.codeIn K cd4 "_law_near" = true) (k4 : PySem.W.keepIn K (.ref f4) = true)
    {f5 : Addr} {oc5 kV5 dc5 pm5 cd5 ct5 : Value} {od5 an5 : Option Addr} {sl5 : Array (Option Value)}
    (a5 : PySem.W.nsIn K mainGlobals "_law_may_door" = some (some (.ref f5))) (l5 : K.lookup f5 = some ⟨oc5, od5, .func (PySem.W.fnOf "_law_may_door" "_law_may_door" (defArgs sMayDoor) (defBody sMayDoor) (defScope sMayDoor) .none kV5 dc5 pm5 an5 cd5 ct5), sl5⟩) (c5 : PySem.W.codeIn K cd5 "_law_may_door" = true) (k5 : PySem.W.keepIn K (.ref f5) = true)
    {f6 : Addr} {oc6 kV6 dc6 pm6 cd6 ct6 : Value} {od6 an6 : Option Addr} {sl6 : Array (Option Value)}
    (a6 : PySem.W.nsIn K mainGlobals "_law_drawn_pairs" = some (some (.ref f6))) (l6 : K.lookup f6 = some ⟨oc6, od6, .func (PySem.W.fnOf "_law_drawn_pairs" "_law_drawn_pairs" (defArgs sDrawnPairs) (defBody sDrawnPairs) (defScope sDrawnPairs) .none kV6 dc6 pm6 an6 cd6 ct6), sl6⟩) (c6 : PySem.W.codeIn K cd6 "_law_drawn_pairs" = true) (k6 : PySem.W.keepIn K (.ref f6) = true)
    {f7 : Addr} {oc7 kV7 dc7 pm7 cd7 ct7 : Value} {od7 an7 : Option Addr} {sl7 : Array (Option Value)}
    (a7 : PySem.W.nsIn K mainGlobals "_law_with_doors" = some (some (.ref f7))) (l7 : K.lookup f7 = some ⟨oc7, od7, .func (PySem.W.fnOf "_law_with_doors" "_law_with_doors" (defArgs sWithDoors) (defBody sWithDoors) (defScope sWithDoors) .none kV7 dc7 pm7 an7 cd7 ct7), sl7⟩) (c7 : PySem.W.codeIn K cd7 "_law_with_doors" = true) (k7 : PySem.W.keepIn K (.ref f7) = true)
    {f8 : Addr} {oc8 kV8 dc8 pm8 cd8 ct8 : Value} {od8 an8 : Option Addr} {sl8 : Array (Option Value)}
    (a8 : PySem.W.nsIn K mainGlobals "_law_yard" = some (some (.ref f8))) (l8 : K.lookup f8 = some ⟨oc8, od8, .func (PySem.W.fnOf "_law_yard" "_law_yard" (defArgs sYard) (defBody sYard) (defScope sYard) .none kV8 dc8 pm8 an8 cd8 ct8), sl8⟩) (c8 : PySem.W.codeIn K cd8 "_law_yard" = true) (k8 : PySem.W.keepIn K (.ref f8) = true)
    {f9 : Addr} {oc9 kV9 dc9 pm9 cd9 ct9 : Value} {od9 an9 : Option Addr} {sl9 : Array (Option Value)}
    (a9 : PySem.W.nsIn K mainGlobals "is_name" = some (some (.ref f9))) (l9 : K.lookup f9 = some ⟨oc9, od9, .func (PySem.W.fnOf "is_name" "is_name" (defArgs sIsName) (defBody sIsName) (defScope sIsName) .none kV9 dc9 pm9 an9 cd9 ct9), sl9⟩) (c9 : PySem.W.codeIn K cd9 "is_name" = true) (k9 : PySem.W.keepIn K (.ref f9) = true)
    {f10 : Addr} {oc10 kV10 dc10 pm10 cd10 ct10 : Value} {od10 an10 : Option Addr} {sl10 : Array (Option Value)}
    (a10 : PySem.W.nsIn K mainGlobals "wrong_names" = some (some (.ref f10))) (l10 : K.lookup f10 = some ⟨oc10, od10, .func (PySem.W.fnOf "wrong_names" "wrong_names" (defArgs sWrongNames) (defBody sWrongNames) (defScope sWrongNames) .none kV10 dc10 pm10 an10 cd10 ct10), sl10⟩) (c10 : PySem.W.codeIn K cd10 "wrong_names" = true) (k10 : PySem.W.keepIn K (.ref f10) = true)
    {f11 : Addr} {oc11 kV11 dc11 pm11 cd11 ct11 : Value} {od11 an11 : Option Addr} {sl11 : Array (Option Value)}
    (a11 : PySem.W.nsIn K mainGlobals "rising_pair" = some (some (.ref f11))) (l11 : K.lookup f11 = some ⟨oc11, od11, .func (PySem.W.fnOf "rising_pair" "rising_pair" (defArgs sRisingPair) (defBody sRisingPair) (defScope sRisingPair) .none kV11 dc11 pm11 an11 cd11 ct11), sl11⟩) (c11 : PySem.W.codeIn K cd11 "rising_pair" = true) (k11 : PySem.W.keepIn K (.ref f11) = true)
    {f12 : Addr} {oc12 kV12 dc12 pm12 cd12 ct12 : Value} {od12 an12 : Option Addr} {sl12 : Array (Option Value)}
    (a12 : PySem.W.nsIn K mainGlobals "_is_pair" = some (some (.ref f12))) (l12 : K.lookup f12 = some ⟨oc12, od12, .func (PySem.W.fnOf "_is_pair" "_is_pair" (defArgs sIsPair) (defBody sIsPair) (defScope sIsPair) .none kV12 dc12 pm12 an12 cd12 ct12), sl12⟩) (c12 : PySem.W.codeIn K cd12 "_is_pair" = true) (k12 : PySem.W.keepIn K (.ref f12) = true)
    {f13 : Addr} {oc13 kV13 dc13 pm13 cd13 ct13 : Value} {od13 an13 : Option Addr} {sl13 : Array (Option Value)}
    (a13 : PySem.W.nsIn K mainGlobals "wrong_pairs" = some (some (.ref f13))) (l13 : K.lookup f13 = some ⟨oc13, od13, .func (PySem.W.fnOf "wrong_pairs" "wrong_pairs" (defArgs sWrongPairs) (defBody sWrongPairs) (defScope sWrongPairs) .none kV13 dc13 pm13 an13 cd13 ct13), sl13⟩) (c13 : PySem.W.codeIn K cd13 "wrong_pairs" = true) (k13 : PySem.W.keepIn K (.ref f13) = true)
    {f14 : Addr} {oc14 kV14 dc14 pm14 cd14 ct14 : Value} {od14 an14 : Option Addr} {sl14 : Array (Option Value)}
    (a14 : PySem.W.nsIn K mainGlobals "rising_pairs" = some (some (.ref f14))) (l14 : K.lookup f14 = some ⟨oc14, od14, .func (PySem.W.fnOf "rising_pairs" "rising_pairs" (defArgs sRisingPairs) (defBody sRisingPairs) (defScope sRisingPairs) .none kV14 dc14 pm14 an14 cd14 ct14), sl14⟩) (c14 : PySem.W.codeIn K cd14 "rising_pairs" = true) (k14 : PySem.W.keepIn K (.ref f14) = true)
    {f15 : Addr} {oc15 kV15 dc15 pm15 cd15 ct15 : Value} {od15 an15 : Option Addr} {sl15 : Array (Option Value)}
    (a15 : PySem.W.nsIn K mainGlobals "neighbours" = some (some (.ref f15))) (l15 : K.lookup f15 = some ⟨oc15, od15, .func (PySem.W.fnOf "neighbours" "neighbours" (defArgs sNeighbours) (defBody sNeighbours) (defScope sNeighbours) .none kV15 dc15 pm15 an15 cd15 ct15), sl15⟩) (c15 : PySem.W.codeIn K cd15 "neighbours" = true) (k15 : PySem.W.keepIn K (.ref f15) = true)
    {f16 : Addr} {oc16 kV16 dc16 pm16 cd16 ct16 : Value} {od16 an16 : Option Addr} {sl16 : Array (Option Value)}
    (a16 : PySem.W.findIn K (.ref c_House) "_refuse_three" = some (some (.ref f16))) (i16 : PySem.W.isFn K (.ref f16) = true) (l16 : K.lookup f16 = some ⟨oc16, od16, .func (PySem.W.fnOf "_refuse_three" "House._refuse_three" (defArgs sHouseRefuseThree) (defBody sHouseRefuseThree) (defScope sHouseRefuseThree) .none kV16 dc16 pm16 an16 cd16 ct16), sl16⟩) (c16 : PySem.W.codeIn K cd16 "House._refuse_three" = true) (k16 : PySem.W.keepIn K (.ref f16) = true)
    {f17 : Addr} {oc17 kV17 dc17 pm17 cd17 ct17 : Value} {od17 an17 : Option Addr} {sl17 : Array (Option Value)}
    (a17 : PySem.W.findIn K (.ref c_House) "has_room" = some (some (.ref f17))) (i17 : PySem.W.isFn K (.ref f17) = true) (l17 : K.lookup f17 = some ⟨oc17, od17, .func (PySem.W.fnOf "has_room" "House.has_room" (defArgs sHouseHasRoom) (defBody sHouseHasRoom) (defScope sHouseHasRoom) .none kV17 dc17 pm17 an17 cd17 ct17), sl17⟩) (c17 : PySem.W.codeIn K cd17 "House.has_room" = true) (k17 : PySem.W.keepIn K (.ref f17) = true)
    {f18 : Addr} {oc18 kV18 dc18 pm18 cd18 ct18 : Value} {od18 an18 : Option Addr} {sl18 : Array (Option Value)}
    (a18 : PySem.W.findIn K (.ref c_House) "need_room" = some (some (.ref f18))) (i18 : PySem.W.isFn K (.ref f18) = true) (l18 : K.lookup f18 = some ⟨oc18, od18, .func (PySem.W.fnOf "need_room" "House.need_room" (defArgs sHouseNeedRoom) (defBody sHouseNeedRoom) (defScope sHouseNeedRoom) .none kV18 dc18 pm18 an18 cd18 ct18), sl18⟩) (c18 : PySem.W.codeIn K cd18 "House.need_room" = true) (k18 : PySem.W.keepIn K (.ref f18) = true)
    {f19 : Addr} {oc19 kV19 dc19 pm19 cd19 ct19 : Value} {od19 an19 : Option Addr} {sl19 : Array (Option Value)}
    (a19 : PySem.W.findIn K (.ref c_House) "__init__" = some (some (.ref f19))) (i19 : PySem.W.isFn K (.ref f19) = true) (l19 : K.lookup f19 = some ⟨oc19, od19, .func (PySem.W.fnOf "__init__" "House.__init__" (defArgs sHouseInit) (defBody sHouseInit) (defScope sHouseInit) .none kV19 dc19 pm19 an19 cd19 ct19), sl19⟩) (c19 : PySem.W.codeIn K cd19 "House.__init__" = true) (k19 : PySem.W.keepIn K (.ref f19) = true)
    {f20 : Addr} {oc20 kV20 dc20 pm20 cd20 ct20 : Value} {od20 an20 : Option Addr} {sl20 : Array (Option Value)}
    (a20 : PySem.W.nsIn K mainGlobals "_law_shuffled" = some (some (.ref f20))) (l20 : K.lookup f20 = some ⟨oc20, od20, .func (PySem.W.fnOf "_law_shuffled" "_law_shuffled" (defArgs sShuffled) (defBody sShuffled) (defScope sShuffled) .none kV20 dc20 pm20 an20 cd20 ct20), sl20⟩) (c20 : PySem.W.codeIn K cd20 "_law_shuffled" = true) (k20 : PySem.W.keepIn K (.ref f20) = true)
    {f21 : Addr} {oc21 kV21 dc21 pm21 cd21 ct21 : Value} {od21 an21 : Option Addr} {sl21 : Array (Option Value)}
    (a21 : PySem.W.nsIn K mainGlobals "_law_handed" = some (some (.ref f21))) (l21 : K.lookup f21 = some ⟨oc21, od21, .func (PySem.W.fnOf "_law_handed" "_law_handed" (defArgs sHanded) (defBody sHanded) (defScope sHanded) .none kV21 dc21 pm21 an21 cd21 ct21), sl21⟩) (c21 : PySem.W.codeIn K cd21 "_law_handed" = true) (k21 : PySem.W.keepIn K (.ref f21) = true)
    {f22 : Addr} {oc22 kV22 dc22 pm22 cd22 ct22 : Value} {od22 an22 : Option Addr} {sl22 : Array (Option Value)}
    (a22 : PySem.W.nsIn K mainGlobals "_law_either" = some (some (.ref f22))) (l22 : K.lookup f22 = some ⟨oc22, od22, .func (PySem.W.fnOf "_law_either" "_law_either" (defArgs sEither) (defBody sEither) (defScope sEither) .none kV22 dc22 pm22 an22 cd22 ct22), sl22⟩) (c22 : PySem.W.codeIn K cd22 "_law_either" = true) (k22 : PySem.W.keepIn K (.ref f22) = true)
    {f23 : Addr} {oc23 kV23 dc23 pm23 cd23 ct23 : Value} {od23 an23 : Option Addr} {sl23 : Array (Option Value)}
    (a23 : PySem.W.nsIn K mainGlobals "_law_house" = some (some (.ref f23))) (l23 : K.lookup f23 = some ⟨oc23, od23, .func (PySem.W.fnOf "_law_house" "_law_house" (defArgs sHouse) (defBody sHouse) (defScope sHouse) .none kV23 dc23 pm23 an23 cd23 ct23), sl23⟩) (c23 : PySem.W.codeIn K cd23 "_law_house" = true) (k23 : PySem.W.keepIn K (.ref f23) = true)
    {f24 : Addr} {oc24 kV24 dc24 pm24 cd24 ct24 : Value} {od24 an24 : Option Addr} {sl24 : Array (Option Value)}
    (a24 : PySem.W.nsIn K mainGlobals "spans" = some (some (.ref f24))) (l24 : K.lookup f24 = some ⟨oc24, od24, .func (PySem.W.fnOf "spans" "spans" (defArgs sSpans) (defBody sSpans) (defScope sSpans) .none kV24 dc24 pm24 an24 cd24 ct24), sl24⟩) (c24 : PySem.W.codeIn K cd24 "spans" = true) (k24 : PySem.W.keepIn K (.ref f24) = true)
    {f25 : Addr} {oc25 kV25 dc25 pm25 cd25 ct25 : Value} {od25 an25 : Option Addr} {sl25 : Array (Option Value)}
    (a25 : PySem.W.nsIn K mainGlobals "path" = some (some (.ref f25))) (l25 : K.lookup f25 = some ⟨oc25, od25, .func (PySem.W.fnOf "path" "path" (defArgs sPath) (defBody sPath) (defScope sPath) .none kV25 dc25 pm25 an25 cd25 ct25), sl25⟩) (c25 : PySem.W.codeIn K cd25 "path" = true) (k25 : PySem.W.keepIn K (.ref f25) = true)
    {f26 : Addr} {oc26 kV26 dc26 pm26 cd26 ct26 : Value} {od26 an26 : Option Addr} {sl26 : Array (Option Value)}
    (a26 : PySem.W.findIn K (.ref c_House) "way" = some (some (.ref f26))) (i26 : PySem.W.isFn K (.ref f26) = true) (l26 : K.lookup f26 = some ⟨oc26, od26, .func (PySem.W.fnOf "way" "House.way" (defArgs sHouseWay) (defBody sHouseWay) (defScope sHouseWay) .none kV26 dc26 pm26 an26 cd26 ct26), sl26⟩) (c26 : PySem.W.codeIn K cd26 "House.way" = true) (k26 : PySem.W.keepIn K (.ref f26) = true)
    {f27 : Addr} {oc27 kV27 dc27 pm27 cd27 ct27 : Value} {od27 an27 : Option Addr} {sl27 : Array (Option Value)}
    (a27 : PySem.W.findIn K (.ref c_House) "steps" = some (some (.ref f27))) (i27 : PySem.W.isFn K (.ref f27) = true) (l27 : K.lookup f27 = some ⟨oc27, od27, .func (PySem.W.fnOf "steps" "House.steps" (defArgs sHouseSteps) (defBody sHouseSteps) (defScope sHouseSteps) .none kV27 dc27 pm27 an27 cd27 ct27), sl27⟩) (c27 : PySem.W.codeIn K cd27 "House.steps" = true) (k27 : PySem.W.keepIn K (.ref f27) = true)
    {f28 : Addr} {oc28 kV28 dc28 pm28 cd28 ct28 : Value} {od28 an28 : Option Addr} {sl28 : Array (Option Value)}
    (a28 : PySem.W.nsIn K mainGlobals "hung_together" = some (some (.ref f28))) (l28 : K.lookup f28 = some ⟨oc28, od28, .func (PySem.W.fnOf "hung_together" "hung_together" (defArgs sHungTogether) (defBody sHungTogether) (defScope sHungTogether) .none kV28 dc28 pm28 an28 cd28 ct28), sl28⟩) (c28 : PySem.W.codeIn K cd28 "hung_together" = true) (k28 : PySem.W.keepIn K (.ref f28) = true)
    {f29 : Addr} {oc29 kV29 dc29 pm29 cd29 ct29 : Value} {od29 an29 : Option Addr} {sl29 : Array (Option Value)}
    (a29 : PySem.W.findIn K (.ref c_House) "parts" = some (some (.ref f29))) (i29 : PySem.W.isFn K (.ref f29) = true) (l29 : K.lookup f29 = some ⟨oc29, od29, .func (PySem.W.fnOf "parts" "House.parts" (defArgs sHouseParts) (defBody sHouseParts) (defScope sHouseParts) .none kV29 dc29 pm29 an29 cd29 ct29), sl29⟩) (c29 : PySem.W.codeIn K cd29 "House.parts" = true) (k29 : PySem.W.keepIn K (.ref f29) = true)
    {f30 : Addr} {oc30 kV30 dc30 pm30 cd30 ct30 : Value} {od30 an30 : Option Addr} {sl30 : Array (Option Value)}
    (a30 : PySem.W.nsIn K mainGlobals "_law_reach" = some (some (.ref f30))) (l30 : K.lookup f30 = some ⟨oc30, od30, .func (PySem.W.fnOf "_law_reach" "_law_reach" (defArgs sReach) (defBody sReach) (defScope sReach) .none kV30 dc30 pm30 an30 cd30 ct30), sl30⟩) (c30 : PySem.W.codeIn K cd30 "_law_reach" = true) (k30 : PySem.W.keepIn K (.ref f30) = true)
    {f31 : Addr} {oc31 kV31 dc31 pm31 cd31 ct31 : Value} {od31 an31 : Option Addr} {sl31 : Array (Option Value)}
    (a31 : PySem.W.nsIn K mainGlobals "law" = some (some (.ref f31))) (l31 : K.lookup f31 = some ⟨oc31, od31, .func (PySem.W.fnOf "law" "law" (defArgs sLaw) (defBody sLaw) (defScope sLaw) .none kV31 dc31 pm31 an31 cd31 ct31), sl31⟩) (c31 : PySem.W.codeIn K cd31 "law" = true) (k31 : PySem.W.keepIn K (.ref f31) = true)
    {tkL : Tok} (gc_LETTERS : PySem.W.nsIn K mainGlobals "LETTERS" = some (some (.str "abcdefghijklmnopqrstuvwxyz" tkL))) {tkN : Tok} (gc_LONGEST : PySem.W.nsIn K mainGlobals "LONGEST" = some (some (.int 8 tkN)))
    (z_len : PySem.W.nsIn K mainGlobals "len" = some none) (z_range : PySem.W.nsIn K mainGlobals "range" = some none) (z_list_ : PySem.W.nsIn K mainGlobals "list" = some none) (z_tuple_ : PySem.W.nsIn K mainGlobals "tuple" = some none) (z_abs : PySem.W.nsIn K mainGlobals "abs" = some none) (z_max : PySem.W.nsIn K mainGlobals "max" = some none) (z_min : PySem.W.nsIn K mainGlobals "min" = some none) (z_sorted : PySem.W.nsIn K mainGlobals "sorted" = some none) (z_isinstance : PySem.W.nsIn K mainGlobals "isinstance" = some none) (z_int_ : PySem.W.nsIn K mainGlobals "int" = some none) (z_ValueError_ : PySem.W.nsIn K mainGlobals "ValueError" = some none) (z_bool_ : PySem.W.nsIn K mainGlobals "bool" = some none) (z_str_ : PySem.W.nsIn K mainGlobals "str" = some none) (z_dict_ : PySem.W.nsIn K mainGlobals "dict" = some none) (z_repr : PySem.W.nsIn K mainGlobals "repr" = some none) (z_zip : PySem.W.nsIn K mainGlobals "zip" = some none) (z_any : PySem.W.nsIn K mainGlobals "any" = some none) (z_all : PySem.W.nsIn K mainGlobals "all" = some none) (z_sum : PySem.W.nsIn K mainGlobals "sum" = some none) (z_set_ : PySem.W.nsIn K mainGlobals "set" = some none) :
    ∃ fd : FuncData, (∀ (s : Shared) (v : Value), BindsTo s fd ⟨[v], []⟩ [("_law_script", v)]) ∧ ∀ base : Heap, K.In base → base.Ns mainGlobals mg → FnG l.prog w K mg base CX0 6 fa fd ["_law_script"] (spLaw K) := by
  have e := hfa.symm.trans (PySem.W.mg_of X G a31)
  cases e
  have M : Mgs mg := ⟨PySem.W.mg_none_of X G z_len, PySem.W.mg_none_of X G z_range, PySem.W.mg_none_of X G z_list_, PySem.W.mg_none_of X G z_tuple_, PySem.W.mg_none_of X G z_abs, PySem.W.mg_none_of X G z_max, PySem.W.mg_none_of X G z_min, PySem.W.mg_none_of X G z_sorted, PySem.W.mg_none_of X G z_isinstance, PySem.W.mg_none_of X G z_int_, PySem.W.mg_none_of X G z_ValueError_, PySem.W.mg_none_of X G z_bool_, PySem.W.mg_none_of X G z_str_, PySem.W.mg_none_of X G z_dict_, PySem.W.mg_none_of X G z_repr, PySem.W.mg_none_of X G z_zip, PySem.W.mg_none_of X G z_any, PySem.W.mg_none_of X G z_all, PySem.W.mg_none_of X G z_sum, PySem.W.mg_none_of X G z_set_⟩
  have Z_House : HouseC K mg c_House := ⟨PySem.W.mg_of X G gc_House, ⟨pg_House, hd_House, po_House, sa_House⟩, n1_House, n2_House, n3_House⟩
  have c_LETTERS := PySem.W.mg_of X G gc_LETTERS
  have c_LONGEST := PySem.W.mg_of X G gc_LONGEST
  refine ⟨PySem.W.fnOf "law" "law" (defArgs sLaw) (defBody sLaw) (defScope sLaw) .none kV31 dc31 pm31 an31 cd31 ct31, fun s v => .of_eq rfl, fun base _ _ => ?_⟩
  have D_draw : DDraw l.prog w K mg base := df_of X G a0 l0 c0 k0 (fun _ _ _ _ _ _ us hl => match us, hl with | [_, _], _ => rfl) (fun F => ok_Draw F M)
  have D_pick : DPick l.prog w K mg base := df_of X G a1 l1 c1 k1 (fun _ _ _ _ _ _ us hl => match us, hl with | [_, _], _ => rfl) (fun F => ok_Pick F M D_draw)
  have D_pen : DPen l.prog w K mg base := df_of X G a2 l2 c2 k2 (fun _ _ _ _ _ _ us hl => match us, hl with | [_], _ => rfl) (fun F => ok_Pen F M)
  have D_names : DNames l.prog w K mg base := df_of X G a3 l3 c3 k3 (fun _ _ _ _ _ _ us hl => match us, hl with | [_, _], _ => rfl) (fun F => ok_Names F M D_draw D_pick)
  have D_near : DNear l.prog w K mg base := df_of X G a4 l4 c4 k4 (fun _ _ _ _ _ _ us hl => match us, hl with | [_, _], _ => rfl) (fun F => ok_Near F M)
  have D_may_door : DMayDoor l.prog w K mg base := df_of X G a5 l5 c5 k5 (fun _ _ _ _ _ _ us hl => match us, hl with | [_, _, _], _ => rfl) (fun F => ok_MayDoor F M D_near)
  have D_drawn_pairs : DDrawnPairs l.prog w K mg base := df_of X G a6 l6 c6 k6 (fun _ _ _ _ _ _ us hl => match us, hl with | [_, _, _], _ => rfl) (fun F => ok_DrawnPairs F M D_draw)
  have D_with_doors : DWithDoors l.prog w K mg base := df_of X G a7 l7 c7 k7 (fun _ _ _ _ _ _ us hl => match us, hl with | [_, _], _ => rfl) (fun F => ok_WithDoors F M D_may_door)
  have D_yard : DYard l.prog w K mg base := df_of X G a8 l8 c8 k8 (fun _ _ _ _ _ _ us hl => match us, hl with | [_, _], _ => rfl) (fun F => ok_Yard F M D_draw D_names D_drawn_pairs D_with_doors)
  have D_is_name : DIsName l.prog w K mg base := df_of X G a9 l9 c9 k9 (fun _ _ _ _ _ _ us hl => match us, hl with | [_], _ => rfl) (fun F => ok_IsName F M c_LETTERS c_LONGEST)
  have D_wrong_names : DWrongNames l.prog w K mg base := df_of X G a10 l10 c10 k10 (fun _ _ _ _ _ _ us hl => match us, hl with | [_], _ => rfl) (fun F => ok_WrongNames F M D_is_name)
  have D_rising_pair : DRisingPair l.prog w K mg base := df_of X G a11 l11 c11 k11 (fun _ _ _ _ _ _ us hl => match us, hl with | [_], _ => rfl) (fun F => ok_RisingPair F M)
  have D_is_pair : DIsPair l.prog w K mg base := df_of X G a12 l12 c12 k12 (fun _ _ _ _ _ _ us hl => match us, hl with | [_, _], _ => rfl) (fun F => ok_IsPair F M)
  have D_wrong_pairs : DWrongPairs l.prog w K mg base := df_of X G a13 l13 c13 k13 (fun _ _ _ _ _ _ us hl => match us, hl with | [_, _], _ => rfl) (fun F => ok_WrongPairs F M D_is_pair D_rising_pair)
  have D_rising_pairs : DRisingPairs l.prog w K mg base := df_of X G a14 l14 c14 k14 (fun _ _ _ _ _ _ us hl => match us, hl with | [_], _ => rfl) (fun F => ok_RisingPairs F M D_rising_pair)
  have D_neighbours : DNeighbours l.prog w K mg base := df_of X G a15 l15 c15 k15 (fun _ _ _ _ _ _ us hl => match us, hl with | [_, _], _ => rfl) (fun F => ok_Neighbours F M)
  have D_House_refuse_three : DHouseRefuseThree l.prog w K mg base c_House := dm_of a16 i16 l16 c16 k16 (fun _ _ _ _ _ _ us hl => match us, hl with | [_], _ => rfl) (fun F => ok_HouseRefuseThree F M Z_House)
  have D_House_has_room : DHouseHasRoom l.prog w K mg base c_House := dm_of a17 i17 l17 c17 k17 (fun _ _ _ _ _ _ us hl => match us, hl with | [_, _], _ => rfl) (fun F => ok_HouseHasRoom F M Z_House)
  have D_House_need_room : DHouseNeedRoom l.prog w K mg base c_House := dm_of a18 i18 l18 c18 k18 (fun _ _ _ _ _ _ us hl => match us, hl with | [_, _], _ => rfl) (fun F => ok_HouseNeedRoom F M Z_House D_House_has_room)
  have D_House_init : DHouseInit l.prog w K mg base c_House := dk_of (PySem.W.mg_of X G gc_House) mi_House kc_House a19 i19 l19 c19 k19 (fun _ _ _ _ _ _ us hl => match us, hl with | [_, _, _], _ => rfl) (fun F => ok_HouseInit F M Z_House D_wrong_names D_wrong_pairs D_rising_pairs D_neighbours D_House_refuse_three)
  have D_shuffled : DShuffled l.prog w K mg base := df_of X G a20 l20 c20 k20 (fun _ _ _ _ _ _ us hl => match us, hl with | [_, _], _ => rfl) (fun F => ok_Shuffled F M D_draw)
  have D_handed : DHanded l.prog w K mg base := df_of X G a21 l21 c21 k21 (fun _ _ _ _ _ _ us hl => match us, hl with | [_, _], _ => rfl) (fun F => ok_Handed F M D_shuffled D_draw)
  have D_either : DEither l.prog w K mg base := df_of X G a22 l22 c22 k22 (fun _ _ _ _ _ _ us hl => match us, hl with | [_, _], _ => rfl) (fun F => ok_Either F M D_shuffled D_draw)
  have D_house : DHouse l.prog w K mg base c_House := df_of X G a23 l23 c23 k23 (fun _ _ _ _ _ _ us hl => match us, hl with | [_, _], _ => rfl) (fun F => ok_House F M Z_House D_House_init D_handed D_either)
  have D_spans : DSpans l.prog w K mg base := df_of X G a24 l24 c24 k24 (fun _ _ _ _ _ _ us hl => match us, hl with | [_, _], _ => rfl) (fun F => ok_Spans F M)
  have D_path : DPath l.prog w K mg base := df_of X G a25 l25 c25 k25 (fun _ _ _ _ _ _ us hl => match us, hl with | [_, _, _], _ => rfl) (fun F => ok_Path F M D_spans)
  have D_House_way : DHouseWay l.prog w K mg base c_House := dm_of a26 i26 l26 c26 k26 (fun _ _ _ _ _ _ us hl => match us, hl with | [_, _, _], _ => rfl) (fun F => ok_HouseWay F M Z_House D_House_need_room D_path)
  have D_House_steps : DHouseSteps l.prog w K mg base c_House := dm_of a27 i27 l27 c27 k27 (fun _ _ _ _ _ _ us hl => match us, hl with | [_, _, _], _ => rfl) (fun F => ok_HouseSteps F M Z_House D_House_way)
  have D_hung_together : DHungTogether l.prog w K mg base := df_of X G a28 l28 c28 k28 (fun _ _ _ _ _ _ us hl => match us, hl with | [_, _], _ => rfl) (fun F => ok_HungTogether F M D_spans)
  have D_House_parts : DHouseParts l.prog w K mg base c_House := dm_of a29 i29 l29 c29 k29 (fun _ _ _ _ _ _ us hl => match us, hl with | [_], _ => rfl) (fun F => ok_HouseParts F M Z_House D_hung_together)
  have D_reach : DReach l.prog w K mg base := df_of X G a30 l30 c30 k30 (fun _ _ _ _ _ _ us hl => match us, hl with | [_, _], _ => rfl) (fun F => ok_Reach F M D_near)
  exact ok_Law (fun_mk l31 c31 k31) M Z_House D_pen D_draw D_yard D_house D_reach D_near D_House_steps D_House_way D_House_parts
end
end TT
open PySem PySem.W PyProof.Rows
set_option maxHeartbeats 0 in
theorem PySem.Challenge.cw_tautropes_k03_parts_and_steps_holds : PySem.Challenge.rw_tautropes_k03_parts_and_steps.Holds := by
  w_on; o_law; k_head; (case hw => w_witness2)
  k_fill
  refine TT.walk_ofG (l := PySem.Challenge.rw_tautropes_k03_parts_and_steps) (n := 63) (k := 6) (x := "_law_script") (CX := fun _ => L2.CX0) (sp := fun w => TT.spLaw _) rfl (by decide) rfl ⟨rfl, by decide, by decide⟩ (fun w h Y => PySem.W.kIn_of Y) ?F (fun _ _ a ns hl _ hS => ⟨a, ns, rfl, hS, hl, fun _ => rfl⟩) (fun _ _ _ _ _ h => h)
  case F =>
    intro w mg fa h KX G hmg
    refine' TT.all_mk KX G hmg ?gc_House ?pg_House ?hd_House ?po_House ?sa_House ?mi_House ?kc_House ?n1_House ?n2_House ?n3_House ?a0 ?l0 ?c0 ?k0 ?a1 ?l1 ?c1 ?k1 ?a2 ?l2 ?c2 ?k2 ?a3 ?l3 ?c3 ?k3 ?a4 ?l4 ?c4 ?k4 ?a5 ?l5 ?c5 ?k5 ?a6 ?l6 ?c6 ?k6 ?a7 ?l7 ?c7 ?k7 ?a8 ?l8 ?c8 ?k8 ?a9 ?l9 ?c9 ?k9 ?a10 ?l10 ?c10 ?k10 ?a11 ?l11 ?c11 ?k11 ?a12 ?l12 ?c12 ?k12 ?a13 ?l13 ?c13 ?k13 ?a14 ?l14 ?c14 ?k14 ?a15 ?l15 ?c15 ?k15 ?a16 ?i16 ?l16 ?c16 ?k16 ?a17 ?i17 ?l17 ?c17 ?k17 ?a18 ?i18 ?l18 ?c18 ?k18 ?a19 ?i19 ?l19 ?c19 ?k19 ?a20 ?l20 ?c20 ?k20 ?a21 ?l21 ?c21 ?k21 ?a22 ?l22 ?c22 ?k22 ?a23 ?l23 ?c23 ?k23 ?a24 ?l24 ?c24 ?k24 ?a25 ?l25 ?c25 ?k25 ?a26 ?i26 ?l26 ?c26 ?k26 ?a27 ?i27 ?l27 ?c27 ?k27 ?a28 ?l28 ?c28 ?k28 ?a29 ?i29 ?l29 ?c29 ?k29 ?a30 ?l30 ?c30 ?k30 ?a31 ?l31 ?c31 ?k31 ?gc_LETTERS ?gc_LONGEST ?z_len ?z_range ?z_list_ ?z_tuple_ ?z_abs ?z_max ?z_min ?z_sorted ?z_isinstance ?z_int_ ?z_ValueError_ ?z_bool_ ?z_str_ ?z_dict_ ?z_repr ?z_zip ?z_any ?z_all ?z_sum ?z_set_
    (case gc_House => k_is)
    (case pg_House => k_is)
    (case hd_House => k_is)
    (case po_House => k_is)
    (case sa_House => k_is)
    (case mi_House => k_is)
    (case kc_House => k_is)
    (case n1_House => k_is)
    (case n2_House => k_is)
    (case n3_House => k_is)
    (case a0 => k_is)
    (case l0 => k_is)
    (case c0 => k_is)
    (case k0 => k_is)
    (case a1 => k_is)
    (case l1 => k_is)
    (case c1 => k_is)
    (case k1 => k_is)
    (case a2 => k_is)
    (case l2 => k_is)
    (case c2 => k_is)
    (case k2 => k_is)
    (case a3 => k_is)
    (case l3 => k_is)
    (case c3 => k_is)
    (case k3 => k_is)
    (case a4 => k_is)
    (case l4 => k_is)
    (case c4 => k_is)
    (case k4 => k_is)
    (case a5 => k_is)
    (case l5 => k_is)
    (case c5 => k_is)
    (case k5 => k_is)
    (case a6 => k_is)
    (case l6 => k_is)
    (case c6 => k_is)
    (case k6 => k_is)
    (case a7 => k_is)
    (case l7 => k_is)
    (case c7 => k_is)
    (case k7 => k_is)
    (case a8 => k_is)
    (case l8 => k_is)
    (case c8 => k_is)
    (case k8 => k_is)
    (case a9 => k_is)
    (case l9 => k_is)
    (case c9 => k_is)
    (case k9 => k_is)
    (case a10 => k_is)
    (case l10 => k_is)
    (case c10 => k_is)
    (case k10 => k_is)
    (case a11 => k_is)
    (case l11 => k_is)
    (case c11 => k_is)
    (case k11 => k_is)
    (case a12 => k_is)
    (case l12 => k_is)
    (case c12 => k_is)
    (case k12 => k_is)
    (case a13 => k_is)
    (case l13 => k_is)
    (case c13 => k_is)
    (case k13 => k_is)
    (case a14 => k_is)
    (case l14 => k_is)
    (case c14 => k_is)
    (case k14 => k_is)
    (case a15 => k_is)
    (case l15 => k_is)
    (case c15 => k_is)
    (case k15 => k_is)
    (case a16 => k_is)
    (case i16 => k_is)
    (case l16 => k_is)
    (case c16 => k_is)
    (case k16 => k_is)
    (case a17 => k_is)
    (case i17 => k_is)
    (case l17 => k_is)
    (case c17 => k_is)
    (case k17 => k_is)
    (case a18 => k_is)
    (case i18 => k_is)
    (case l18 => k_is)
    (case c18 => k_is)
    (case k18 => k_is)
    (case a19 => k_is)
    (case i19 => k_is)
    (case l19 => k_is)
    (case c19 => k_is)
    (case k19 => k_is)
    (case a20 => k_is)
    (case l20 => k_is)
    (case c20 => k_is)
    (case k20 => k_is)
    (case a21 => k_is)
    (case l21 => k_is)
    (case c21 => k_is)
    (case k21 => k_is)
    (case a22 => k_is)
    (case l22 => k_is)
    (case c22 => k_is)
    (case k22 => k_is)
    (case a23 => k_is)
    (case l23 => k_is)
    (case c23 => k_is)
    (case k23 => k_is)
    (case a24 => k_is)
    (case l24 => k_is)
    (case c24 => k_is)
    (case k24 => k_is)
    (case a25 => k_is)
    (case l25 => k_is)
    (case c25 => k_is)
    (case k25 => k_is)
    (case a26 => k_is)
    (case i26 => k_is)
    (case l26 => k_is)
    (case c26 => k_is)
    (case k26 => k_is)
    (case a27 => k_is)
    (case i27 => k_is)
    (case l27 => k_is)
    (case c27 => k_is)
    (case k27 => k_is)
    (case a28 => k_is)
    (case l28 => k_is)
    (case c28 => k_is)
    (case k28 => k_is)
    (case a29 => k_is)
    (case i29 => k_is)
    (case l29 => k_is)
    (case c29 => k_is)
    (case k29 => k_is)
    (case a30 => k_is)
    (case l30 => k_is)
    (case c30 => k_is)
    (case k30 => k_is)
    (case a31 => k_is)
    (case l31 => k_is)
    (case c31 => k_is)
    (case k31 => k_is)
    (case gc_LETTERS => k_is)
    (case gc_LONGEST => k_is)
    (case z_len => k_is)
    (case z_range => k_is)
    (case z_list_ => k_is)
    (case z_tuple_ => k_is)
    (case z_abs => k_is)
    (case z_max => k_is)
    (case z_min => k_is)
    (case z_sorted => k_is)
    (case z_isinstance => k_is)
    (case z_int_ => k_is)
    (case z_ValueError_ => k_is)
    (case z_bool_ => k_is)
    (case z_str_ => k_is)
    (case z_dict_ => k_is)
    (case z_repr => k_is)
    (case z_zip => k_is)
    (case z_any => k_is)
    (case z_all => k_is)
    (case z_sum => k_is)
    (case z_set_ => k_is)
