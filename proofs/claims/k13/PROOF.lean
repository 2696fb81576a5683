import PyProof.Rows.All
import Wide.All
import OpenK.AllK
import Wide.FinOn
import PySem.Challenge.RW_neverhalves_k13_sums_that_are_none
import HandS.ForMost
import HandS.Wide
import HandS.Evl
import HandS.Conv
import HandS.TupLe
import HandS.TupAny
import HandS.TupMul
import HandS.TupLen
import HandS.TupSets
import HandS.SortOrd
import HandS.Walk
import HandS.DictComp
import PyProof.FactsAll.tuple_2
import KE.GoesMore
import HandS.Codes
import HandS.Style
import HandS.Defaults
import HandS.IsInst
set_option Elab.async false
set_option linter.all false
set_option maxRecDepth 100000
namespace R1
open PySem PySem.Spec PyProof.Rows L2
/-! ### the order of lists of ints -/
theorem lex_irrefl : ∀ ns : List Int, HT.lexLt ns ns = false
  | [] => rfl
  | x :: r => by rw [HT.lexLt_cons, if_pos rfl]; exact lex_irrefl r
theorem lex_asym : ∀ ns ms : List Int, HT.lexLt ns ms = true → HT.lexLt ms ns = false
  | [], [], h => by cases h
  | [], _ :: _, _ => rfl
  | _ :: _, [], h => by cases h
  | x :: r, y :: q, h => by
    rw [HT.lexLt_cons] at h ⊢
    by_cases e : x = y
    · rw [if_pos e] at h
      rw [if_pos e.symm]
      exact lex_asym r q h
    · rw [if_neg e] at h
      rw [if_neg (fun z => e z.symm)]
      have := of_decide_eq_true h
      exact decide_eq_false (by omega)
theorem lex_tr : ∀ x y z : List Int, HT.lexLt x y = false → HT.lexLt z x = false → HT.lexLt z y = false
  | [], [], z, _, h => h
  | [], _ :: _, _, h, _ => by cases h
  | _ :: _, _, [], _, h => by cases h
  | _ :: _, [], _ :: _, _, _ => rfl
  | x :: r, y :: q, z :: s, h1, h2 => by
    rw [HT.lexLt_cons] at h1 h2 ⊢
    by_cases e1 : x = y
    · rw [if_pos e1] at h1
      by_cases e2 : z = x
      · rw [if_pos e2] at h2
        rw [if_pos (e2.trans e1)]
        exact lex_tr r q s h1 h2
      · rw [if_neg e2] at h2
        have := of_decide_eq_false h2
        rw [if_neg (by omega)]
        exact decide_eq_false (by omega)
    · rw [if_neg e1] at h1
      have a1 := of_decide_eq_false h1
      by_cases e2 : z = x
      · rw [if_neg (by omega)]
        exact decide_eq_false (by omega)
      · rw [if_neg e2] at h2
        have a2 := of_decide_eq_false h2
        rw [if_neg (by omega)]
        exact decide_eq_false (by omega)

theorem swo_lexK {α : Type} (k : α → List Int) : SrtO.Swo fun v u => HT.lexLt (k v) (k u) :=
  ⟨fun x y h => lex_asym _ _ h, fun x y z h1 h2 => lex_tr _ _ _ h1 h2⟩
section
variable {prog : Program} {w : World} {A : Around} {E : Value → Shared → Prop} {s : Shared}
theorem kat_ints {Q : Bool → Shared → Prop} : ∀ (i : Nat) {vs us : List Value} {ns ms : List Int}, IntsAre vs ns → IntsAre us ms → Q (HT.lexLt ns ms) s → PySem.W.KatLex prog w A true (decide (ns.length < ms.length)) Q (vs.zip us) i s
  | i, _, _, [], [], .nil, .nil, q => q
  | i, _, _, [], m :: ms, .nil, .cons _ _ _, q => by
    have e : decide (([] : List Int).length < (m :: ms).length) = true := decide_eq_true (by simp)
    rw [e]
    exact q
  | i, _, _, _ :: _, [], .cons _ _ _, .nil, q => by
    rw [decide_eq_false (by simp)]
    exact q
  | i, _, _, n :: ns, m :: ms, .cons _ t r, .cons _ t' r', q => by
    refine PySem.W.kat_cons (SeqAt.EqAt.int_int _ _ _ _ prog w _ _ ?_)
    rw [HT.lexLt_cons] at q
    refine PySem.W.kat_go (fun e1 => ?_) (fun e1 => ?_)
    · have ex : n = m := by simpa using e1
      rw [if_pos ex] at q
      have z := kat_ints (Q := Q) (i + 1) r r' q
      refine PySem.W.kat_yes ?_
      have e2 : decide ((n :: ns).length < (m :: ms).length) = decide (ns.length < ms.length) := by simp
      rw [e2]
      exact z
    · have ex : ¬ n = m := by simpa using e1
      rw [if_neg ex] at q
      exact PySem.W.kat_no (TS.oneLt_ints _ q)
theorem firsts {h : Heap} : ∀ vs : List Value, (∀ v ∈ vs, ∃ ns, TS.TupInts h v ns ∧ ns ≠ []) → ∃ fs, PySem.W.KatTups h vs fs ∧ fs.length = vs.length ∧ ∀ f, f ∈ fs → ∃ n t, f = Value.int n t
  | [], _ => ⟨[], PySem.W.KatTups.nil, rfl, fun f hf => by simp at hf⟩
  | v :: vs, x => by
    obtain ⟨fs, k, hl, hi⟩ := firsts vs fun u hu => x u (List.mem_cons_of_mem _ hu)
    obtain ⟨ns, ⟨a, xs, rfl, ⟨o, ho, hc, n, hdt⟩, i⟩, hn⟩ := x v (List.mem_cons_self ..)
    obtain ⟨y, ys, e⟩ : ∃ y ys, xs.toList = y :: ys := by
      cases q : xs.toList with
      | nil =>
        rw [q] at i
        cases i
        exact absurd rfl hn
      | cons y ys => exact ⟨y, ys, rfl⟩
    obtain ⟨m, t, hy⟩ := i.all y (by rw [e]; exact List.mem_cons_self ..)
    refine ⟨y :: fs, PySem.W.KatTups.cons ho hc hdt ?_ k, by simp [hl], ?_⟩
    · have z := congrArg (fun l : List Value => l[0]?) e
      simpa using z
    · intro f hf
      rcases List.mem_cons.mp hf with rfl | hf
      · exact ⟨m, t, hy⟩
      · exact hi f hf
theorem tup_cmp {vs : List Value} {k : Value → List Int} (hp : ∀ v ∈ vs, TS.TupInts s.heap v (k v)) : SrtO.Cmp prog w A s (tuples' true) (fun p => p.1 ∈ vs) (SrtO.lt2 fun v u => HT.lexLt (k v) (k u)) := by
  intro p q hm hm'
  obtain ⟨a, xs, e1, ⟨o, ho, hc, n, hdt⟩, i⟩ := hp _ hm
  obtain ⟨a', ys, e2, ⟨o', ho', hc', n', hdt'⟩, i'⟩ := hp _ hm'
  show wpAny (model prog w) A (keyLt' (tuples' true) p.1 q.1) (fun r s' => s' = s ∧ r = HT.lexLt (k p.1) (k q.1)) (fun _ _ => False) s
  have z := kat_ints (prog := prog) (w := w) (A := A) (s := s) (Q := fun r s' => s' = s ∧ r = HT.lexLt (k p.1) (k q.1)) 0 i i' ⟨rfl, rfl⟩
  rw [e1, e2] at z ⊢
  refine PySem.W.kat_lt ho hdt ho' hdt' ?_
  have l1 := i.length
  have l2 := i'.length
  rw [Array.length_toList] at l1 l2
  rw [e1] at l1
  rw [e2] at l2
  rw [l1, l2]
  exact z
theorem tups_sortable {a : Addr} {vs : List Value} {k : Value → List Int} (h0 : 0 < vs.length) (hp : ∀ v ∈ vs, TS.TupInts s.heap v (k v) ∧ k v ≠ []) (ha : ∀ o, s.heap.get? a = some o → o.cls ≠ .type "tuple") : SrtO.SortableO prog w A s a vs fun v u => HT.lexLt (k v) (k u) := by
  intro h' keep
  have hp' : ∀ v ∈ vs, TS.TupInts h' v (k v) := fun v hm => (hp v hm).1.keeps fun b o e c => keep b o (fun z => by subst z; exact ha o e c) e
  obtain ⟨fs, h1, h2, h3⟩ := firsts vs fun v hm => ⟨_, hp' v hm, (hp v hm).2⟩
  refine ⟨tuples' true, fun Q E hq => ?_, tup_cmp hp'⟩
  refine PySem.W.kat_kind (T := .type "int") h1 (by omega) (fun f hm => ?_) (by rfl) ?_
  · obtain ⟨x, t, rfl⟩ := h3 f hm
    exact PySem.W.Looks.now
  · have e : (Value.type "int" != Value.type "tuple") = true := by first | decide +kernel | rfl | decide
    rw [e]
    exact hq
end
/-! ### sorted(d), the keys of d tuples of ints -/
/-- a dict whose keys are tuples of ints -/
abbrev dI (kvs : List (List Int × V)) : HO := .dT (kvs.map fun p => (p.1.map Sum.inl, p.2))
def rSortedDT : List V → Hp → VK → Prop := fun vs H Q => ∃ (a : Addr) (kvs : List (List Int × V)), vs = [V.ref a] ∧ Rd H a (dI kvs) ∧ (∀ p ∈ kvs, p.1 ≠ []) ∧
  ∀ (ks : List (Addr × List Int)) (p : Addr), (ks.map (·.2)).Perm (kvs.map (·.1)) → ks.Pairwise (fun x y => HT.lexLt y.2 x.2 = false) → (∀ q ∈ ks, H q.1 = some (.tup (q.2.map V.int))) → H p = none →
    Q (.ref p) (upd H p (.lst (ks.map fun q => V.ref q.1)))
section
variable {X : Cx}
theorem keyIs_int {i : Int} {v : Value} (h : keyIs (.inl i) v = true) : ∃ t, v = .int i t := by
  rcases keyIs_shape h with ⟨j, t, e, ev⟩ | ⟨z, t, e, ev⟩
  · cases e
    exact ⟨t, ev⟩
  · cases e
theorem map_kV (ns : List Int) : (ns.map Sum.inl : List Key).map kV = ns.map V.int := by
  rw [List.map_map]
  rfl
theorem perm_lift {α β : Type} {f : α → β} {l₁ l₂ : List β} (h : l₁.Perm l₂) : ∀ L : List α, L.map f = l₂ → ∃ L' : List α, L'.Perm L ∧ L'.map f = l₁ := by
  induction h with
  | nil =>
    intro L e
    exact ⟨L, .refl _, e⟩
  | cons x _ ih =>
    intro L e
    cases L with
    | nil => cases e
    | cons y L =>
      obtain ⟨e1, e2⟩ := List.cons.inj e
      obtain ⟨L', p, em⟩ := ih L e2
      exact ⟨y :: L', p.cons y, by rw [List.map_cons, em, e1]⟩
  | swap x y l =>
    intro L e
    match L, e with
    | u :: v :: L, e =>
      obtain ⟨e1, e2⟩ := List.cons.inj e
      obtain ⟨e3, e4⟩ := List.cons.inj e2
      exact ⟨v :: u :: L, .swap _ _ _, by rw [List.map_cons, List.map_cons, e1, e3, e4]⟩
  | trans _ _ ih1 ih2 =>
    intro L e
    obtain ⟨L1, p1, e1⟩ := ih2 L e
    obtain ⟨L2, p2, e2⟩ := ih1 L1 e1
    exact ⟨L2, p2.trans p1, e2⟩
theorem rows_of {H : Hp} : ∀ {kvs : List (List Int × V)} {xs : List (List Key × Addr × Value)},
    Paired (fun (p : List Key × V) (q : List Key × Addr × Value) => p.1 = q.1 ∧ H q.2.1 = some (HO.tup (p.1.map kV)) ∧ L2.RelV p.2 q.2.2) (kvs.map fun p => ((p.1.map Sum.inl : List Key), p.2)) xs →
    ∃ L0 : List (Addr × List Int), L0.map (·.2) = kvs.map (·.1) ∧ xs.map (fun x => Value.ref x.2.1) = L0.map (fun q => Value.ref q.1) ∧ ∀ q ∈ L0, H q.1 = some (.tup (q.2.map V.int))
  | [], _, .nil => ⟨[], rfl, rfl, fun q h => by cases h⟩
  | p :: kvs, x :: xs, .cons r t => by
    obtain ⟨L0, e1, e2, e3⟩ := rows_of t
    refine ⟨(x.2.1, p.1) :: L0, by rw [List.map_cons, List.map_cons, e1], by rw [List.map_cons, List.map_cons, e2], fun q hq => ?_⟩
    rcases List.mem_cons.mp hq with rfl | hq
    · have := r.2.1
      rw [map_kV] at this
      exact this
    · exact e3 q hq
theorem cr_sortedDT (hc : X.calm = true) : CallR X (.builtin "sorted") rSortedDT := by
  intro pins s σ H vs us Q I r h
  obtain ⟨a, kvs, rfl, hd, hk, q⟩ := h
  obtain ⟨u, rfl, rx⟩ := vals1 r
  cases rx
  obtain ⟨z, hs, xs, pr, o, es, ep, ho, hx, hdt, he, hn⟩ := (show ObjOk X.prog X.w H s.heap a (dI kvs) from hd.ok I.hok)
  have l1 : es.size = xs.length := size_of_entries he
  have l2 : (kvs.map fun p => ((p.1.map Sum.inl : List Key), p.2)).length = xs.length := Paired.length pr
  rw [List.length_map] at l2 z
  refine Calls.call_function_entry PyProof.Rows.kind_sorted PyProof.Rows.plain_sorted PyProof.Rows.entry_sorted (PyProof.Rows.args_sorted1 _) ?_
  unfold Builtin.«sorted»
  refine wpAny_bind (m := checkCount "sorted" 1 1 _) (wpAny_pure ?_)
  refine wpAny_bind (PySem.W.kdu_collect (A := X.A.in1) (kdl_raw hs hx hdt) (I.ok.hd hc) ho (by omega) fun h' tk acc hk' hacc => ?_)
  have ea : acc.toList = xs.map fun x => Value.ref x.2.1 := by
    have hl : acc.toList.length = xs.length := by rw [Array.length_toList, hacc.1]; exact l1
    apply List.ext_getElem?
    intro j
    rw [List.getElem?_map]
    cases hj : acc.toList[j]? with
    | none =>
      have h1 := List.getElem?_eq_none_iff.mp hj
      rw [List.getElem?_eq_none (by omega)]
      all_goals rfl
    | some v =>
      obtain ⟨en, hen, hv⟩ := hacc.2 j v (by rw [← Array.getElem?_toList]; exact hj)
      have qe := entry_at he j
      rw [hen] at qe
      cases hb : xs[j]? with
      | none =>
        rw [hb] at qe
        exact nomatch (show some en = none from qe)
      | some b =>
        rw [hb] at qe
        have e2 : en = entryOfKey (tupleKind (mixKind X.prog X.w)) b := Option.some.inj qe
        rw [hv, e2]
        all_goals rfl
  have I1 : Inv X pins σ H { s with heap := h', toks := tk } := I.kept hk'
  obtain ⟨L0, m1, m2, m3⟩ := rows_of pr
  rw [m2] at ea
  have hvl : acc.toList.length ≤ sizeLine := by
    rw [ea, List.length_map]
    have := congrArg List.length m1
    rw [List.length_map, List.length_map] at this
    omega
  refine wpAny_bind (wpAny_newList ?_ hvl)
  have hoL : (h'.push (seqObj "list" acc.toList.toArray 0)).get? h'.objs.size = some (seqObj "list" acc.toList.toArray 0) := Heap.get?_push_size _ rfl
  have I2 : Inv X pins σ H { s with heap := h'.push (seqObj "list" acc.toList.toArray 0), toks := tk } := I1.kept fun b o e => Heap.get?_push_of_some _ e
  show wpAny _ _ _ _ _ { s with heap := h'.push (seqObj "list" acc.toList.toArray 0), toks := tk }
  have tk2 : ∀ q ∈ L0, TS.TupInts (h'.push (seqObj "list" acc.toList.toArray 0)) (.ref q.1) q.2 := fun q hq => tupI_raw I2 (.inl (.inl (m3 q hq)))
  have hne : ∀ q ∈ L0, q.2 ≠ [] := fun q hq => by
    have : q.2 ∈ kvs.map (·.1) := by
      rw [← m1]
      exact List.mem_map.mpr ⟨q, hq, rfl⟩
    obtain ⟨p, hp, e⟩ := List.mem_map.mp this
    rw [← e]
    exact hk p hp
  refine wpAny_bind (wpAny_holding (wpAny_call_entry PyProof.Rows.slot_list_sort ⟨_, hoL, rfl⟩ PyProof.Rows.entry_list_sort
    (SrtO.list_sort_ord (s := { s with heap := h'.push (seqObj "list" acc.toList.toArray 0), toks := tk }) (swo_lexK (TS.intsOf (h'.push (seqObj "list" acc.toList.toArray 0)))) hoL hvl
      (fun h2 => tups_sortable (by omega) (fun v hv => ?_) fun o e => ?_) fun out hs1 hb => ⟨_, rfl, ?_⟩) (PyProof.Rows.args_list_sort _)))
  · rw [ea] at hv
    obtain ⟨q, hq, e⟩ := List.mem_map.mp hv
    subst e
    have t := tk2 q hq
    rw [t.ints]
    exact ⟨t, hne q hq⟩
  · have e' : some o = some (seqObj "list" acc.toList.toArray 0) := e.symm.trans hoL
    cases e'
    intro c
    exact absurd (Value.type.inj c) (by decide)
  · obtain ⟨L', p1, e1⟩ := perm_lift (f := fun q : Addr × List Int => Value.ref q.1) hb.perm L0 ea.symm
    obtain ⟨e', he'⟩ := PyProof.Rows.sortedHeap_at (vs := acc.toList) (out := out.toArray) hoL
    have hlen : (L'.map fun q => V.ref q.1).length ≤ sizeLine := by
      rw [List.length_map, p1.length_eq]
      rw [ea, List.length_map] at hvl
      exact hvl
    have rv : Vals (L'.map fun q => V.ref q.1) out := by
      rw [← e1]
      clear e1 p1 hlen
      induction L' with
      | nil => exact .nil
      | cons q L ih => exact .cons rfl ih
    refine wpAny_pure ⟨_, rfl, .ref h'.objs.size, upd H h'.objs.size (.lst (L'.map fun q => V.ref q.1)), I1.laid (t' := tk) (fun b u e => ?_) (Nat.le_refl _)
      (show ObjOk X.prog X.w _ _ _ (.lst (L'.map fun q => V.ref q.1)) from ⟨hlen, out, e', rv, he'⟩), rfl, q L' _ ?_ ?_ (fun q hq => m3 q (p1.mem_iff.mp hq)) (I1.hok.fresh (Nat.le_refl _))⟩
    · have hb : b < h'.objs.size := Heap.lt_size e
      rw [PyProof.Rows.sortedHeap_old (Nat.ne_of_lt hb) (by rw [size_push']; exact Nat.lt_succ_of_lt hb)]
      exact Heap.get?_push_of_some _ e
    · rw [← m1]
      exact p1.map _
    · rw [← e1] at hs1
      refine List.Pairwise.imp_of_mem (fun {x y} hx hy h => ?_) (List.pairwise_map.mp hs1)
      have h : HT.lexLt (TS.intsOf (h'.push (seqObj "list" acc.toList.toArray 0)) (Value.ref y.1)) (TS.intsOf (h'.push (seqObj "list" acc.toList.toArray 0)) (Value.ref x.1)) = false := h
      rw [(tk2 x (p1.mem_iff.mp hx)).ints, (tk2 y (p1.mem_iff.mp hy)).ints] at h
      exact h
end
end R1

namespace R1
open PySem PySem.Spec PyProof.Rows L2
/-! ### d != {} -/
section
variable {prog : Program} {w : World} {A : Around} {E : Value → Shared → Prop} {s : Shared}
theorem samePairs0 {nm : String} {a b : Addr} {oa ob : Obj} {es es' : Array DictEntry} {ep ep' : Nat} {Q : Bool → Shared → Prop} (ha : (a == sysModules) = false) (hb : (b == sysModules) = false)
    (hoa : s.heap.get? a = some oa) (hda : oa.data = .dict es ep) (hob : s.heap.get? b = some ob) (hdb : ob.data = .dict es' ep') (h0 : es'.size = 0) (h : Q (decide (es.size = 0)) s) :
    wpAny (model prog w) A (Builtin.Dict.samePairs nm a b) Q E s := by
  unfold Builtin.Dict.samePairs Builtin.Dict.showsAll
  rw [if_neg (show ¬ (a == sysModules) = true by rw [ha]; exact Bool.false_ne_true), if_neg (show ¬ (b == sysModules) = true by rw [hb]; exact Bool.false_ne_true)]
  refine wpAny_bind (wpAny_pure (wpAny_bind (wpAny_pure ?_)))
  refine wpAny_bind (wpAny_dictEntries hoa hda ?_)
  dsimp only
  refine wpAny_bind (wpAny_dictEntries hob hdb ?_)
  by_cases hsz : es.size = es'.size
  case neg =>
    rw [if_pos (by simpa using hsz)]
    rw [decide_eq_false (by omega)] at h
    exact wpAny_bind (wpAny_rule (wpAny_pure h))
  case pos =>
    rw [decide_eq_true (by omega)] at h
    rw [if_neg (by rw [hsz]; simp)]
    refine wpAny_bind (wpAny_dictEpoch hoa hda ?_)
    refine wpAny_bind ?_
    rw [Std.Legacy.Range.forIn_eq_forIn_range']
    have e0 : es.size = 0 := by omega
    simp only [Std.Legacy.Range.size, Nat.sub_zero, Nat.add_sub_cancel, Nat.div_one, e0, List.range'_zero]
    exact wpAny_pure (wpAny_pure h)
theorem dicts_ne0 {a b : Addr} {oa ob : Obj} {es es' : Array DictEntry} {ep ep' : Nat} {Q : Value → Shared → Prop} (ha : (a == sysModules) = false) (hb : (b == sysModules) = false)
    (hoa : s.heap.get? a = some oa) (xa : oa.ExactDict) (hda : oa.data = .dict es ep) (hob : s.heap.get? b = some ob) (xb : ob.ExactDict) (hdb : ob.data = .dict es' ep') (h0 : es'.size = 0) (hu : A.units < cLine) (h : Q (.bool (!decide (es.size = 0))) s) :
    wpAny (model prog w) A (compareOp .NotEq (.ref a) (.ref b)) Q E s := by
  have ta : s.TypeIs (.ref a) "dict" := ⟨oa, hoa, xa.1⟩
  have tb : s.TypeIs (.ref b) "dict" := ⟨ob, hob, xb.1⟩
  refine wpAny_richCompare_same_room (op := .NotEq) ta tb PySem.F.slot_dict_ne (wpAny_call_entry PySem.F.slot_dict_ne ta PySem.F.entry_dict_ne ?_ (PySem.F.args_dict_ne_2 _ _)) hu
  show wpAny _ _ (Builtin.Dict.dictSlotArgs "__ne__" ⟨[.ref a, .ref b], []⟩ >>= _) _ _ s
  refine wpAny_bind ?_
  unfold Builtin.Dict.dictSlotArgs
  refine wpAny_bind (wpAny_notOrdered_dict ta ?_)
  show wpAny _ _ (pure (Value.ref a, Value.ref b)) _ _ s
  refine wpAny_pure ?_
  refine wpAny_bind (wpAny_isInstance (T := "dict") tb PySem.F.sub_dict_dict ?_)
  simp only [Bool.not_true, Bool.false_eq_true, if_false]
  refine wpAny_bind (wpAny_pure (wpAny_bind (wpAny_pure ?_)))
  refine wpAny_bind (samePairs0 ha hb hoa hda hob hdb h0 ?_)
  refine wpAny_pure ⟨_, rfl, ?_, ?_⟩
  · exact fun x => nomatch x
  · simpa using h
end
/-- d != {} -/
def rNeD0 : R2 := fun x y H Q => ∃ (a b : Addr) (kvs : List (List Key × V)), x = .ref a ∧ y = .ref b ∧ H a = some (.dT kvs) ∧ H b = some (.dT []) ∧ Q (.bl (!decide (kvs.length = 0))) H
section
variable {X : Cx}
theorem op_neD0 (hu : X.A.units < cLine) : OpR X (compareOp .NotEq) rNeD0 := by
  intro pins s σ H x y v u Q I rx ry h
  obtain ⟨a, b, kvs, rfl, rfl, ea, eb, q⟩ := h
  obtain rfl : v = Value.ref a := rx
  obtain rfl : u = Value.ref b := ry
  obtain ⟨_, ya, va, ra, oa, es, ep, ho, hx, hd, he, _⟩ := (show ObjOk X.prog X.w H s.heap a (.dT kvs) from I.hok a _ ea)
  obtain ⟨_, yb, vb, rb, ob, es', ep', ho', hx', hd', he', _⟩ := (show ObjOk X.prog X.w H s.heap b (.dT []) from I.hok b _ eb)
  have l1 : es.size = va.length := size_of_entries he
  have l2 : es'.size = vb.length := size_of_entries he'
  have l3 : kvs.length = va.length := Paired.length ra
  have l4 : ([] : List (List Key × V)).length = vb.length := Paired.length rb
  refine dicts_ne0 ya yb ho hx hd ho' hx' hd' (by rw [l2, ← l4]; rfl) hu ⟨.bl _, H, I, rfl, ?_⟩
  rw [l1, ← l3]
  exact q
/-! ### t >= u of tuples of ints -/
theorem lexAt_shift (e r : Nat → Bool) (z : Bool) : ∀ (k i : Nat), Ob.lexAt e r z (i + 1) k = Ob.lexAt (fun j => e (j + 1)) (fun j => r (j + 1)) z i k
  | 0, _ => rfl
  | k + 1, i => by
    rw [Ob.lexAt_succ, Ob.lexAt_succ, lexAt_shift e r z k (i + 1)]
theorem lexGe : ∀ ns ms : List Int, Ob.lexAt (fun j => decide (ns.getD j 0 = ms.getD j 0)) (fun j => decide (ms.getD j 0 ≤ ns.getD j 0)) (decide (ns.length ≥ ms.length)) 0 (min ns.length ms.length) = !HT.lexLt ns ms
  | [], [] => rfl
  | [], y :: q => rfl
  | x :: r, [] => rfl
  | x :: r, y :: q => by
    have ih := lexGe r q
    have em : min (x :: r).length (y :: q).length = min r.length q.length + 1 := by
      rw [List.length_cons, List.length_cons]
      omega
    have el : decide ((x :: r).length ≥ (y :: q).length) = decide (r.length ≥ q.length) := by
      rw [List.length_cons, List.length_cons]
      simp
    rw [em, el, Ob.lexAt_succ, HT.lexLt_cons]
    simp only [List.getD_cons_zero]
    by_cases e : x = y
    · rw [if_pos (decide_eq_true e), if_pos e, lexAt_shift]
      simp only [List.getD_cons_succ]
      exact ih
    · rw [if_neg (by rw [decide_eq_false e]; exact Bool.false_ne_true), if_neg e]
      by_cases h : x < y
      · rw [decide_eq_true h, decide_eq_false (by omega)]
        rfl
      · rw [decide_eq_false h, decide_eq_true (by omega)]
        rfl
def rGeT (K : PySem.W.Frag) : R2 := fun x y H Q => ∃ (a b : Addr) (ns ms : List Int), x = .ref a ∧ y = .ref b ∧ SqT K H a (ns.map V.int) ∧ SqT K H b (ms.map V.int) ∧ Q (.bl (!HT.lexLt ns ms)) H
theorem op_geT (hu : X.A.units < cLine) : OpR X (compareOp .GtE) (rGeT X.K) := by
  intro pins s σ H x y v u Q I rx ry h
  obtain ⟨a, b, ns, ms, rfl, rfl, ha, hb, q⟩ := h
  cases rx
  cases ry
  obtain ⟨its, r1, p1, _⟩ := I.tuple ha
  obtain ⟨its2, r2, p2, _⟩ := I.tuple hb
  have i1 : IntsAre its ns := Vals.ints r1
  have i2 : IntsAre its2 ms := Vals.ints r2
  have e1 : its.toArray.size = ns.length := by rw [List.size_toArray]; exact i1.length
  have e2 : its2.toArray.size = ms.length := by rw [List.size_toArray]; exact i2.length
  have at1 : ∀ j (h1 : j < its.toArray.size), ∃ t, its.toArray[j] = .int (ns.getD j 0) t := fun j h1 => PyProof.Rows.IntsAre.int_at i1 _ _ (by simp at h1; simp [h1])
  have at2 : ∀ j (h1 : j < its2.toArray.size), ∃ t, its2.toArray[j] = .int (ms.getD j 0) t := fun j h1 => PyProof.Rows.IntsAre.int_at i2 _ _ (by simp at h1; simp [h1])
  have R := Ob.RcOp.tuples_ge (A := X.A) (s := s) (e := fun j => decide (ns.getD j 0 = ms.getD j 0)) (r := fun j => decide (ms.getD j 0 ≤ ns.getD j 0)) p1 p2 hu (fun j h1 h2 => by
    obtain ⟨t, et⟩ := at1 j h1
    obtain ⟨t', et'⟩ := at2 j h2
    rw [et, et']
    have z : (ns.getD j 0 == ms.getD j 0) = decide (ns.getD j 0 = ms.getD j 0) := by
      by_cases q : ns.getD j 0 = ms.getD j 0
      · rw [decide_eq_true q]; exact beq_iff_eq.mpr q
      · rw [decide_eq_false q]; exact beq_eq_false_iff_ne.mpr q
    rw [← z]
    exact SeqAt.EqAt.int_int _ _ _ _) (fun j h1 h2 _ => by
    obtain ⟨t, et⟩ := at1 j h1
    obtain ⟨t', et'⟩ := at2 j h2
    rw [et, et']
    exact Ob.RcOp.ge_int _ _ _ _)
  rw [e1, e2, lexGe] at R
  have z : wpAny (model X.prog X.w) X.A (compareOp .GtE (.ref a) (.ref b)) (EP X pins σ Q) X.xe s := R X.prog X.w X.xe (EP X pins σ Q) ⟨.bl _, H, I, rfl, q⟩
  exact z
end
end R1

namespace R1
open PySem PySem.Spec PyProof.Rows L2
open AutoSeq1 (wpAny_loadPart')
/-! ### enumerate(tuple) -/
theorem meets_enumerate_newT (l : Addr) (items : Array Value) (n : Nat) (dct : Option Addr) (sl : Array (Option Value)) :
    Meets (Builtin.«enumerate.__new__» ⟨[.type "enumerate", .ref l], []⟩) (fun _ R s => s.heap.get? l = some { cls := .type "tuple", dict := dct, data := .seq items n, slots := sl } ∧
      R (.ok (.ret (.ref (s.heap.push { cls := .type "tuple_iterator", data := .fields #[.ref l, .int 0 0] }).objs.size)))
        { s with heap := (s.heap.push { cls := .type "tuple_iterator", data := .fields #[.ref l, .int 0 0] }).push { cls := .type "enumerate", data := .fields #[.none, .bool false, .ref s.heap.objs.size, rawInt 0, .none, .none] } }) :=
  .of_wp fun prog w A R s h => by
    obtain ⟨hp, g, d, tk, os⟩ := s; obtain ⟨hl, h⟩ := h
    have hsub := sub_enumerate
    have hL : Heap.IsTuple (Shared.heap ⟨hp, g, d, tk, os⟩) l items := ⟨_, hl, rfl, n, rfl⟩
    wp_walk using wpAny_loadPart' hl
    refine wpAny_stack_any fun st => wpAny_pure ?_
    split
    · rename_i c _ _ _ _ _
      cases (c == Value.type "enumerate")
      · wp_walk using wpAny_loadPart' hl, wpAny_pyIter_tuple hL
        exact ⟨_, rfl, h⟩
      · wp_walk using wpAny_loadPart' hl, wpAny_pyIter_tuple hL
        exact ⟨_, rfl, h⟩
    · wp_walk using wpAny_loadPart' hl, wpAny_pyIter_tuple hL
      exact ⟨_, rfl, h⟩
theorem call_enumerate_tuple {prog : Program} {w : World} {A : Around} {E : Value → Shared → Prop} {s : Shared} {l : Addr} {items : Array Value} {Q : Value → Shared → Prop} (hL : s.heap.IsTuple l items)
    (h : ∀ h', IsEnum h' (s.heap.objs.size + 1) s.heap.objs.size 0 .none → h'.IsTupleIter s.heap.objs.size l 0 → h'.objs.size = s.heap.objs.size + 2 →
      (∀ b o, s.heap.get? b = some o → h'.get? b = some o) → Q (.ref (s.heap.objs.size + 1)) { s with heap := h' }) :
    wpAny (model prog w) A (call (.type "enumerate") [.ref l]) Q E s := by
  obtain ⟨⟨c, dct, dt, sl⟩, hl, hc, n, hd⟩ := hL
  replace hc : c = .type "tuple" := hc
  replace hd : dt = .seq items n := hd
  subst hc hd
  refine callType_new F.called_enumerate (by decide) (F.typeCall_enumerate_1 _) (F.newCall_enumerate_1 _) (fun obj => F.args_object_init_2 obj _) F.entry_enumerate_new
    (meets_enumerate_newT l items n dct sl) ⟨hl, ?_⟩
  have hz : (s.heap.push { cls := .type "tuple_iterator", data := .fields #[.ref l, .int 0 0] }).objs.size = s.heap.objs.size + 1 := Heap.size_push ..
  show _ ∧ _
  rw [hz]
  have he : IsEnum ((s.heap.push { cls := .type "tuple_iterator", data := .fields #[.ref l, .int 0 0] }).push
      { cls := .type "enumerate", data := .fields #[.none, .bool false, .ref s.heap.objs.size, rawInt 0, .none, .none] }) (s.heap.objs.size + 1) s.heap.objs.size 0 .none := by
    have := Heap.get?_push_size (s.heap.push { cls := .type "tuple_iterator", data := .fields #[.ref l, .int 0 0] })
      (o := { cls := .type "enumerate", data := .fields #[.none, .bool false, .ref s.heap.objs.size, rawInt 0, .none, .none] }) rfl
    rw [hz] at this; exact this
  refine ⟨⟨_, he, rfl⟩, h _ he ⟨_, Heap.get?_push_of_some _ (Heap.get?_push_size _ rfl), rfl, rfl⟩ (by rw [Heap.size_push, hz]) fun b o x => Heap.get?_push_of_some _ (Heap.get?_push_of_some _ x)⟩
/-- the tuple at a, each item in a new pair -/
def IteT (K : PySem.W.Frag) (a : Addr) : It :=
  ⟨fun i H => ∃ (xs : List V) (x : V), SqT K H a xs ∧ xs[i]? = some x, fun i H v H' => ∃ T x, v = .ref T ∧ H T = none ∧ H' = upd H T (.tup [.int (i : Nat), x]) ∧ ∀ xs, SqT K H a xs → xs[i]? = some x, fun i H => ∃ xs : List V, SqT K H a xs ∧ xs.length ≤ i⟩
theorem apart {h : Heap} {a b c : Addr} {items : Array Value} {i : Nat} (p : IsTup h a items) (q : h.IsTupleIter b c i) : a ≠ b := by
  rintro rfl
  obtain ⟨o, ho, hc, _⟩ := p
  obtain ⟨o', ho', hc', _⟩ := q
  rw [ho] at ho'
  cases ho'
  rw [hc] at hc'
  exact absurd (Value.type.inj hc') (by decide)
theorem apartE {h : Heap} {a b it : Addr} {items : Array Value} {i : Int} {old : Value} (p : IsTup h a items) (q : IsEnum h b it i old) : a ≠ b := by
  rintro rfl
  obtain ⟨o, ho, hc, _⟩ := p
  have ho' : h.get? a = some _ := q
  rw [ho] at ho'
  have e := Option.some.inj ho'
  rw [e] at hc
  exact absurd (Value.type.inj hc) (by decide)
theorem turn_enumT {P : Program} {w : World} {K : PySem.W.Frag} {elts : List Expr} {kk : Nat} {tpos : Pos} (a e it : Addr) :
    Turn P w K (.Tuple elts kk tpos) (IteT K a) [e, it] e (fun i h => (∃ old, IsEnum h e it ((i : Nat) : Int) old) ∧ h.IsTupleIter it a i ∧ e ≠ it) where
  mem := by simp
  obj := fun i h st b hb => by
    obtain ⟨⟨old, he⟩, ⟨o, ho, hc, hd⟩, _⟩ := st
    have e' : b = e ∨ b = it := by simpa using hb
    rcases e' with z | z
    · rw [z]; exact ⟨_, he, fun v q => nomatch q⟩
    · rw [z]; exact ⟨o, ho, fun v q => by rw [hd] at q; cases q⟩
  keep := fun i h h' st k => let ⟨⟨old, he⟩, hi, hne⟩ := st; ⟨⟨old, k e (by simp) _ he⟩, hi.at fun o q => k it (by simp) o q, hne⟩
  item := by
    intro X hP hw hK hc i pins s σ H E I hf st hg
    subst hP hw hK
    obtain ⟨⟨old, he⟩, hit, hne⟩ := st
    obtain ⟨xs, x, hq, hx⟩ := hg
    obtain ⟨its, rv, p, hz⟩ := I.tuple hq
    obtain ⟨u, hu, ru⟩ := rv.get hx
    have hel : e < s.heap.objs.size := Heap.lt_size he
    have hil : it < s.heap.objs.size := by obtain ⟨_, q, _⟩ := hit; exact Heap.lt_size q
    have nai : a ≠ it := apart p hit
    have nae : a ≠ e := apartE p he
    have hlt : i < its.toArray.size := by
      rw [List.size_toArray]
      exact (List.getElem?_eq_some_iff.mp hu).1
    have D := Draws.tuple (prog := X.prog) (w := X.w) (A := X.A.in1) (I.ok.hd hc) it a nai its.toArray
    refine wpAny_pyNext_enum_itemD D he ⟨hit, show s.heap.IsTuple a its.toArray from p⟩ hlt hne (by simp; exact ⟨hne, nae.symm⟩) fun y h' tk hP ho hst' hT hsz hk => ?_
    have ey : y = u := by
      have := hP.symm.trans (show its.toArray[i]? = some u by simpa using hu)
      exact Option.some.inj this
    subst ey
    refine ⟨_, rfl, wpAny_letOwnedTupleGo_enum (s := { s with heap := h', toks := tk + 1 }) ho fun h'' he' sb => ?_⟩
    have hT2 : h''.get? s.heap.objs.size = some { cls := .type "tuple", data := .seq #[.int i tk, y] } := (sb.2 _ (Nat.ne_of_gt hel)).trans hT
    have new : ObjOk X.prog X.w (upd H s.heap.objs.size (.tup [.int (i : Nat), x])) h'' s.heap.objs.size (.tup [.int (i : Nat), x]) :=
      ⟨by show 2 ≤ sizeLine; decide, [.int i tk, y], .cons ⟨_, rfl⟩ (.cons ru .nil), ⟨_, hT2, rfl, _, rfl⟩⟩
    have I1 : Inv X pins σ (upd H s.heap.objs.size (.tup [.int (i : Nat), x])) { s with heap := h'', toks := tk + 1 } :=
      I.turnedNew (ch := [e, it]) (fun b ob hb q => (sb.2 b (fun z => hb (by simp [z]))).trans (hk b ob (fun z => hb (by simp [z])) (fun z => hb (by simp [z])) q)) hf (Nat.le_refl _) new
    refine ⟨.ref s.heap.objs.size, _, I1, rfl, ⟨_, x, rfl, I.hok.fresh (Nat.le_refl _), rfl, fun ys hy => by rw [I.tuple_inj hy hq]; exact hx⟩, ⟨⟨y, ?_⟩, hst'.1.at fun o q => (sb.2 it (Ne.symm hne)).trans q, hne⟩, fun b hb => ?_⟩
    · have e1 : ((i + 1 : Nat) : Int) = (i : Int) + 1 := by omega
      rw [e1]; exact he'
    · have hb' : b < s.heap.objs.size := by
        have e' : b = e ∨ b = it := by simpa using hb
        rcases e' with z | z
        · rw [z]; exact hel
        · rw [z]; exact hil
      rw [upd_ne (Nat.ne_of_lt hb')]
      exact (hf b hb).1
  done := by
    intro X hP hw hK hc i pins s σ H E I hf st hg
    subst hP hw hK
    obtain ⟨⟨old, he⟩, hit, hne⟩ := st
    obtain ⟨xs, hq, hx⟩ := hg
    obtain ⟨its, rv, p, hz⟩ := I.tuple hq
    obtain ⟨f0, f1, f2, f3, f4, f5⟩ := hf it (by simp)
    have hl := rv.length
    have hT : s.TypeIs (.ref e) "enumerate" := ⟨_, he, rfl⟩
    unfold pyNext
    refine wpAny_bind (wpAny_attempt (wpAny_callSpecial?_slot (name := Str.ofString "__next__") hT F.slot_enumerate_next
      (wpAny_call_entry F.slot_enumerate_next hT F.entry_enumerate_next ?_ (F.args_enumerate_next_1 _))))
    show wpAny _ _ (field (.ref e) 2 >>= _) _ _ _
    refine wpAny_bind (wpAny_field he rfl (x := .ref it) rfl ?_)
    refine wpAny_bind (wpAny_nextOf_tuple_end (I.ok.hd hc) hit (show s.heap.IsTuple a its.toArray from p) (Array.getElem?_eq_none (by rw [List.size_toArray]; omega)) fun h' x he' hx' => ?_)
    obtain ⟨o, ho, hc'⟩ := hx'
    refine wpAny_bind (wpAny_isInstance (T := "StopIteration") (b := true) ⟨o, ho, hc'⟩ isSubtype_stop ?_)
    exact wpAny_pure ⟨rfl, I.turned (t' := s.toks) (fun b o hb q => he' b o hb q) f0 f1 f3 f4 f5⟩
  self := fun A i s Q E st h => let ⟨⟨_, he⟩, _⟩ := st; wpAny_pyIter_enum he h
def iEnumT (K : PySem.W.Frag) (ta : TA) : TI := fun σ H R => ta σ H fun vs H1 => ∃ a xs, vs = [.ref a] ∧ SqT K H1 a xs ∧ R (IteT K a) H1
theorem pi_enumT {X : Cx} {e : Expr} {ta : TA} {p pos tpos : Pos} {elts : List Expr} {kk : Nat} (hg : Gl X "enumerate") (hm : X.mg "enumerate" = none) (ha : PA X [e] ta) (hs : starEach [e] X.env = [(false, eval e X.env)] := by rfl) :
    PI X (.Tuple elts kk tpos) (.Call (.Name "enumerate" p) [e] [] pos) (iEnumT X.K ta) := by
  refine ⟨fun pins s σ H R I h => ?_⟩
  refine Call_ (ld_blt I hg hm boot_enumerate (PyProof.Rows.callWith_type1 (thn (ha.run pos pins s σ H _ I h) fun us s1 ⟨vs, H1, I1, r1, q1⟩ => ?_) hs rfl))
  obtain ⟨a, xs, ex, hq, q⟩ := q1
  subst ex
  cases r1 with
  | cons r rr =>
    cases rr
    cases r
    obtain ⟨its, rv, p', hz⟩ := I1.tuple hq
    refine call_enumerate_tuple (show s1.heap.IsTuple a its.toArray from p') fun h' he hit hsz hk => wpAny_pyIter_enum he ?_
    have I2 : Inv X pins σ H1 { s1 with heap := h' } := I1.kept (t' := s1.toks) hk
    refine ⟨s1.heap.objs.size + 1, [s1.heap.objs.size + 1, s1.heap.objs.size], _, _, H1, rfl, I2, turn_enumT a (s1.heap.objs.size + 1) s1.heap.objs.size, ⟨⟨.none, he⟩, hit, Nat.succ_ne_self _⟩, fun b hb => ?_, q⟩
    have e' : b = s1.heap.objs.size + 1 ∨ b = s1.heap.objs.size := by simpa using hb
    have hle : s1.heap.objs.size ≤ b := by
      rcases e' with z | z
      · rw [z]; exact Nat.le_add_right _ _
      · rw [z]; exact Nat.le_refl _
    exact I1.fpOk hle (I1.hok.fresh hle)
theorem walk_enumT {K : PySem.W.Frag} {a : Addr} {xs : List V} : Walk (IteT K a) xs.length (fun H => SqT K H a xs) (YPair (fun i => some (.int (i : Nat))) (fun i => xs[i]?)) := by
  refine ⟨fun i _ hi q => ⟨xs, xs[i], q, by simp [hi]⟩, fun _ q => ⟨xs, q, Nat.le_refl _⟩, fun i H v H' _ q y => ?_⟩
  obtain ⟨T, x, h1, h2, h3, h4⟩ := y
  exact ⟨T, .int (i : Nat), x, h1, h2, h3, rfl, h4 xs q⟩
end R1

namespace R1
open PySem PySem.Spec PyProof.Rows L2
open AutoSeq1 (wpAny_loadPart')
set_option maxHeartbeats 4000000 in
theorem tuple_mul1 (l : Addr) (items : Array Value) (n : Nat) (dd : Option Addr) (sl : Array (Option Value)) (u : Tok) :
    Meets (Builtin.«tuple.__mul__» ⟨[.ref l, .int 1 u], []⟩) (fun _ R s => s.heap.get? l = some { cls := .type "tuple", dict := dd, data := .seq items n, slots := sl } ∧ R (.ok (.ret (Value.ref l))) s) :=
  .of_wp fun prog w A R s h => by
    obtain ⟨hp, g, d, tk, os⟩ := s
    obtain ⟨hl, h⟩ := h
    have f1 := AutoSeq1.idx_int
    have c0 : (decide ((1 : Int) < -(2 ^ 63)) || decide ((1 : Int) ≥ 2 ^ 63)) = false := by decide
    have c1 : (items.isEmpty || (1 : Int) == 1) = true := by rw [Bool.or_eq_true]; exact .inr rfl
    wp_walk using wpAny_loadPart' hl
    exact ⟨_, rfl, h⟩
set_option maxHeartbeats 4000000 in
theorem tuple_mul0 (l : Addr) (items : Array Value) (n : Nat) (dd : Option Addr) (sl : Array (Option Value)) (u : Tok) (c : items.isEmpty = false) :
    Meets (Builtin.«tuple.__mul__» ⟨[.ref l, .int 0 u], []⟩) (fun _ R s => s.heap.get? l = some { cls := .type "tuple", dict := dd, data := .seq items n, slots := sl } ∧
      R (.ok (.ret (Value.ref s.heap.objs.size))) { s with heap := s.heap.push { cls := Value.type "tuple", data := Data.seq #[] }, toks := s.toks }) :=
  .of_wp fun prog w A R s h => by
    obtain ⟨hp, g, d, tk, os⟩ := s
    obtain ⟨hl, h⟩ := h
    have f1 := AutoSeq1.idx_int
    have c0 : (decide ((0 : Int) < -(2 ^ 63)) || decide ((0 : Int) ≥ 2 ^ 63)) = false := by decide
    have c1 : (items.isEmpty || (0 : Int) == 1) = false := by rw [c]; rfl
    have c2 : (decide ((0 : Int) ≤ 0) || items.isEmpty) = true := by rw [Bool.or_eq_true]; exact .inl rfl
    wp_walk using wpAny_loadPart' hl
    exact ⟨_, rfl, h⟩
/-- t * k, k 0 or 1 -/
def rRepT01 (K : PySem.W.Frag) : R2 := fun x y H Q => ∃ l k xs, x = .ref l ∧ y = .int k ∧ SqT K H l xs ∧ xs ≠ [] ∧ (k = 0 ∨ k = 1) ∧ (k = 1 → Q (.ref l) H) ∧ (k = 0 → ∀ p, H p = none → Q (.ref p) (upd H p (.tup [])))
theorem op_repT01 {X : Cx} : OpR X (binaryOp .Mult) (rRepT01 X.K) := by
  intro pins s σ H x y v u Q I rx ry h
  obtain ⟨l, k, xs, rfl, rfl, hT, hne, hk, q1, q0⟩ := h
  cases rx
  obtain ⟨t, rfl⟩ := ry
  obtain ⟨its, r, ⟨⟨cls, dd, data, sl⟩, ho, hc, n, hd⟩, hs⟩ := I.tuple hT
  simp only at hc hd
  subst hc hd
  have hle : its.length = xs.length := r.length.symm
  have hn : its ≠ [] := fun e => hne (by
    rw [e] at hle
    exact List.eq_nil_of_length_eq_zero hle.symm)
  have hi : its.toArray.isEmpty = false := by
    cases its with
    | nil => exact absurd rfl hn
    | cons a b => rfl
  refine wpAny_binaryOp_repeat_ref (T := "tuple") (U := "int") (by decide) ⟨_, ho, rfl⟩ (fun s' => typeIs_int s' k t) noFill_tuple_mul F.fills_int_mul F.slot_int_rmul repeat_tuple F.slot_int_index.lookup
    (call_meets F.slot_int_rmul (typeIs_int s k t) F.entry_int_rmul (F.args_int_rmul_2 _ _) (int_rmul_tuple k t l its.toArray n dd sl)
      ⟨ho, rfl, ⟨_, ho, rfl⟩, ?_⟩)
  rcases hk with rfl | rfl
  · refine call_meets F.slot_tuple_mul ⟨_, ho, rfl⟩ F.entry_tuple_mul (F.args_tuple_mul_2 _ _) (tuple_mul0 l its.toArray n dd sl t hi) ⟨ho, ?_⟩
    refine ⟨.ref s.heap.objs.size, _, I.laid (t' := s.toks) (o := .tup []) (fun b ob q => Heap.get?_push_of_some _ q) (Nat.le_refl _) ?_, rfl, q0 rfl _ (I.hok.fresh (Nat.le_refl _))⟩
    exact ⟨Nat.zero_le _, [], .nil, IsTup.new _ _⟩
  · refine call_meets F.slot_tuple_mul ⟨_, ho, rfl⟩ F.entry_tuple_mul (F.args_tuple_mul_2 _ _) (tuple_mul1 l its.toArray n dd sl t) ⟨ho, ?_⟩
    exact ⟨.ref l, H, I, rfl, q1 rfl⟩
end R1

namespace K13
open PySem PySem.Spec PyProof.Rows L2
/-! ### the text -/
def topS (i : Nat) : Stmt := PySem.Challenge.pw_neverhalves_k13_sums_that_are_none.main.body.getD i (.Pass ⟨0, 0, 0, 0⟩)
abbrev sIs : Stmt := topS 1
abbrev sStock : Stmt := topS 3
abbrev sPick : Stmt := topS 4
abbrev sWide : Stmt := topS 5
abbrev sRows : Stmt := topS 6
abbrev sSpoilt : Stmt := topS 7
abbrev sWild : Stmt := topS 8
abbrev sRight : Stmt := topS 9
abbrev sTold : Stmt := topS 10
abbrev sLaw : Stmt := topS 11
theorem scStock : FnScope ["_law_script", "_law_stock_here", "_law_cell"] ["_law_script"] (defScope sStock) := ⟨rfl, rfl, rfl, by decide +kernel, rfl, by decide +kernel, by decide +kernel⟩
theorem scPick : FnScope ["_law_stock_here", "_law_limit", "_law_found", "_law_turn"] ["_law_stock_here", "_law_limit"] (defScope sPick) := ⟨rfl, rfl, rfl, by decide +kernel, rfl, by decide +kernel, by decide +kernel⟩
theorem scWide : FnScope ["_law_stock_here", "_law_limit", "_law_total", "_law_k"] ["_law_stock_here", "_law_limit"] (defScope sWide) := ⟨rfl, rfl, rfl, by decide +kernel, rfl, by decide +kernel, by decide +kernel⟩
/-! ### what is known of the stock -/
structure Stock (H : Hp) (a c : Addr) (n : Nat) : Prop where
  ne : a ≠ c
  ex : ∃ (cs : List Int) (x y z : Int), H a = some (.lst [.ref c, .int x, .int y, .int z]) ∧ H c = some (.lst (cs.map V.int)) ∧ cs.length ≤ 63 ∧ (∀ i ∈ cs, 0 ≤ i) ∧ 0 ≤ x ∧ 0 ≤ y ∧ y ≤ 10000000000000066 ∧ 0 ≤ z ∧ z ≤ n
/-- all but the stock is as it was -/
def Keep (a c : Addr) (H H' : Hp) : Prop := ∀ b o, b ≠ a → b ≠ c → H b = some o → H' b = some o
theorem Keep.refl {a c : Addr} {H : Hp} : Keep a c H H := fun _ _ _ _ h => h
theorem Keep.trans {a c : Addr} {H H1 H2 : Hp} (x : Keep a c H H1) (y : Keep a c H1 H2) : Keep a c H H2 := fun b o h1 h2 h => y b o h1 h2 (x b o h1 h2 h)
theorem Keep.new {a c p : Addr} {o : HO} {H : Hp} (h : H p = none) : Keep a c H (upd H p o) := fun b u _ _ e => by
  rw [upd_ne (ne_of_none e h)]
  exact e
theorem Keep.at_a {a c : Addr} {o : HO} {H : Hp} : Keep a c H (upd H a o) := fun b u h _ e => by
  rw [upd_ne h]
  exact e
theorem Keep.at_c {a c : Addr} {o : HO} {H : Hp} : Keep a c H (upd H c o) := fun b u _ h e => by
  rw [upd_ne h]
  exact e
theorem Stock.new {H : Hp} {a c p : Addr} {n : Nat} {o : HO} (S : Stock H a c n) (h : H p = none) : Stock (upd H p o) a c n := by
  obtain ⟨ne, cs, x, y, z, h1, h2, r⟩ := S
  exact ⟨ne, cs, x, y, z, by rw [upd_ne (ne_of_none h1 h)]; exact h1, by rw [upd_ne (ne_of_none h2 h)]; exact h2, r⟩
theorem Stock.more {H : Hp} {a c : Addr} {n m : Nat} (S : Stock H a c n) (h : n ≤ m) : Stock H a c m := by
  obtain ⟨ne, cs, x, y, z, h1, h2, h3, h4, h5, h6, h7, h8, h9⟩ := S
  exact ⟨ne, cs, x, y, z, h1, h2, h3, h4, h5, h6, h7, h8, by omega⟩
theorem canLay_ints : ∀ cs : List Int, PyData.canLayAll0 (cs.map PyData.int) = true
  | [] => rfl
  | _ :: r => by simp [PyData.canLayAll0, PyData.canLay0, canLay_ints r]
theorem depth_ints : ∀ cs : List Int, PyData.depthAll (cs.map PyData.int) ≤ 1
  | [] => by simp [PyData.depthAll]
  | _ :: r => by
    have := depth_ints r
    simp [PyData.depthAll, PyData.depth]
    omega
theorem shaped_ints (cs : List Int) : SeqAt.shaped (.list (cs.map PyData.int)) = true := by
  have := depth_ints cs
  simp [SeqAt.shaped, PyData.canLay0, canLay_ints, PyData.depth]
  omega
theorem dp_ints {K : PySem.W.Frag} {H : Hp} : ∀ cs : List Int, DpAll K H (cs.map V.int) (cs.map PyData.int)
  | [] => .nil
  | i :: r => .cons (.int i) (dp_ints r)
theorem eqv_nil (ds : List PyData) : PyData.eqv (.list ds) (.list []) = ds.isEmpty := by
  cases ds <;> simp [PyData.eqv, PyData.eqvAll]
section
variable {P : Program} {w : World} {K : PySem.W.Frag} {mg : Str → Option Value} {base : Heap}
/-! ### pick -/
def spPick : Sp := fun vs H Q _ => ∃ (a c : Addr) (n : Nat) (L : Int), vs = [.ref a, .int L] ∧ Stock H a c n ∧ n ≤ 1000000 ∧ 1 ≤ L ∧ L.natAbs < 2 ^ 200 ∧
  ∀ H' (r : Int), Stock H' a c (n + 1) → Keep a c H H' → 0 ≤ r → r < L → Q (.int r) H'
theorem sqlOf {K : PySem.W.Frag} {H : Hp} {a : Addr} {xs : List V} (h : H a = some (.lst xs)) : SqL K H a xs := .inl (.inl h)
theorem ok_pick {f : Addr} {fd : FuncData} {k : Nat} (F : Fun K "_law_pick" "_law_pick" sPick f fd) (mi : mg "int" = none) : FnOk P w K mg base CX0 (k + 1) f fd ["_law_stock_here", "_law_limit"] spPick := by
  refine F.ok scPick (fun vs H Q E h => ?_) (fun cdv A outer s H vs Q E hr h => ?_)
  · obtain ⟨a, c, n, L, rfl, _⟩ := h
    rfl
  · obtain ⟨a, c, n, L, rfl, S, hn, hL, hL2, q⟩ := h
    refine ⟨_, Evl.pss_cut (ps_if (PW.pt (pw_and (pt_cmpR op_eq (pe_ix ix_list (pv 0) pe_int (fun _ _ => rfl)) pe_int (nomark _)) (pw_and1 (pt_cmpR (op_neD hr.units) (pe_ix ix_list (pv 0) pe_int (fun _ _ => rfl)) (pe_lst pa_nil) (nomark _)))))
        (pss_one (ps_asg (pe_bm0 PySem.F.plainAttrs_list PySem.F.slot_list_pop PySem.F.type_list_pop mt_pop (pe_ix ix_list (pv 0) pe_int (fun _ _ => rfl))) (pg_sub (pv 0) pe_int set_list))) pss_nil)
      (pss_cons (ps_if (pt_cmpR op_gt (pe_ix ix_list (pv 0) pe_int (fun _ _ => rfl)) pe_int (nomark _))
        (pss_cons (ps_set (i := 2) scPick.nd rfl (.inl rfl) (pe_op op_mod (pe_callTy call_int1 (by rfl) mi PyProof.Rows.boot_int (pa_cons (pe_ix ix_list (pv 0) pe_int (fun _ _ => rfl)) pa_nil)) (pv 1)))
        (pss_cons (ps_asg (pe_op op_fdivW (pe_ix ix_list (pv 0) pe_int (fun _ _ => rfl)) (pv 1)) (pg_sub (pv 0) pe_int set_list))
        (pss_one (ps_ret (pv 2))))) pss_nil)
      (pss_cons (ps_asg (pe_op op_add (pe_ix ix_list (pv 0) pe_int (fun _ _ => rfl)) pe_int) (pg_sub (pv 0) pe_int set_list))
      (pss_cons (ps_set (i := 3) scPick.nd rfl (.inl rfl) (pe_op op_mod (pe_callTy call_int1 (by rfl) mi PyProof.Rows.boot_int (pa_cons (pe_op op_pow (pe_op op_add (pe_ix ix_list (pv 0) pe_int (fun _ _ => rfl)) (pe_op op_mul (pe_op op_mul pe_int (pe_ix ix_list (pv 0) pe_int (fun _ _ => rfl))) (pe_ix ix_list (pv 0) pe_int (fun _ _ => rfl)))) pe_int) pa_nil)) pe_int))
      (pss_one (ps_ret (pe_op op_mod (pe_op op_fdiv (pe_op op_mod (pe_callTy call_int1 (by rfl) mi PyProof.Rows.boot_int (pa_cons (pe_op op_mulW (pv 3) (pe_op op_add (pe_op op_add (pv 3) (pe_op op_mul pe_int (pe_ix ix_list (pv 0) pe_int (fun _ _ => rfl)))) pe_int)) pa_nil)) pe_int) pe_int) (pv 1))))))), ?_⟩
    obtain ⟨ne, cs, x, y, z, h1, h2, h3, h4, h5, h6, h7, h8, h9⟩ := S
    refine ⟨fun σ' H' => σ' = [some (.ref a), some (.int L), none, none] ∧ Keep a c H H' ∧ ∃ (cs : List Int) (x : Int), H' a = some (.lst [.ref c, .int x, .int y, .int z]) ∧ H' c = some (.lst (cs.map V.int)) ∧ cs.length ≤ 63 ∧ (∀ i ∈ cs, 0 ≤ i) ∧ 0 ≤ x, ?_, ?_⟩
    · -- if stock[1] == 0 and stock[0] != []
      refine ⟨.ref a, rfl, a, _, 1, .int x, rfl, rfl, sqlOf h1, atI_nat (j := 1) rfl, rfl, _, rfl, ite2 (fun e => ?_) (fun e => iteF ?_)⟩
      · refine ⟨.ref a, rfl, a, _, 0, .ref c, rfl, rfl, sqlOf h1, atI_nat (j := 0) rfl, Nat.zero_le _, fun p hp => ?_⟩
        have s1 : Same H (upd H p (.lst [])) := fun b o e => by
          rw [upd_ne (ne_of_none e hp)]
          exact e
        refine ⟨.list (cs.map .int), .list [], .lst (sqlOf (s1 _ _ h2)) (dp_ints cs), .lst (sqlOf upd_same) .nil, shaped_ints cs, rfl, _, rfl, ite2 (fun e2 => ?_) (fun e2 => ?_)⟩
        · rw [eqv_nil] at e2
          have hne : cs ≠ [] := fun z => by
            subst z
            simp at e2
          obtain ⟨ds, l, rfl⟩ : ∃ ds l, cs = ds ++ [l] := ⟨cs.dropLast, cs.getLast hne, (List.dropLast_concat_getLast hne).symm⟩
          refine ⟨.ref a, rfl, a, _, 0, .ref c, rfl, rfl, sqlOf (s1 _ _ h1), atI_nat (j := 0) rfl, .inl ⟨rfl, _, sqlOf (s1 _ _ h2)⟩, c, _, .int l, rfl, rfl, s1 _ _ h2, by simp, .ref a, rfl, a, _, 1, 1, rfl, rfl, (by rw [upd_ne ne]; exact s1 _ _ h1), rfl, rfl, ?_, ds, l, upd_same, ?_, ?_, ?_, ?_⟩
          · exact (Keep.new hp).trans (Keep.at_c.trans Keep.at_a)
          · rw [upd_ne ne.symm, upd_same]
            simp
          · rw [List.length_append] at h3
            omega
          · exact fun i hi => h4 i (List.mem_append.mpr (.inl hi))
          · exact h4 l (List.mem_append.mpr (.inr (List.mem_singleton.mpr rfl)))
        · exact ⟨rfl, Keep.new hp, cs, x, s1 _ _ h1, s1 _ _ h2, h3, h4, h5⟩
      · exact ⟨rfl, Keep.refl, cs, x, h1, h2, h3, h4, h5⟩
    · rintro σ' H' ⟨rfl, kp, cs, x, h1, h2, h3, h4, h5⟩
      -- if stock[1] > 0
      refine ⟨.ref a, rfl, a, _, 1, .int x, rfl, rfl, sqlOf h1, atI_nat (j := 1) rfl, x, 0, rfl, rfl, _, rfl, ite2 (fun e => ?_) (fun e => ?_)⟩
      · have hL0 : (0 : Int) < L := by omega
        refine ⟨.ref a, rfl, a, _, 1, .int x, rfl, rfl, sqlOf h1, atI_nat (j := 1) rfl, .inl ⟨x, rfl, .int L, rfl, x, L, rfl, rfl, hL0, ?_⟩⟩
        refine ⟨.ref a, rfl, a, _, 1, .int x, rfl, rfl, sqlOf h1, atI_nat (j := 1) rfl, .int L, rfl, x, L, rfl, rfl, wide_div hL0 hL2 (by decide) (by decide), .ref a, rfl, a, _, 1, 1, rfl, rfl, h1, rfl, .int (x % L), rfl, ?_⟩
        refine q _ _ ⟨ne, cs, x / L, y, z, upd_same, (by rw [upd_ne ne.symm]; exact h2), h3, h4, Int.ediv_nonneg h5 (by omega), h6, h7, h8, by omega⟩ (kp.trans Keep.at_a) (Int.emod_nonneg _ (by omega)) (Int.emod_lt_of_pos _ hL0)
      · have hL0 : (0 : Int) < L := by omega
        have g1 : upd H' a (.lst [.ref c, .int x, .int y, .int (z + 1)]) a = some (.lst [.ref c, .int x, .int y, .int (z + 1)]) := upd_same
        have hz : z + 1 ≤ 1000001 := by omega
        have hzz : 104729 * (z + 1) * (z + 1) ≤ 104729 * 1000001 * 1000001 := Int.mul_le_mul (by omega) hz (by omega) (by decide)
        have hz0 : 0 ≤ 104729 * (z + 1) * (z + 1) := Int.mul_nonneg (by omega) (by omega)
        have hb : (y + 104729 * (z + 1) * (z + 1)).natAbs < 2 ^ 64 := by omega
        have ht0 : 0 ≤ (y + 104729 * (z + 1) * (z + 1)) ^ (2 : Int).toNat % 1000000000000000000117 := Int.emod_nonneg _ (by decide)
        have ht1 : (y + 104729 * (z + 1) * (z + 1)) ^ (2 : Int).toNat % 1000000000000000000117 < 1000000000000000000117 := Int.emod_lt_of_pos _ (by decide)
        refine ⟨.ref a, rfl, a, _, 3, .int z, rfl, rfl, sqlOf h1, atI_nat (j := 3) rfl, z, 1, rfl, rfl, .ref a, rfl, a, _, 3, 3, rfl, rfl, h1, rfl, ?_⟩
        refine ⟨.ref a, rfl, a, _, 2, .int y, rfl, rfl, sqlOf g1, atI_nat (j := 2) rfl, .ref a, rfl, a, _, 3, .int (z + 1), rfl, rfl, sqlOf g1, atI_nat (j := 3) rfl, 104729, z + 1, rfl, rfl, .inl ⟨by decide, by decide⟩,
          .ref a, rfl, a, _, 3, .int (z + 1), rfl, rfl, sqlOf g1, atI_nat (j := 3) rfl, _, z + 1, rfl, rfl, .inr ⟨by omega, by omega⟩, y, _, rfl, rfl, _, 2, rfl, rfl, ⟨by decide, by decide, hb⟩, .inl ⟨_, rfl, _, 1000000000000000000117, rfl, rfl, (by show (0 : Int) < 1000000000000000000117; decide), ?_⟩⟩
        generalize ht : (y + 104729 * (z + 1) * (z + 1)) ^ (2 : Int).toNat % 1000000000000000000117 = t at ht0 ht1
        refine ⟨.int t, (by rw [← ht]; rfl), .int t, (by rw [← ht]; rfl), .ref a, rfl, a, _, 3, .int (z + 1), rfl, rfl, sqlOf g1, atI_nat (j := 3) rfl, 2, z + 1, rfl, rfl, .inl ⟨by decide, by decide⟩, t, _, rfl, rfl, _, 1, rfl, rfl, t, _, rfl, rfl,
          wide_mul (a := 80) (b := 80) (by omega) (by omega) (by decide) (by decide) (by decide), .inl ⟨_, rfl, _, 1000000000000000000000007, rfl, rfl, (by show (0 : Int) < 1000000000000000000000007; decide), _, 65537, rfl, rfl, ⟨by decide, by decide⟩, .int L, rfl, _, L, rfl, rfl, hL0, ?_⟩⟩
        exact q _ _ ⟨ne, cs, x, y, z + 1, g1, (by rw [upd_ne ne.symm]; exact h2), h3, h4, h5, h6, h7, by omega, by omega⟩ (kp.trans Keep.at_a) (Int.emod_nonneg _ (by omega)) (Int.emod_lt_of_pos _ hL0)
end
end K13

namespace K13
open PySem PySem.Spec PyProof.Rows L2
theorem same_new {H : Hp} {p : Addr} {o : HO} (h : H p = none) : Same H (upd H p o) := fun b u e => by
  rw [upd_ne (ne_of_none e h)]
  exact e
theorem same_keep {a c : Addr} {H H' : Hp} (h : Same H H') : Keep a c H H' := fun b o _ _ e => h b o e
/-- a store to what was not there at first -/
theorem same_put {H H' : Hp} {p : Addr} {o : HO} (s : Same H H') (h : H p = none) : Same H (upd H' p o) := fun b u e => by
  rw [upd_ne (ne_of_none e h)]
  exact s b u e
section
variable {P : Program} {w : World} {K : PySem.W.Frag} {mg : Str → Option Value} {base : Heap}
/-! ### the stock -/
def spStock (K : PySem.W.Frag) : Sp := fun vs H Q _ => ∃ (sc : Addr) (ns : List Int), vs = [.ref sc] ∧ SqL K H sc (ns.map V.int) ∧ ns.length ≤ 63 ∧
  ∀ H' a c, Stock H' a c 0 → Same H H' → Q (.ref a) H'
theorem ok_stock {f : Addr} {fd : FuncData} {k : Nat} (F : Fun K "_law_stock" "_law_stock" sStock f fd) (mi : mg "int" = none) : FnOk P w K mg base CX0 (k + 1) f fd ["_law_script"] (spStock K) := by
  refine F.ok scStock (fun vs H Q E h => ?_) (fun cdv A outer s H vs Q E hr h => ?_)
  · obtain ⟨sc, ns, rfl, _⟩ := h
    rfl
  · obtain ⟨sc, ns, rfl, hS, hlen, q⟩ := h
    refine ⟨_, pss_cons (ps_set (i := 1) scStock.nd rfl (.inl rfl) (pe_lst (pa_cons (pe_lst pa_nil) (pa_cons pe_int (pa_cons pe_int (pa_cons pe_int pa_nil))))))
      (pss_cons (ps_for PassesOwn.never rfl (pi_list (pv 0)) (pg_name (i := 2) scStock.nd rfl (.inl rfl))
        (pss_one (ps_if (pt_cmpR op_lt (pv 2) (pe_op op_pow pe_int pe_int) (nomark _))
          (pss_one (ps_asg (pe_op op_add (pe_op op_mod (pe_callTy call_int1 (by rfl) mi PyProof.Rows.boot_int (pa_cons (pe_op op_pow (pe_op op_add (pe_ix ix_list (pv 1) pe_int (fun _ _ => rfl)) (pe_op op_mod (pe_callTy call_int1 (by rfl) mi PyProof.Rows.boot_int (pa_cons (pv 2) pa_nil)) pe_int)) pe_int) pa_nil)) pe_int) pe_int) (pg_sub (pv 1) pe_int set_list)))
          (pss_one (ps_asg (pe_op op_cat (pe_lst (pa_cons (pe_op op_sub (pv 2) (pe_op op_pow pe_int pe_int)) pa_nil)) (pe_ix ix_list (pv 1) pe_int (fun _ _ => rfl))) (pg_sub (pv 1) pe_int set_list))))))
      (pss_one (ps_ret (pv 1)))), ?_⟩
    refine ⟨Nat.zero_le _, fun c nc => ⟨(by rw [sizeLine_eq]; show 4 ≤ 16777216; decide), fun a na => ?_⟩⟩
    have nac : a ≠ c := fun e => by
      rw [e, upd_same] at na
      cases na
    have na0 : H a = none := by
      rw [upd_ne nac] at na
      exact na
    refine ⟨.ref sc, rfl, sc, rfl, ⟨_, (same_new na).seq ((same_new nc).seq hS)⟩, for_list (xs := ns.map V.int) (fun i σ H' => ∃ c cs y y2, σ = [some (.ref sc), some (.ref a), y2] ∧ Same H H' ∧ H c = none ∧ a ≠ c ∧ H' a = some (.lst [.ref c, .int 0, .int y, .int 0]) ∧ H' c = some (.lst (cs.map V.int)) ∧ cs.length ≤ i ∧ (∀ j ∈ cs, 0 ≤ j) ∧ 0 ≤ y ∧ y ≤ 10000000000000066)
      ⟨c, [], 77029, none, rfl, (same_new nc).trans (same_new na), nc, nac, upd_same, (by rw [upd_ne nac.symm, upd_same]; rfl), Nat.le_refl _, (fun j h => by cases h), by decide, by decide⟩ (fun i σ H' _ h => ?_) (fun i x σ H' hx h => ?_) (fun σ H' h => ?_)⟩
    · obtain ⟨c, cs, y, y2, rfl, sm, _⟩ := h
      exact sm.seq hS
    · obtain ⟨c, cs, y, y2, rfl, sm, nc, nac, ha, hc, hl, hp, hy0, hy1⟩ := h
      obtain ⟨v, rfl⟩ : ∃ v : Int, x = .int v := by
        rw [List.getElem?_map] at hx
        cases e : ns[i]? with
        | none => rw [e] at hx; cases hx
        | some v => rw [e] at hx; exact ⟨v, (Option.some.inj hx).symm⟩
      refine ⟨.int v, rfl, 10, 18, rfl, rfl, ⟨by decide, by decide, by decide⟩, v, _, rfl, rfl, _, rfl, ite2 (fun e => ?_) (fun e => ?_)⟩
      · have hm0 : 0 ≤ v % 999999999989 := Int.emod_nonneg _ (by decide)
        have hm1 : v % 999999999989 < 999999999989 := Int.emod_lt_of_pos _ (by decide)
        refine ⟨.ref a, rfl, a, _, 2, .int y, rfl, rfl, sqlOf ha, atI_nat (j := 2) rfl, .int v, rfl, .inl ⟨v, rfl, v, 999999999989, rfl, rfl, (by show (0 : Int) < 999999999989; decide), y, _, rfl, rfl, _, 3, rfl, rfl, ⟨by decide, by decide, by omega⟩, .inl ⟨_, rfl, _, 10000000000000061, rfl, rfl, (by show (0 : Int) < 10000000000000061; decide), _, 5, rfl, rfl,
          .ref a, rfl, a, _, 2, 2, rfl, rfl, ha, rfl, ?_⟩⟩⟩
        have hM0 : 0 ≤ (y + v % 999999999989) ^ (3 : Int).toNat % 10000000000000061 := Int.emod_nonneg _ (by decide)
        have hM1 : (y + v % 999999999989) ^ (3 : Int).toNat % 10000000000000061 < 10000000000000061 := Int.emod_lt_of_pos _ (by decide)
        exact ⟨c, cs, _, _, rfl, same_put sm na0, nc, nac, upd_same, (by rw [upd_ne nac.symm]; exact hc), by omega, hp, by omega, by omega⟩
      · have hv : (10 : Int) ^ (18 : Int).toNat ≤ v := Int.not_lt.mp fun z => e (decide_eq_true z)
        have e18 : (10 : Int) ^ (18 : Int).toNat = 1000000000000000000 := by decide
        refine ⟨.int v, rfl, 10, 18, rfl, rfl, ⟨by decide, by decide, by decide⟩, v, _, rfl, rfl, (by rw [sizeLine_eq]; exact (by decide : 1 ≤ 16777216)), fun p np => ?_⟩
        have s1 : Same H' (upd H' p (.lst [.int (v - (10 : Int) ^ (18 : Int).toNat)])) := same_new np
        have hclen : cs.length ≤ 63 := by
          have := (List.getElem?_eq_some_iff.mp hx).1
          rw [List.length_map] at this
          omega
        refine ⟨.ref a, rfl, a, _, 0, .ref c, rfl, rfl, sqlOf (s1 _ _ ha), atI_nat (j := 0) rfl, p, c, _, _, rfl, rfl, upd_same, s1 _ _ hc, (by rw [List.length_map, sizeLine_eq]; show 1 + cs.length ≤ 16777216; omega), fun p2 np2 => ?_⟩
        have s2 := s1.trans (same_new (o := .lst ([.int (v - (10 : Int) ^ (18 : Int).toNat)] ++ cs.map V.int)) np2)
        have ne2 : a ≠ p2 := ne_of_none (s1 _ _ ha) np2
        refine ⟨.ref a, rfl, a, _, 0, 0, rfl, rfl, s2 _ _ ha, rfl, ?_⟩
        exact ⟨p2, (v - (10 : Int) ^ (18 : Int).toNat) :: cs, y, _, rfl, same_put (sm.trans s2) na0, (sm.trans s1).free np2, ne2, upd_same, (by rw [upd_ne ne2.symm, upd_same]; rfl), (by rw [List.length_cons]; omega), (fun j hj => by
          rcases List.mem_cons.mp hj with rfl | hj
          · omega
          · exact hp j hj), hy0, hy1⟩
    · obtain ⟨c, cs, y, y2, rfl, sm, nc, nac, ha, hc, hl, hp, hy0, hy1⟩ := h
      rw [List.length_map] at hl
      exact ⟨.ref a, rfl, q _ a c ⟨nac, cs, 0, y, 0, ha, hc, by omega, hp, by decide, hy0, hy1, by decide, by decide⟩ sm⟩
/-! ### wide -/
def spWide : Sp := fun vs H Q _ => ∃ (a c : Addr) (n : Nat) (L : Int), vs = [.ref a, .int L] ∧ Stock H a c n ∧ n ≤ 999990 ∧ 1 ≤ L ∧
  ∀ H' (r : Int), Stock H' a c (n + 4) → Keep a c H H' → 0 ≤ r → r < L → Q (.int r) H'
theorem ok_wide {f fP : Addr} {fd fdP : FuncData} {k : Nat} (F : Fun K "_law_wide" "_law_wide" sWide f fd) (FP : Fun K "_law_pick" "_law_pick" sPick fP fdP) (bP : Binds K fdP ["_law_stock_here", "_law_limit"] []) (gP : mg "_law_pick" = some (.ref fP)) (mi : mg "int" = none) (mr : mg "range" = none) :
    FnOk P w K mg base CX0 (k + 2) f fd ["_law_stock_here", "_law_limit"] spWide := by
  have GP : FnOk P w K mg base CX0 (k + 1) fP fdP ["_law_stock_here", "_law_limit"] spPick := ok_pick FP mi
  refine F.ok scWide (fun vs H Q E h => ?_) (fun cdv A outer s H vs Q E hr h => ?_)
  · obtain ⟨a, c, n, L, rfl, _⟩ := h
    rfl
  · obtain ⟨a, c, n, L, rfl, S, hn, hL, q⟩ := h
    refine ⟨_, pss_cons (ps_set (i := 2) scWide.nd rfl (.inl rfl) pe_int)
      (pss_cons (ps_for PassesOwn.never rfl (pi_range1 rfl mr (pa_cons pe_int pa_nil)) (pg_name (i := 3) scWide.nd rfl (.inl rfl))
        (pss_one (ps_set (i := 2) scWide.nd rfl (.inl rfl) (pe_op op_add (pe_op op_mul (pv 2) (pe_op op_pow pe_int pe_int)) (pe_call GP hr (by rfl) gP FP.kp bP .nil pass0 (pa_cons (pv 0) (pa_cons (pe_op op_pow pe_int pe_int) pa_nil)))))))
      (pss_one (ps_ret (pe_op op_mod (pe_callTy call_int1 (by rfl) mi PyProof.Rows.boot_int (pa_cons (pv 2) pa_nil)) (pv 1))))), ?_⟩
    refine ⟨4, rfl, by decide, by decide, for_range (n := 4) (fun i σ H' => ∃ t y3, σ = [some (.ref a), some (.int L), some (.int t), y3] ∧ Stock H' a c (n + i) ∧ Keep a c H H') ⟨0, none, rfl, S, Keep.refl⟩ (fun i σ H' hi h => ?_) (fun σ H' h => ?_)⟩
    · obtain ⟨t, y3, rfl, S', kp⟩ := h
      refine ⟨.int t, rfl, 10, 9, rfl, rfl, ⟨by decide, by decide, by decide⟩, t, _, rfl, rfl, .inr ⟨by decide, by decide⟩, .ref a, rfl, 10, 9, rfl, rfl, ⟨by decide, by decide, by decide⟩, a, c, n + i, _, rfl, S', by omega, by decide, by decide, fun H2 r S2 k2 _ _ => ?_⟩
      exact ⟨_, r, rfl, rfl, _, _, rfl, S2, kp.trans k2⟩
    · obtain ⟨t, y3, rfl, S', kp⟩ := h
      have hL0 : (0 : Int) < L := by omega
      exact ⟨.int t, rfl, .inl ⟨t, rfl, .int L, rfl, t, L, rfl, rfl, hL0, q _ _ S' kp (Int.emod_nonneg _ (by omega)) (Int.emod_lt_of_pos _ hL0)⟩⟩
end
end K13

namespace K13
open PySem PySem.Spec PyProof.Rows L2 R1
/-! ### rows -/
structure Row where
  t : Addr
  p : Addr
  ns : List Int
  c : Int
def Row.v (r : Row) : V := .ref r.t
def RowOk (H : Hp) (r : Row) : Prop := H r.t = some (.tup [.ref r.p, .int r.c]) ∧ H r.p = some (.tup (r.ns.map V.int)) ∧ r.ns.length ≤ 12
def RowsOk (H : Hp) (L : List Row) : Prop := ∀ r ∈ L, RowOk H r
/-- tuples stay -/
def KeepT (H H' : Hp) : Prop := ∀ b xs, H b = some (.tup xs) → H' b = some (.tup xs)
theorem RowsOk.keep {H H' : Hp} {L : List Row} (h : RowsOk H L) (k : KeepT H H') : RowsOk H' L := fun r hr => ⟨k _ _ (h r hr).1, k _ _ (h r hr).2.1, (h r hr).2.2⟩
theorem Stock.keepT {H H' : Hp} {a c : Addr} {n : Nat} (S : Stock H a c n) (k : Keep a c H H') : KeepT H H' := fun b xs e => by
  obtain ⟨ne, cs, x, y, z, h1, h2, _⟩ := S
  exact k _ _ (ne_of e h1 (by intro z; cases z)) (ne_of e h2 (by intro z; cases z)) e
theorem KeepT.new {H : Hp} {p : Addr} {o : HO} (h : H p = none) : KeepT H (upd H p o) := fun b xs e => by
  rw [upd_ne (ne_of_none e h)]
  exact e
theorem KeepT.trans {H H1 H2 : Hp} (x : KeepT H H1) (y : KeepT H1 H2) : KeepT H H2 := fun b xs e => y _ _ (x _ _ e)
theorem Stock.fresh {H : Hp} {a c p : Addr} {n : Nat} (S : Stock H a c n) (h : H p = none) : p ≠ a ∧ p ≠ c := by
  obtain ⟨ne, cs, x, y, z, h1, h2, _⟩ := S
  exact ⟨fun e => ne_of_none h1 h e.symm, fun e => ne_of_none h2 h e.symm⟩
theorem Stock.apart {H : Hp} {a c p : Addr} {n : Nat} {o : HO} (S : Stock H a c n) (h : H p = some o) (hl : ∀ xs, o ≠ .lst xs) : p ≠ a ∧ p ≠ c := by
  obtain ⟨ne, cs, x, y, z, h1, h2, _⟩ := S
  exact ⟨ne_of h h1 (hl _), ne_of h h2 (hl _)⟩
theorem Stock.put {H : Hp} {a c p : Addr} {n : Nat} {o : HO} (S : Stock H a c n) (h : p ≠ a ∧ p ≠ c) : Stock (upd H p o) a c n := by
  obtain ⟨ne, cs, x, y, z, h1, h2, r⟩ := S
  exact ⟨ne, cs, x, y, z, by rw [upd_ne h.1.symm]; exact h1, by rw [upd_ne h.2.symm]; exact h2, r⟩
theorem Keep.free {H H' : Hp} {a c p : Addr} (k : Keep a c H H') (h : p ≠ a ∧ p ≠ c) (e : H' p = none) : H p = none := by
  cases q : H p with
  | none => rfl
  | some o =>
    rw [k p o h.1 h.2 q] at e
    cases e
theorem Keep.put {H H' : Hp} {a c p : Addr} {o : HO} (k : Keep a c H H') (e : H p = none) : Keep a c H (upd H' p o) := fun b u h1 h2 q => by
  rw [upd_ne (ne_of_none q e)]
  exact k b u h1 h2 q
theorem size3 {a b c : V} : [a, b, c].length ≤ sizeLine := by
  rw [sizeLine_eq]
  show 3 ≤ 16777216
  decide
theorem size2 {a b : V} : [a, b].length ≤ sizeLine := by
  rw [sizeLine_eq]
  show 2 ≤ 16777216
  decide
theorem pick3 {x y z r : Int} (h0 : 0 ≤ r) (h1 : r < 3) : ∃ v, atI [V.int x, .int y, .int z] r = some (.int v) ∧ (v = x ∨ v = y ∨ v = z) := by
  have h : r = 0 ∨ r = 1 ∨ r = 2 := by omega
  rcases h with rfl | rfl | rfl
  · exact ⟨x, atI_nat (j := 0) rfl, .inl rfl⟩
  · exact ⟨y, atI_nat (j := 1) rfl, .inr (.inl rfl)⟩
  · exact ⟨z, atI_nat (j := 2) rfl, .inr (.inr rfl)⟩
theorem pick2 {x y r : Int} (h0 : 0 ≤ r) (h1 : r < 2) : ∃ v, atI [V.int x, .int y] r = some (.int v) ∧ (v = x ∨ v = y) := by
  have h : r = 0 ∨ r = 1 := by omega
  rcases h with rfl | rfl
  · exact ⟨x, atI_nat (j := 0) rfl, .inl rfl⟩
  · exact ⟨y, atI_nat (j := 1) rfl, .inr rfl⟩
/-- an entry of the dict of terms -/
def KvOk (m : Nat) (q : List Key × V) : Prop := ∃ (ns : List Int) (c : Int), q = (ns.map Sum.inl, V.int c) ∧ ns.length = m
theorem kv_form {m : Nat} : ∀ {kvs : List (List Key × V)}, (∀ q ∈ kvs, KvOk m q) → ∃ kv : List (List Int × V), kvs = kv.map (fun p => (p.1.map Sum.inl, p.2)) ∧ ∀ p ∈ kv, p.1.length = m ∧ ∃ c, p.2 = V.int c
  | [], _ => ⟨[], rfl, fun p h => by cases h⟩
  | q :: kvs, h => by
    obtain ⟨kv, e, hk⟩ := kv_form (kvs := kvs) fun p hp => h p (List.mem_cons_of_mem _ hp)
    obtain ⟨ns, c, e1, e2⟩ := h q List.mem_cons_self
    refine ⟨(ns, .int c) :: kv, by rw [List.map_cons, ← e, e1], fun p hp => ?_⟩
    rcases List.mem_cons.mp hp with rfl | hp
    · exact ⟨e2, c, rfl⟩
    · exact hk p hp
theorem put_mem {κ : Type} [DecidableEq κ] {kvs : List (κ × V)} {k : κ} {v : V} {p : κ × V} (h : p ∈ putK kvs k v) : p ∈ kvs ∨ p = (k, v) := by
  unfold putK at h
  split at h
  · obtain ⟨q, hq, e⟩ := List.mem_map.mp h
    split at e
    · rename_i e2
      exact .inr (by rw [← e, e2])
    · exact .inl (e ▸ hq)
  · rcases List.mem_append.mp h with h | h
    · exact .inl h
    · exact .inr (List.mem_singleton.mp h)
theorem put_len {κ : Type} [DecidableEq κ] (kvs : List (κ × V)) (k : κ) (v : V) : (putK kvs k v).length ≤ kvs.length + 1 := by
  unfold putK
  split
  · rw [List.length_map]
    omega
  · rw [List.length_append]
    exact Nat.le_refl _
theorem val_of {m : Nat} {kv : List (List Int × V)} (hk : ∀ p ∈ kv, p.1.length = m ∧ ∃ c, p.2 = V.int c) {ns : List Int} (h : ns ∈ kv.map (·.1)) :
    ∃ c, valV (kv.map fun p => ((p.1.map Sum.inl : List Key), p.2)) (ns.map Sum.inl) = some (V.int c) := by
  have a1 : ((kv.map fun p => ((p.1.map Sum.inl : List Key), p.2)).any fun q => decide (q.1 = ns.map Sum.inl)) = true := by
    obtain ⟨p, hp, e⟩ := List.mem_map.mp h
    exact List.any_eq_true.mpr ⟨_, List.mem_map.mpr ⟨p, hp, rfl⟩, decide_eq_true (by rw [← e])⟩
  rw [valV_any] at a1
  obtain ⟨v, hv⟩ := Option.isSome_iff_exists.mp a1
  have : ∃ q ∈ kv.map fun p => ((p.1.map Sum.inl : List Key), p.2), q.2 = v := by
    unfold valV at hv
    obtain ⟨q, hq, e⟩ := Option.map_eq_some_iff.mp hv
    exact ⟨q, List.mem_of_find?_eq_some hq, e⟩
  obtain ⟨q, hq, e⟩ := this
  obtain ⟨p, hp, e2⟩ := List.mem_map.mp hq
  obtain ⟨c, hc⟩ := (hk p hp).2
  exact ⟨c, by rw [hv, ← e, ← e2, hc]⟩
theorem Stock.but {H H' : Hp} {a c D : Addr} {n : Nat} (S : Stock H a c n) (h : D ≠ a ∧ D ≠ c) (k : ∀ b o, b ≠ D → H b = some o → H' b = some o) : Stock H' a c n := by
  obtain ⟨ne, cs, x, y, z, h1, h2, r⟩ := S
  exact ⟨ne, cs, x, y, z, k _ _ h.1.symm h1, k _ _ h.2.symm h2, r⟩
abbrev nmRows : List Str := ["_law_stock_here", "_law_many", "_law_terms", "_law_span", "_law_k", "_law_powers", "_law_place", "_law_number", "_law_j"]
theorem scRows : FnScope nmRows ["_law_stock_here", "_law_many"] (defScope sRows) := ⟨rfl, rfl, rfl, by decide +kernel, rfl, by decide +kernel, by decide +kernel⟩
section
variable {P : Program} {w : World} {K : PySem.W.Frag} {mg : Str → Option Value} {base : Heap}
def spRows : Sp := fun vs H Q _ => ∃ (a c : Addr) (n m : Nat), vs = [.ref a, .int m] ∧ Stock H a c n ∧ n ≤ 900000 ∧ 1 ≤ m ∧ m ≤ 12 ∧
  ∀ H' l (L : List Row), Stock H' a c (n + 1000) → Keep a c H H' → H' l = some (.lst (L.map Row.v)) → H l = none → RowsOk H' L → L.length ≤ 8 → Q (.ref l) H'
theorem ok_rows {f fP fW : Addr} {fd fdP fdW : FuncData} {k : Nat} (F : Fun K "_law_rows" "_law_rows" sRows f fd) (FP : Fun K "_law_pick" "_law_pick" sPick fP fdP) (bP : Binds K fdP ["_law_stock_here", "_law_limit"] []) (gP : mg "_law_pick" = some (.ref fP))
    (FW : Fun K "_law_wide" "_law_wide" sWide fW fdW) (bW : Binds K fdW ["_law_stock_here", "_law_limit"] []) (gW : mg "_law_wide" = some (.ref fW)) (mi : mg "int" = none) (mr : mg "range" = none) (ml : mg "list" = none) (mo : mg "sorted" = none) (me : mg "len" = none) (mt : mg "tuple" = none) :
    FnOk P w K mg base CX0 (k + 3) f fd ["_law_stock_here", "_law_many"] spRows := by
  have GP : FnOk P w K mg base CX0 (k + 1) fP fdP ["_law_stock_here", "_law_limit"] spPick := ok_pick FP mi
  have GW : FnOk P w K mg base CX0 (k + 2) fW fdW ["_law_stock_here", "_law_limit"] spWide := ok_wide FW FP bP gP mi mr
  refine F.ok scRows (fun vs H Q E h => ?_) (fun cdv A outer s H vs Q E hr h => ?_)
  · obtain ⟨a, c, n, m, rfl, _⟩ := h
    rfl
  · obtain ⟨a, c, n, m, rfl, S, hn, hm1, hm2, q⟩ := h
    have hr1 : Room (k + 1) _ := hr.mono (by omega)
    have hu := hu_of hr
    refine ⟨_, pss_cons (ps_asg (pe_tup (pa_cons pe_dnewT (pa_cons (pe_ix ix_list (pe_lst (pa_cons pe_int (pa_cons pe_int (pa_cons pe_int pa_nil)))) (pe_call GP hr1 (by rfl) gP FP.kp bP .nil pass0 (pa_cons (pv 0) (pa_cons pe_int pa_nil))) (fun _ _ => rfl)) pa_nil)))
        (pg_tup rfl (pgs_cons (pg_name (i := 2) scRows.nd rfl (.inr rfl)) (pgs_cons (pg_name (i := 3) scRows.nd rfl (.inr rfl)) pgs_nil))))
      (pss_cons (ps_for PassesOwn.never rfl (pi_range1 rfl mr (pa_cons (pe_call GP hr1 (by rfl) gP FP.kp bP .nil pass0 (pa_cons (pv 0) (pa_cons pe_int pa_nil))) pa_nil)) (pg_name (i := 4) scRows.nd rfl (.inl rfl))
        (pss_cons (ps_setLc (i := 5) (own := [("_law_j", 8)]) (g := gName 8) (by rfl) scRows.nd rfl rfl (sw_true rfl rfl rfl (by decide +kernel)) (pi_range1 rfl mr (pa_cons (pv 1) pa_nil)) (blkOk_by (own := [("_law_j", 8)]) (N := nmRows) (sc := defScope sRows) (by decide +kernel))
            (fun _ _ _ _ _ => pg_name (i := 8) scRows.nd rfl (.inl rfl)) (fun _ _ _ _ _ => pts_nil) (fun _ _ _ _ _ => pe_op op_sub (pe_call GP hr1 (by rfl) gP FP.kp bP .nil pass0 (pa_cons (pv 0) (pa_cons (pe_op op_add (pe_op op_mul pe_int (pv 3)) pe_int) pa_nil))) (pv 3)))
        (Evl.pss_cut (ps_if (PW.pt (pw_and (pt_cmpR op_eq (pe_call GP hr1 (by rfl) gP FP.kp bP .nil pass0 (pa_cons (pv 0) (pa_cons pe_int pa_nil))) pe_int (nomark _)) (pw_and1 (pt_cmpR (op_neD0 (Nat.lt_of_succ_lt hu)) (pv 2) pe_dnewT (nomark _)))))
          (pss_cons (ps_par (i := 5) (j := 6) (by rfl) scRows.nd rfl rfl (by decide) rfl rfl (pa_cons (pe_callTy call_list_of (by rfl) ml (by decide +kernel) (pa_cons (pe_ix ix_list (pe_callB (cr_sortedDT rfl) (by rfl) mo (by decide +kernel) (pa_cons (pv 2) pa_nil)) (pe_call GP hr1 (by rfl) gP FP.kp bP .nil pass0 (pa_cons (pv 0) (pa_cons (pe_callB call_len_dT (by rfl) me PySem.boot_len (pa_cons (pv 2) pa_nil)) pa_nil))) (fun _ _ => rfl)) pa_nil))
              (pa_cons (pe_call GP hr1 (by rfl) gP FP.kp bP .nil pass0 (pa_cons (pv 0) (pa_cons (pv 1) pa_nil))) pa_nil)) (by rfl))
          (pss_one (ps_asg (pe_op op_sub (pe_call GP hr1 (by rfl) gP FP.kp bP .nil pass0 (pa_cons (pv 0) (pa_cons pe_int pa_nil))) pe_int) (pg_sub (pv 5) (pv 6) set_list)))) pss_nil)
        (pss_cons (ps_set (i := 7) scRows.nd rfl (.inl rfl) (pe_op op_add pe_int (pe_call GW (hr.mono (by omega)) (by rfl) gW FW.kp bW .nil pass0 (pa_cons (pv 0) (pa_cons (pe_ix ix_list (pe_lst (pa_cons pe_int (pa_cons (pe_op op_sub (pe_op op_pow pe_int pe_int) pe_int) pa_nil))) (pe_call GP hr1 (by rfl) gP FP.kp bP .nil pass0 (pa_cons (pv 0) (pa_cons pe_int pa_nil))) (fun _ _ => rfl)) pa_nil)))))
        (pss_one (ps_dput hu (pv 2) (pe_callTy call_tuple_of (by rfl) mt (by decide +kernel) (pa_cons (pv 5) pa_nil)) (pe_op op_mul (pv 7) (pe_op op_sub pe_int (pe_op op_mul pe_int (pe_call GP hr1 (by rfl) gP FP.kp bP .nil pass0 (pa_cons (pv 0) (pa_cons pe_int pa_nil)))))) rfl))))))
      (pss_one (ps_ret (pe_lc (own := [("_law_powers", 5)]) (g := gName 5) (by rfl) scRows.nd (pi_list (pe_callB (cr_sortedDT rfl) (by rfl) mo (by decide +kernel) (pa_cons (pv 2) pa_nil))) (blkOk_by (own := [("_law_powers", 5)]) (N := nmRows) (sc := defScope sRows) (by decide +kernel))
        (fun _ _ _ _ _ => pg_name (i := 5) scRows.nd rfl (.inl rfl)) (fun _ _ _ _ _ => pts_nil) (fun _ _ _ _ _ => pe_tup (pa_cons (pv 5) (pa_cons (pe_dget hu (pv 2) (pv 5) (fun _ _ => rfl)) pa_nil))))))), ?_⟩
    -- terms, span = ({}, [1, 12, 4][pick(stock, 3)])
    refine fun d nd => ⟨size3, fun p1 np1 => ?_⟩
    have S2 := (S.new (o := .dT []) nd).new (o := .lst [.int 1, .int 12, .int 4]) np1
    have ap1 := (S.new (o := .dT []) nd).fresh np1
    have adn := S.fresh nd
    refine ⟨.ref a, rfl, a, c, n, 3, rfl, S2, by omega, by decide, by decide, fun H3 r S3 k3 r0 r1 => ?_⟩
    obtain ⟨sp, hsp, hsp2⟩ := pick3 (x := 1) (y := 12) (z := 4) r0 r1
    have hs1 : 1 ≤ sp ∧ sp ≤ 12 := by omega
    have dp1 : d ≠ p1 := fun e => by
      rw [← e, upd_same] at np1
      cases np1
    have hd3 : H3 d = some (.dT []) := k3 d _ adn.1 adn.2 (by rw [upd_ne dp1]; exact upd_same)
    refine ⟨p1, _, r, .int sp, rfl, rfl, sqlOf (k3 p1 _ ap1.1 ap1.2 upd_same), hsp, size2, fun t nt => ?_⟩
    have S4 := S3.new (o := .tup [.ref d, .int sp]) nt
    have kp4 : Keep a c H (upd H3 t (.tup [.ref d, .int sp])) := (((Keep.new nd).trans (Keep.new np1)).trans k3).trans (Keep.new nt)
    have hd4 : upd H3 t (.tup [.ref d, .int sp]) d = some (.dT []) := by
      rw [upd_ne (ne_of_none hd3 nt)]
      exact hd3
    refine ⟨t, [.ref d, .int sp], rfl, .inl (.inl upd_same), rfl, .ref d, [.int sp], rfl, .int sp, [], rfl, rfl, ?_⟩
    -- for k in range(pick(stock, 9))
    refine ⟨.ref a, rfl, a, c, n + 1, 9, rfl, S4, by omega, by decide, by decide, fun H5 r5 S5 k5 r50 r51 => ?_⟩
    have hd5 : H5 d = some (.dT []) := k5 d _ adn.1 adn.2 hd4
    have kp5 := kp4.trans k5
    refine ⟨r5, rfl, by omega, by omega, for_range (n := r5.toNat) (fun i σ H' => ∃ y4 y5 y6 y7 kvs, σ = [some (.ref a), some (.int m), some (.ref d), some (.int sp), y4, y5, y6, y7, none] ∧ Stock H' a c (n + 2 + 30 * i) ∧ Keep a c H H' ∧ H' d = some (.dT kvs) ∧ (∀ q ∈ kvs, KvOk m q) ∧ kvs.length ≤ i)
      ⟨none, none, none, none, [], rfl, S5, kp5, hd5, (fun q h => by cases h), Nat.le_refl _⟩ (fun i σ H6 hi h => ?_) (fun σ H6 h => ?_)⟩
    · obtain ⟨y4, y5, y6, y7, kvs, rfl, S6, kp6, hd6, hk, hkl⟩ := h
      have hi9 : i < 9 := by omega
      -- powers = [..]
      refine ⟨.int m, rfl, m, rfl, by omega, by omega, fun D nD => ?_⟩
      have dD : d ≠ D := ne_of_none hd6 nD
      have aD := S6.fresh nD
      refine lc_range (lo := 0) (n := m) (fun j H' => ∃ ns : List Int, ns.length = j ∧ H' D = some (.lst (ns.map V.int)) ∧ Stock H' a c (n + 2 + 30 * i + j) ∧ Keep a c H H' ∧ H' d = some (.dT kvs))
        ⟨[], rfl, upd_same, S6.new nD, kp6.trans (Keep.new nD), (by rw [upd_ne dD]; exact hd6)⟩ (fun j H7 hj h => ?_) (fun H7 h => ?_)
      · obtain ⟨ns, rfl, hD, S7, kp7, hd7⟩ := h
        refine ⟨rfl, .ref a, rfl, .int sp, rfl, 2, sp, rfl, rfl, .inl ⟨by decide, by decide⟩, _, 1, rfl, rfl, a, c, _, _, rfl, S7, by omega, by omega, by omega, fun H8 r8 S8 k8 _ _ => ?_⟩
        have hD8 := k8 D _ aD.1 aD.2 hD
        have hd8 := k8 d _ adn.1 adn.2 hd7
        refine ⟨.int sp, rfl, r8, sp, rfl, rfl, _, hD8, (by rw [List.length_map, sizeLine_eq]; omega), ns ++ [r8 - sp], by simp, (by rw [upd_same]; simp), S8.put aD, (kp7.trans k8).put (kp6.free aD nD), (by rw [upd_ne dD]; exact hd8)⟩
      · obtain ⟨ns, hns, hD, S7, kp7, hd7⟩ := h
        refine ⟨fun σ' H' => ∃ (D2 : Addr) (ns : List Int) (y6 : Option V), σ' = [some (.ref a), some (.int m), some (.ref d), some (.int sp), some (.int (0 + i)), some (.ref D2), y6, y7, none] ∧ H' D2 = some (.lst (ns.map V.int)) ∧ ns.length = m ∧ (D2 ≠ a ∧ D2 ≠ c) ∧ Stock H' a c (n + 2 + 30 * i + 18) ∧ Keep a c H H' ∧ H' d = some (.dT kvs), ?_, ?_⟩
        · -- if pick(stock, 2) == 1 and terms != {}
          refine ⟨.ref a, rfl, a, c, _, 2, rfl, S7, by omega, by decide, by decide, fun H8 r8 S8 k8 _ _ => ⟨rfl, _, rfl, ite2 (fun e => ?_) (fun e => ?_)⟩⟩
          · have hd8 := k8 d _ adn.1 adn.2 hd7
            refine ⟨.ref d, rfl, fun d0 nd0 => ?_⟩
            have ne0 : d ≠ d0 := ne_of_none hd8 nd0
            have hd9 : upd H8 d0 (.dT []) d = some (.dT kvs) := by
              rw [upd_ne ne0]
              exact hd8
            have S9 := S8.new (o := .dT []) nd0
            have kp9 := (kp7.trans k8).trans (Keep.new (o := .dT []) nd0)
            refine ⟨d, d0, kvs, rfl, rfl, hd9, upd_same, _, rfl, ite2 (fun e2 => ?_) (fun e2 => ?_)⟩
            · have hk0 : kvs.length ≠ 0 := fun z => by
                rw [decide_eq_true z] at e2
                cases e2
              obtain ⟨kv, ekv, hkv⟩ := kv_form hk
              have lkv : kvs.length = kv.length := by rw [ekv, List.length_map]
              -- powers, place = (list(sorted(terms)[pick(stock, len(terms))]), pick(stock, many))
              refine ⟨.ref d, rfl, d, kv, rfl, .inl (by rw [hd9, ekv]), (fun p hp => ?_), fun ks p perm srt kt np => ?_⟩
              · have := (hkv p hp).1
                intro z
                rw [z] at this
                simp at this
                omega
              · have lks : ks.length = kv.length := by
                  have := perm.length_eq
                  rw [List.length_map, List.length_map] at this
                  exact this
                have S10 := S9.new (o := .lst (ks.map fun q => V.ref q.1)) np
                have ap := S9.fresh np
                refine ⟨.ref a, rfl, .ref d, rfl, d, kvs, rfl, (by rw [upd_ne (ne_of_none hd9 np)]; exact hd9), a, c, _, _, rfl, S10, by omega, by omega, by omega, fun H11 r11 S11 k11 r110 r111 => ?_⟩
                have hp11 := k11 p _ ap.1 ap.2 upd_same
                have hr11 : r11.toNat < ks.length := by omega
                have hq11 : (ks.map fun q => V.ref q.1)[r11.toNat]? = some (V.ref ks[r11.toNat].1) := by
                  rw [List.getElem?_map, List.getElem?_eq_getElem hr11]
                  rfl
                have hm11 : ks[r11.toNat] ∈ ks := List.getElem_mem hr11
                have ht11 : upd (upd H8 d0 (.dT [])) p (.lst (ks.map fun q => V.ref q.1)) ks[r11.toNat].1 = some (.tup (ks[r11.toNat].2.map V.int)) := by
                  rw [upd_ne (ne_of_none (kt _ hm11) np)]
                  exact kt _ hm11
                have ht11' := S10.keepT k11 _ _ ht11
                have hlen : ks[r11.toNat].2.length = m := by
                  have h1 : ks[r11.toNat].2 ∈ kv.map (·.1) := perm.mem_iff.mp (List.mem_map.mpr ⟨_, hm11, rfl⟩)
                  obtain ⟨pp, hpp, e3⟩ := List.mem_map.mp h1
                  rw [← e3]
                  exact (hkv pp hpp).1
                refine ⟨p, _, r11, _, rfl, rfl, sqlOf hp11, (by have := atI_nat hq11; rw [show ((r11.toNat : Nat) : Int) = r11 by omega] at this; exact this), ks[r11.toNat].1, _, rfl, .inr (.inl (.inl ht11')), fun D2 nD2 => ?_⟩
                have S12 := S11.new (o := .lst (ks[r11.toNat].2.map V.int)) nD2
                have aD2 := S11.fresh nD2
                refine ⟨.ref a, rfl, .int m, rfl, a, c, _, _, rfl, S12, by omega, by omega, by omega, fun H13 r13 S13 k13 r130 r131 => ?_⟩
                have hD13 := k13 D2 _ aD2.1 aD2.2 upd_same
                refine ⟨_, _, rfl, ?_⟩
                -- powers[place] = pick(stock, 5) - 2
                refine ⟨.ref a, rfl, a, c, _, 5, rfl, S13, by omega, by decide, by decide, fun H14 r14 S14 k14 _ _ => ?_⟩
                have hD14 := k14 D2 _ aD2.1 aD2.2 hD13
                have kp10 := kp9.trans (Keep.new (o := .lst (ks.map fun q => V.ref q.1)) np)
                have kp14 := (((kp10.trans k11).trans (Keep.new (o := .lst (ks[r11.toNat].2.map V.int)) nD2)).trans k13).trans k14
                have nD2H : H D2 = none := (kp10.trans k11).free aD2 nD2
                have hd11 : H11 d = some (.dT kvs) := k11 d _ adn.1 adn.2 (by rw [upd_ne (ne_of_none hd9 np)]; exact hd9)
                have dD2 : d ≠ D2 := ne_of_none hd11 nD2
                have hd14 : H14 d = some (.dT kvs) := k14 d _ adn.1 adn.2 (k13 d _ adn.1 adn.2 (by rw [upd_ne dD2]; exact hd11))
                refine ⟨r14, 2, rfl, rfl, .ref D2, rfl, .int r13, rfl, D2, _, r13, r13.toNat, rfl, rfl, hD14, ?_, ?_⟩
                · unfold ixN
                  rw [List.length_map, hlen, if_pos r130, if_pos r131]
                · refine ⟨D2, ks[r11.toNat].2.set r13.toNat (r14 - 2), some (.int r13), rfl, ?_, by rw [List.length_set]; exact hlen, aD2, (S14.put aD2).more (by omega), kp14.put nD2H, by rw [upd_ne dD2]; exact hd14⟩
                  rw [upd_same, List.map_set]
            · refine ⟨D, ns, y6, rfl, ?_, hns, aD, S9.more (by omega), kp9, hd9⟩
              have h8 := k8 D _ aD.1 aD.2 hD
              rw [upd_ne (ne_of_none h8 nd0)]
              exact h8
          · exact iteF ⟨D, ns, y6, rfl, k8 D _ aD.1 aD.2 hD, hns, aD, S8.more (by omega), kp7.trans k8, k8 d _ adn.1 adn.2 hd7⟩
        · rintro σ' H8 ⟨D2, ns, y6, rfl, hD8, hns, aD2, S8, kp8, hd8⟩
          -- number = 1 + wide(stock, [2, 10 ** 30 - 1][pick(stock, 2)])
          refine ⟨.ref a, rfl, 10, 30, rfl, rfl, ⟨by decide, by decide, by decide⟩, _, 1, rfl, rfl, size2, fun p9 np9 => ?_⟩
          have S9 := S8.new (o := .lst [.int 2, .int ((10 : Int) ^ (30 : Int).toNat - 1)]) np9
          have ap9 := S8.fresh np9
          refine ⟨.ref a, rfl, a, c, _, 2, rfl, S9, by omega, by decide, by decide, fun H10 r10 S10 k10 h100 h101 => ?_⟩
          obtain ⟨v, hv, hv2⟩ := pick2 (x := 2) (y := (10 : Int) ^ (30 : Int).toNat - 1) h100 h101
          have e30 : (10 : Int) ^ (30 : Int).toNat = 1000000000000000000000000000000 := by decide
          refine ⟨p9, _, r10, .int v, rfl, rfl, sqlOf (k10 p9 _ ap9.1 ap9.2 upd_same), hv, a, c, _, v, rfl, S10, by omega, by omega, fun H11 r11 S11 k11 _ _ => ?_⟩
          refine ⟨1, r11, rfl, rfl, ?_⟩
          -- terms[tuple(powers)] = number * (1 - 2 * pick(stock, 2))
          refine ⟨_, rfl, .ref a, rfl, a, c, _, 2, rfl, S11, by omega, by decide, by decide, fun H12 r12 S12 k12 h120 h121 => ?_⟩
          have hD12 : H12 D2 = some (.lst (ns.map V.int)) := k12 D2 _ aD2.1 aD2.2 (k11 D2 _ aD2.1 aD2.2 (k10 D2 _ aD2.1 aD2.2 (by rw [upd_ne (ne_of_none hD8 np9)]; exact hD8)))
          have hd12 : H12 d = some (.dT kvs) := k12 d _ adn.1 adn.2 (k11 d _ adn.1 adn.2 (k10 d _ adn.1 adn.2 (by rw [upd_ne (ne_of_none hd8 np9)]; exact hd8)))
          have kp12 := (((kp8.trans (Keep.new (o := .lst [.int 2, .int ((10 : Int) ^ (30 : Int).toNat - 1)]) np9)).trans k10).trans k11).trans k12
          refine ⟨2, r12, rfl, rfl, .inl ⟨by decide, by decide⟩, 1, _, rfl, rfl, _, _, rfl, rfl, .inr ⟨by omega, by omega⟩, .ref d, rfl, .ref D2, rfl, D2, _, rfl, .inl ⟨sqlOf hD12, fun t2 nt2 => ?_⟩⟩
          have S13 := S12.new (o := .tup (ns.map V.int)) nt2
          refine ⟨d, _, rfl, DPut.t (kvs := kvs) (k := ns.map Sum.inl) (by rw [upd_ne (ne_of_none hd12 nt2)]; exact hd12) (by rw [upd_same, map_kV]) (by rw [sizeLine_eq]; omega), ?_⟩
          refine ⟨_, _, _, _, _, rfl, (S13.put adn).more (by omega), (kp12.trans (Keep.new nt2)).put nd, upd_same, fun q hq => ?_, Nat.le_trans (put_len _ _ _) (Nat.succ_le_succ hkl)⟩
          rcases put_mem hq with hq | hq
          · exact hk q hq
          · exact ⟨ns, _, hq, hns⟩
    · -- return [(powers, terms[powers]) for powers in sorted(terms)]
      obtain ⟨y4, y5, y6, y7, kvs, rfl, S6, kp6, hd6, hk, hkl⟩ := h
      obtain ⟨kv, ekv, hkv⟩ := kv_form hk
      have lkv : kvs.length = kv.length := by rw [ekv, List.length_map]
      refine ⟨.ref d, rfl, d, kv, rfl, .inl (by rw [hd6, ekv]), (fun p hp => ?_), fun ks p perm srt kt np => ?_⟩
      · have := (hkv p hp).1
        intro z
        rw [z] at this
        simp at this
        omega
      · have lks : ks.length = kv.length := by
          have := perm.length_eq
          rw [List.length_map, List.length_map] at this
          exact this
        refine ⟨p, rfl, ⟨_, sqlOf upd_same⟩, fun D nD => ?_⟩
        have pD : p ≠ D := ne_of_none upd_same nD
        have S7 := S6.new (o := .lst (ks.map fun q => V.ref q.1)) np
        have aD := S7.fresh nD
        have kp7 := kp6.trans (Keep.new (o := .lst (ks.map fun q => V.ref q.1)) np)
        refine lc_list (xs := ks.map fun q => V.ref q.1) (fun j H' => ∃ L : List Row, L.length = j ∧ H' D = some (.lst (L.map Row.v)) ∧ RowsOk H' L ∧ ∀ b o, b ≠ D → upd H6 p (.lst (ks.map fun q => V.ref q.1)) b = some o → H' b = some o)
          ⟨[], rfl, upd_same, (fun r h => by cases h), fun b o hb e => by rw [upd_ne hb]; exact e⟩ (fun j H' _ h => ?_) (fun j x H7 hx h => ?_) (fun H7 h => ?_)
        · obtain ⟨L, _, _, _, kk⟩ := h
          exact sqlOf (kk p _ pD upd_same)
        · obtain ⟨L, rfl, hD, ho, kk⟩ := h
          rw [List.getElem?_map] at hx
          obtain ⟨g, hg, rfl⟩ := Option.map_eq_some_iff.mp hx
          have hmem : g ∈ ks := List.mem_of_getElem? hg
          have hmem2 : g.2 ∈ kv.map (·.1) := perm.mem_iff.mp (List.mem_map.mpr ⟨_, hmem, rfl⟩)
          obtain ⟨cc, hcc⟩ := val_of hkv hmem2
          have hlen : g.2.length = m := by
            obtain ⟨pp, hpp, e3⟩ := List.mem_map.mp hmem2
            rw [← e3]
            exact (hkv pp hpp).1
          have up : ∀ {b : Addr} {o : HO}, H6 b = some o → H7 b = some o := fun {b o} e => by
            have e1 : upd H6 p (.lst (ks.map fun q => V.ref q.1)) b = some o := by
              rw [upd_ne (ne_of_none e np)]
              exact e
            exact kk b o (ne_of_none e1 nD) e1
          have hgt := up (kt g hmem)
          have hjl : L.length < ks.length := (List.getElem?_eq_some_iff.mp hg).1
          refine ⟨rfl, .ref g.1, rfl, .ref d, rfl, .ref g.1, rfl, d, .int cc, rfl, ?_, size2, fun t nt => ?_⟩
          · have e1 := up hd6
            rw [ekv] at e1
            have := DGet.t (k := g.2.map Sum.inl) e1 (b := g.1) (by rw [map_kV]; exact hgt)
            rw [hcc] at this
            exact this
          · have tD : D ≠ t := ne_of_none hD nt
            refine ⟨_, (by rw [upd_ne tD]; exact hD), (by rw [List.length_map, sizeLine_eq]; omega), L ++ [⟨t, g.1, g.2, cc⟩], by simp, (by rw [upd_same, List.map_append]; rfl), fun r hr => ?_, fun b o hb e => ?_⟩
            · have kt2 : KeepT H7 (upd (upd H7 t (.tup [.ref g.1, .int cc])) D (.lst (L.map Row.v ++ [.ref t]))) := fun b xs e => by
                rw [upd_ne (ne_of e hD (by intro z; cases z)), upd_ne (ne_of_none e nt)]
                exact e
              rcases List.mem_append.mp hr with hr | hr
              · exact RowsOk.keep ho kt2 r hr
              · rw [List.mem_singleton.mp hr]
                exact ⟨by rw [upd_ne tD.symm, upd_same], kt2 _ _ hgt, by show g.2.length ≤ 12; omega⟩
            · rw [upd_ne hb, upd_ne (ne_of_none (kk b o hb e) nt)]
              exact kk b o hb e
        · obtain ⟨L, hL, hD, ho, kk⟩ := h
          have nDH : H D = none := kp7.free aD nD
          rw [List.length_map] at hL
          refine q H7 D L ((S7.but aD kk).more (by omega)) (fun b o h1 h2 e => ?_) hD nDH ho (by omega)
          exact kk b o (ne_of_none e nDH) (kp7 b o h1 h2 e)
end
end K13

namespace K13
open PySem PySem.Spec PyProof.Rows L2 R1
abbrev nmSp : List Str := ["_law_stock_here", "_law_rows_here", "_law_way", "_law_at", "_law_powers", "_law_factor", "_law_other", "_law_result", "_law_row"]
theorem scSp : FnScope nmSp ["_law_stock_here", "_law_rows_here"] (defScope sSpoilt) := ⟨rfl, rfl, rfl, by decide +kernel, rfl, by decide +kernel, by decide +kernel⟩
theorem cutV_take {xs : List V} {j : Nat} (h : j ≤ xs.length) : cutV xs none (some (j : Int)) = xs.take j := by
  unfold cutV
  rw [HT.sIx_none, HT.sIx_nat, Nat.min_eq_left h]
  rfl
theorem cutV_drop {xs : List V} {j : Nat} (h : j ≤ xs.length) : cutV xs (some (j : Int)) none = xs.drop j := by
  unfold cutV
  rw [HT.sIx_none, HT.sIx_nat, Nat.min_eq_left h]
  exact List.take_of_length_le (by rw [List.length_drop]; exact Nat.le_refl _)
theorem cutV_ints (ns : List Int) (lo hi : Option Int) : ∃ ms : List Int, cutV (ns.map V.int) lo hi = ms.map V.int ∧ ms.length ≤ ns.length := by
  refine ⟨(ns.drop (HT.sIx ns.length 0 lo)).take (HT.sIx ns.length ns.length hi - HT.sIx ns.length 0 lo), ?_, ?_⟩
  · unfold cutV
    rw [List.length_map, List.map_take, List.map_drop]
  · rw [List.length_take, List.length_drop]
    omega
theorem RowsOk.take {H : Hp} {L : List Row} (h : RowsOk H L) (j : Nat) : RowsOk H (L.take j) := fun r hr => h r (List.mem_of_mem_take hr)
theorem RowsOk.drop {H : Hp} {L : List Row} (h : RowsOk H L) (j : Nat) : RowsOk H (L.drop j) := fun r hr => h r (List.mem_of_mem_drop hr)
theorem RowsOk.app {H : Hp} {L M : List Row} (h : RowsOk H L) (h' : RowsOk H M) : RowsOk H (L ++ M) := fun r hr => by
  rcases List.mem_append.mp hr with hr | hr
  · exact h r hr
  · exact h' r hr
abbrev rLen (K : PySem.W.Frag) : List V → Hp → VK → Prop := fun xs H Q => ∃ p ys, xs = [V.ref p] ∧ (SqL K H p ys ∨ SqT K H p ys) ∧ Q (.int ys.length) H
/-- what a middle part gives -/
def Mid (a c : Addr) (n2 : Nat) (H1 : Hp) (Q : VK) : Prop := ∀ (b : Addr) (M : List Row) (H2 : Hp), H2 b = some (.lst (M.map Row.v)) → RowsOk H2 M → M.length ≤ 2 → Stock H2 a c n2 → Keep a c H1 H2 → Q (.ref b) H2
/-- rows[:at] + mid + rows[at + 1:] -/
theorem splice {K : PySem.W.Frag} {σ : L2.St} {H : Hp} {Q : VK} {tm : TE} {a c l : Addr} {L : List Row} {j n n2 : Nat} (S : Stock H a c n) (hl : H l = some (.lst (L.map Row.v))) (ho : RowsOk H L) (hla : l ≠ a ∧ l ≠ c) (hj : j < L.length) (hL : L.length ≤ 1000)
    (σ1 : σ[1]? = some (some (V.ref l))) (σ3 : σ[3]? = some (some (V.int j)))
    (hm : ∀ p, H p = none → Stock (upd H p (.lst ((L.take j).map Row.v))) a c n → Same H (upd H p (.lst ((L.take j).map Row.v))) → ∀ Q', Mid a c n2 (upd H p (.lst ((L.take j).map Row.v))) Q' → tm σ (upd H p (.lst ((L.take j).map Row.v))) Q')
    (q : ∀ H' p (L' : List Row), Stock H' a c n2 → Keep a c H H' → H p = none → H' p = some (.lst (L'.map Row.v)) → RowsOk H' L' → L'.length ≤ L.length + 1 → Q (.ref p) H') :
    tOp rCat (tOp rCat (tSl (rSlL K) (tVar 1) tNoPart (tPart (tVar 3))) tm) (tSl (rSlL K) (tVar 1) (tPart (tOp (rI0 fun i j => V.int (i + j)) (tVar 3) (tC (V.int 1)))) tNoPart) σ H Q := by
  refine ⟨.ref l, σ1, .int j, σ3, j, rfl, l, _, rfl, sqlOf hl, fun p np => ?_⟩
  rw [cutV_take (by rw [List.length_map]; omega), ← List.map_take]
  have S1 := S.new (o := .lst ((L.take j).map Row.v)) np
  have ap := S.fresh np
  have s1 : Same H (upd H p (.lst ((L.take j).map Row.v))) := same_new np
  refine hm p np S1 s1 _ fun b M H2 hb hM hM2 S2 k2 => ?_
  have hp2 := k2 p _ ap.1 ap.2 upd_same
  have kt2 := S1.keepT k2
  have ho2 : RowsOk H2 L := (ho.keep (KeepT.new np)).keep kt2
  have hl2 : H2 l = some (.lst (L.map Row.v)) := k2 l _ hla.1 hla.2 (s1 _ _ hl)
  refine ⟨p, b, _, _, rfl, rfl, hp2, hb, (by rw [List.length_map, List.length_map, List.length_take, sizeLine_eq]; omega), fun p3 np3 => ?_⟩
  rw [← List.map_append]
  have S3 := S2.new (o := .lst ((L.take j ++ M).map Row.v)) np3
  have s3 : Same H2 (upd H2 p3 (.lst ((L.take j ++ M).map Row.v))) := same_new np3
  refine ⟨.ref l, σ1, .int j, σ3, j, 1, rfl, rfl, _, rfl, l, _, rfl, sqlOf (s3 _ _ hl2), fun p4 np4 => ?_⟩
  have e1 : ((j : Int) + 1) = ((j + 1 : Nat) : Int) := by omega
  rw [e1, cutV_drop (by rw [List.length_map]; omega), ← List.map_drop]
  have S4 := S3.new (o := .lst ((L.drop (j + 1)).map Row.v)) np4
  have s4 : Same (upd H2 p3 (.lst ((L.take j ++ M).map Row.v))) (upd (upd H2 p3 (.lst ((L.take j ++ M).map Row.v))) p4 (.lst ((L.drop (j + 1)).map Row.v))) := same_new np4
  refine ⟨p3, p4, _, _, rfl, rfl, s4 _ _ upd_same, upd_same, (by rw [List.length_map, List.length_map, List.length_append, List.length_take, List.length_drop, sizeLine_eq]; omega), fun p5 np5 => ?_⟩
  rw [← List.map_append]
  have ap5 := S4.fresh np5
  have kp5 : Keep a c H (upd (upd (upd H2 p3 (.lst ((L.take j ++ M).map Row.v))) p4 (.lst ((L.drop (j + 1)).map Row.v))) p5 (.lst ((L.take j ++ M ++ L.drop (j + 1)).map Row.v))) :=
    ((((same_keep s1).trans k2).trans (Keep.new np3)).trans (Keep.new np4)).trans (Keep.new np5)
  have np5H : H p5 = none := ((((same_keep s1).trans k2).trans (Keep.new np3)).trans (Keep.new np4)).free ap5 np5
  refine q _ p5 _ (S4.new np5) kp5 np5H upd_same ?_ ?_
  · have kk : KeepT H2 (upd (upd (upd H2 p3 (.lst ((L.take j ++ M).map Row.v))) p4 (.lst ((L.drop (j + 1)).map Row.v))) p5 (.lst ((L.take j ++ M ++ L.drop (j + 1)).map Row.v))) := ((KeepT.new np3).trans (KeepT.new np4)).trans (KeepT.new np5)
    exact (((ho2.take j).app hM).app (ho2.drop (j + 1))).keep kk
  · rw [List.length_append, List.length_append, List.length_take, List.length_drop]
    omega
theorem size1 {a : V} : [a].length ≤ sizeLine := by
  rw [sizeLine_eq]
  show 1 ≤ 16777216
  decide
theorem mid1 {a c : Addr} {n2 : Nat} {H1 G : Hp} {Q' : VK} (m : Mid a c n2 H1 Q') (S : Stock G a c n2) (k : Keep a c H1 G) {t p' b : Addr} {ns' : List Int} {c' : Int} (nt : G t = none) (hp : G p' = some (.tup (ns'.map V.int))) (hl : ns'.length ≤ 12)
    (nb : upd G t (.tup [.ref p', .int c']) b = none) : Q' (.ref b) (upd (upd G t (.tup [.ref p', .int c'])) b (.lst [.ref t])) := by
  have tb : t ≠ b := ne_of_none upd_same nb
  refine m b [⟨t, p', ns', c'⟩] _ upd_same (fun r hr => ?_) (by show 1 ≤ 2; decide) ((S.new nt).new nb) ((k.trans (Keep.new nt)).trans (Keep.new nb))
  rw [List.mem_singleton.mp hr]
  refine ⟨by rw [upd_ne tb]; exact upd_same, ?_, hl⟩
  exact KeepT.new nb _ _ (KeepT.new nt _ _ hp)
section
variable {P : Program} {w : World} {K : PySem.W.Frag} {mg : Str → Option Value} {base : Heap}
def spSpoilt : Sp := fun vs H Q _ => ∃ (a c l : Addr) (n : Nat) (L : List Row), vs = [.ref a, .ref l] ∧ Stock H a c n ∧ n ≤ 900000 ∧ H l = some (.lst (L.map Row.v)) ∧ RowsOk H L ∧ (l ≠ a ∧ l ≠ c) ∧ 0 < L.length ∧ L.length ≤ 900 ∧
  ∀ H' p (L' : List Row), Stock H' a c (n + 3) → Keep a c H H' → H p = none → H' p = some (.lst (L'.map Row.v)) → RowsOk H' L' → L'.length ≤ L.length + 1 → Q (.ref p) H'
theorem ok_spoilt {f fP : Addr} {fd fdP : FuncData} {k : Nat} (F : Fun K "_law_spoilt" "_law_spoilt" sSpoilt f fd) (FP : Fun K "_law_pick" "_law_pick" sPick fP fdP) (bP : Binds K fdP ["_law_stock_here", "_law_limit"] []) (gP : mg "_law_pick" = some (.ref fP))
    (mi : mg "int" = none) (ml : mg "list" = none) (me : mg "len" = none) (mx : mg "max" = none) :
    FnOk P w K mg base CX0 (k + 2) f fd ["_law_stock_here", "_law_rows_here"] spSpoilt := by
  have GP : FnOk P w K mg base CX0 (k + 1) fP fdP ["_law_stock_here", "_law_limit"] spPick := ok_pick FP mi
  refine F.ok scSp (fun vs H Q E h => ?_) (fun cdv A outer s H vs Q E hr h => ?_)
  · obtain ⟨a, c, l, n, L, rfl, _⟩ := h
    rfl
  · obtain ⟨a, c, l, n, L, rfl, S, hn, hl, ho, hla, hL0, hL1, q⟩ := h
    have hu := hu_of hr
    refine ⟨_, pss_cons (ps_par (i := 2) (j := 3) (by rfl) scSp.nd rfl rfl (by decide) rfl rfl (pa_cons (pe_call GP hr (by rfl) gP FP.kp bP .nil pass0 (pa_cons (pv 0) (pa_cons pe_int pa_nil))) (pa_cons (pe_call GP hr (by rfl) gP FP.kp bP .nil pass0 (pa_cons (pv 0) (pa_cons (pe_callB call_len_seq (by rfl) me PySem.boot_len (pa_cons (pv 1) pa_nil)) pa_nil))) pa_nil)) (by rfl))
      (pss_cons (ps_asg (pe_ix ix_list (pv 1) (pv 3) (fun _ _ => rfl)) (pg_tup rfl (pgs_cons (pg_name (i := 4) scSp.nd rfl (.inl rfl)) (pgs_cons (pg_name (i := 5) scSp.nd rfl (.inl rfl)) pgs_nil))))
      (pss_cons (ps_if (pt_cmpR op_eq (pv 2) pe_int (nomark _)) (pss_one (ps_ret (pe_op op_cat (pe_op op_cat (pe_slice sl_list (pv 1) po_none (po_some (pv 3))) (pe_lst (pa_cons (pe_tup (pa_cons (pv 4) (pa_cons pe_int pa_nil))) pa_nil))) (pe_slice sl_list (pv 1) (po_some (pe_op op_add (pv 3) pe_int)) po_none)))) pss_nil)
      (pss_cons (ps_if (pt_cmpR op_eq (pv 2) pe_int (nomark _)) (pss_one (ps_ret (pe_op op_cat (pe_op op_cat (pe_slice sl_list (pv 1) po_none (po_some (pv 3))) (pe_lst (pa_cons (pe_tup (pa_cons (pv 4) (pa_cons (pv 5) pa_nil))) (pa_cons (pe_tup (pa_cons (pv 4) (pa_cons (pe_op op_sub pe_int (pv 5)) pa_nil))) pa_nil)))) (pe_slice sl_list (pv 1) (po_some (pe_op op_add (pv 3) pe_int)) po_none)))) pss_nil)
      (pss_cons (ps_if (pt_cmpR op_eq (pv 2) pe_int (nomark _))
        (pss_cons (ps_set (i := 6) scSp.nd rfl (.inl rfl) (pe_op op_mod (pe_callTy call_int1 (by rfl) mi PyProof.Rows.boot_int (pa_cons (pe_op op_add (pe_op op_add (pv 3) pe_int) (pe_call GP hr (by rfl) gP FP.kp bP .nil pass0 (pa_cons (pv 0) (pa_cons (pe_callB (call_max2 rfl) (by rfl) mx (by decide +kernel) (pa_cons pe_int (pa_cons (pe_op op_sub (pe_callB call_len_seq (by rfl) me PySem.boot_len (pa_cons (pv 1) pa_nil)) pe_int) pa_nil))) pa_nil)))) pa_nil)) (pe_callB call_len_seq (by rfl) me PySem.boot_len (pa_cons (pv 1) pa_nil))))
        (pss_cons (ps_set (i := 7) scSp.nd rfl (.inl rfl) (pe_callTy call_list_of (by rfl) ml (by decide +kernel) (pa_cons (pv 1) pa_nil)))
        (pss_cons (ps_asg (pe_tup (pa_cons (pe_ix ix_list (pv 1) (pv 6) (fun _ _ => rfl)) (pa_cons (pe_ix ix_list (pv 1) (pv 3) (fun _ _ => rfl)) pa_nil))) (pg_tup rfl (pgs_cons (pg_sub (pv 7) (pv 3) set_list) (pgs_cons (pg_sub (pv 7) (pv 6) set_list) pgs_nil))))
        (pss_one (ps_ret (pv 7)))))) pss_nil)
      (Evl.pss_cut (ps_if (PW.pt (pw_and (pt_cmpR op_eq (pv 2) pe_int (nomark _)) (pw_and1 (pt_cmpR op_lt (pe_callB call_len_seq (by rfl) me PySem.boot_len (pa_cons (pv 4) pa_nil)) pe_int (nomark _)))))
        (pss_one (ps_ret (pe_op op_cat (pe_op op_cat (pe_slice sl_list (pv 1) po_none (po_some (pv 3))) (pe_lst (pa_cons (pe_tup (pa_cons (pe_op op_catA (pv 4) (pe_tup (pa_cons (pe_op op_sub (pe_call GP hr (by rfl) gP FP.kp bP .nil pass0 (pa_cons (pv 0) (pa_cons pe_int pa_nil))) pe_int) pa_nil))) (pa_cons (pv 5) pa_nil))) pa_nil))) (pe_slice sl_list (pv 1) (po_some (pe_op op_add (pv 3) pe_int)) po_none)))) pss_nil)
      (pss_cons (ps_if (pt_cmpR op_eq (pv 2) pe_int (nomark _)) (pss_one (ps_ret (pe_op op_cat (pe_op op_cat (pe_slice sl_list (pv 1) po_none (po_some (pv 3))) (pe_lst (pa_cons (pe_tup (pa_cons (pe_slice sl_tupA (pv 4) po_none (po_some (pe_un un_neg pe_int))) (pa_cons (pv 5) pa_nil))) pa_nil))) (pe_slice sl_list (pv 1) (po_some (pe_op op_add (pv 3) pe_int)) po_none)))) pss_nil)
      (Evl.pss_cut (ps_if (PW.pt (pw_and (pt_cmpR op_eq (pv 2) pe_int (nomark _)) (pw_and1 (pt_cmpR op_gt (pe_callB call_len_seq (by rfl) me PySem.boot_len (pa_cons (pv 4) pa_nil)) pe_int (nomark _)))))
        (pss_one (ps_ret (pe_op op_cat (pe_op op_cat (pe_slice sl_list (pv 1) po_none (po_some (pv 3))) (pe_lst (pa_cons (pe_tup (pa_cons (pe_op op_catA (pe_tup (pa_cons pe_int pa_nil)) (pe_slice sl_tupA (pv 4) (po_some pe_int) po_none)) (pa_cons (pv 5) pa_nil))) pa_nil))) (pe_slice sl_list (pv 1) (po_some (pe_op op_add (pv 3) pe_int)) po_none)))) pss_nil)
      (Evl.pss_cut (ps_if (PW.pt (pw_and (pt_cmpR op_eq (pv 2) pe_int (nomark _)) (pw_and1 (pt_cmpR op_lt (pe_callB call_len_seq (by rfl) me PySem.boot_len (pa_cons (pv 4) pa_nil)) pe_int (nomark _)))))
        (pss_one (ps_ret (pe_lc (own := [("_law_row", 8)]) (g := gName 8) (by rfl) scSp.nd (pi_list (pv 1)) (blkOk_by (own := [("_law_row", 8)]) (N := nmSp) (sc := defScope sSpoilt) (by decide +kernel))
          (fun _ _ _ _ _ => pg_name (i := 8) scSp.nd rfl (.inl rfl)) (fun _ _ _ _ _ => pts_nil) (fun _ _ _ _ _ => pe_tup (pa_cons (pe_op (r := rCatA K) op_catA (pe_ix (r := rIxT K) ix_tup (pv 8) pe_int (fun _ _ => rfl)) (pe_op (r := rRepT01 K) op_repT01 (pe_tup (pa_cons pe_int pa_nil)) (pe_callTy call_int1 (by rfl) mi PyProof.Rows.boot_int (pa_cons (pe_cmpR op_lt (pe_callB (r := rLen K) call_len_seq (by rfl) me PySem.boot_len (pa_cons (pe_ix (r := rIxT K) ix_tup (pv 8) pe_int (fun _ _ => rfl)) pa_nil)) pe_int (nomark _)) pa_nil))))
            (pa_cons (pe_ix (r := rIxT K) ix_tup (pv 8) pe_int (fun _ _ => rfl)) pa_nil)))))) pss_nil)
      (pss_one (ps_ret (pe_revL (pv 1)))))))))))), ?_⟩
    refine ⟨.ref a, rfl, a, c, n, 8, rfl, S, by omega, by decide, by decide, fun H1 way S1 k1 w0 w1 => ?_⟩
    have hl1 := k1 l _ hla.1 hla.2 hl
    refine ⟨.ref a, rfl, .ref l, rfl, l, _, rfl, .inl (sqlOf hl1), a, c, _, _, rfl, S1, by omega, (by rw [List.length_map]; omega), (by rw [List.length_map]; omega), fun H2 r2 S2 k2 a0 a1 => ⟨_, _, rfl, ?_⟩⟩
    have hl2 := k2 l _ hla.1 hla.2 hl1
    have k12 := k1.trans k2
    have ho2 : RowsOk H2 L := (ho.keep (S.keepT k1)).keep (S1.keepT k2)
    obtain ⟨j, rfl⟩ : ∃ j : Nat, r2 = (j : Int) := ⟨r2.toNat, by omega⟩
    rw [List.length_map] at a1
    have hj : j < L.length := by omega
    obtain ⟨R, hR⟩ : ∃ R, L[j]? = some R := ⟨L[j], List.getElem?_eq_getElem hj⟩
    have hRm : R ∈ L := List.mem_of_getElem? hR
    have hRv : (L.map Row.v)[j]? = some (V.ref R.t) := by
      rw [List.getElem?_map, hR]
      rfl
    obtain ⟨o1, o2, o3⟩ := ho2 R hRm
    have q2 : ∀ {n2 : Nat}, n2 ≤ n + 3 → ∀ H' p (L' : List Row), Stock H' a c n2 → Keep a c H2 H' → H2 p = none → H' p = some (.lst (L'.map Row.v)) → RowsOk H' L' → L'.length ≤ L.length + 1 → Q (.ref p) H' := fun hn2 H' p L' s1 s2 s3 s4 s5 s6 =>
      q H' p L' (s1.more hn2) (k12.trans s2) (k12.free (S2.fresh s3) s3) s4 s5 s6
    refine ⟨.ref l, rfl, .int j, rfl, l, _, j, .ref R.t, rfl, rfl, sqlOf hl2, atI_nat hRv, R.t, [.ref R.p, .int R.c], rfl, .inl (.inl o1), rfl, .ref R.p, [.int R.c], rfl, .int R.c, [], rfl, rfl, ?_⟩
    -- way 0
    refine ⟨.int way, rfl, rfl, _, rfl, ite2 (fun _ => ?_) (fun _ => ?_)⟩
    · refine splice S2 hl2 ho2 hla hj (by omega) rfl rfl (fun p np Sp sp Q' m => ?_) (q2 (n2 := n + 1 + 1) (by omega))
      exact ⟨.ref R.p, rfl, size2, fun t nt => ⟨size1, fun b nb => mid1 m Sp Keep.refl nt (sp _ _ o2) o3 nb⟩⟩
    -- way 1
    refine ⟨.int way, rfl, rfl, _, rfl, ite2 (fun _ => ?_) (fun _ => ?_)⟩
    · refine splice S2 hl2 ho2 hla hj (by omega) rfl rfl (fun p np Sp sp Q' m => ?_) (q2 (n2 := n + 1 + 1) (by omega))
      refine ⟨.ref R.p, rfl, .int R.c, rfl, size2, fun t nt => ⟨.ref R.p, rfl, .int R.c, rfl, 0, R.c, rfl, rfl, size2, fun t2 nt2 => ⟨size2, fun b nb => ?_⟩⟩⟩
      have t2b : t2 ≠ b := ne_of_none upd_same nb
      have tt2 : t ≠ t2 := ne_of_none upd_same nt2
      have tb : t ≠ b := ne_of_none (by rw [upd_ne tt2]; exact upd_same) nb
      refine m b [⟨t, R.p, R.ns, R.c⟩, ⟨t2, R.p, R.ns, 0 - R.c⟩] _ upd_same (fun r hr => ?_) (by show 2 ≤ 2; decide) (((Sp.new nt).new nt2).new nb) (((Keep.refl.trans (Keep.new nt)).trans (Keep.new nt2)).trans (Keep.new nb))
      have hp := KeepT.new (o := .lst [.ref t, .ref t2]) nb _ _ (KeepT.new (o := .tup [.ref R.p, .int (0 - R.c)]) nt2 _ _ (KeepT.new (o := .tup [.ref R.p, .int R.c]) nt _ _ (sp _ _ o2)))
      rcases List.mem_cons.mp hr with rfl | hr
      · exact ⟨by rw [upd_ne tb, upd_ne tt2]; exact upd_same, hp, o3⟩
      · rw [List.mem_singleton.mp hr]
        exact ⟨by rw [upd_ne t2b]; exact upd_same, hp, o3⟩
    -- way 2
    refine ⟨.int way, rfl, rfl, _, rfl, ite2 (fun _ => ?_) (fun _ => ?_)⟩
    · refine ⟨.int j, rfl, j, 1, rfl, rfl, .ref a, rfl, .ref l, rfl, l, _, rfl, .inl (sqlOf hl2), _, 1, rfl, rfl, 1, _, rfl, a, c, _, _, rfl, S2, by omega, ?_, ?_, fun H3 r3 S3 k3 _ _ => ?_⟩
      · split <;> omega
      · rw [List.length_map]
        split <;> omega
      have hl3 := k3 l _ hla.1 hla.2 hl2
      have ho3 : RowsOk H3 L := ho2.keep (S2.keepT k3)
      have hlen : (0 : Int) < ((L.map Row.v).length : Nat) := by
        rw [List.length_map]
        omega
      refine ⟨_, r3, rfl, rfl, .inl ⟨_, rfl, .ref l, rfl, l, _, rfl, .inl (sqlOf hl3), _, _, rfl, rfl, hlen, ?_⟩⟩
      obtain ⟨o, ho0, hoL⟩ : ∃ o : Nat, ((j : Int) + 1 + r3) % ((L.map Row.v).length : Nat) = (o : Int) ∧ o < L.length := by
        have h0 := Int.emod_nonneg ((j : Int) + 1 + r3) (show ((L.map Row.v).length : Int) ≠ 0 by omega)
        have h1 := Int.emod_lt_of_pos ((j : Int) + 1 + r3) hlen
        rw [List.length_map] at h0 h1 ⊢
        exact ⟨(((j : Int) + 1 + r3) % (L.length : Nat)).toNat, by omega, by omega⟩
      show gName 6 (V.int (((j : Int) + 1 + r3) % ((L.map Row.v).length : Nat))) _ _ _
      rw [ho0]
      obtain ⟨R2, hR2⟩ : ∃ R2, L[o]? = some R2 := ⟨L[o], List.getElem?_eq_getElem hoL⟩
      have hRv2 : (L.map Row.v)[o]? = some (V.ref R2.t) := by
        rw [List.getElem?_map, hR2]
        rfl
      refine ⟨.ref l, rfl, l, _, rfl, .inl (sqlOf hl3), fun p np => ?_⟩
      have S4 := S3.new (o := .lst (L.map Row.v)) np
      have ap := S3.fresh np
      have s4 : Same H3 (upd H3 p (.lst (L.map Row.v))) := same_new np
      have npH2 : H2 p = none := k3.free ap np
      refine ⟨.ref l, rfl, .int o, rfl, l, _, o, .ref R2.t, rfl, rfl, sqlOf (s4 _ _ hl3), atI_nat hRv2, .ref l, rfl, .int j, rfl, l, _, j, .ref R.t, rfl, rfl, sqlOf (s4 _ _ hl3), atI_nat hRv, size2, fun t nt => ?_⟩
      have tp : p ≠ t := ne_of_none upd_same nt
      have hp5 : upd (upd H3 p (.lst (L.map Row.v))) t (.tup [.ref R2.t, .ref R.t]) p = some (.lst (L.map Row.v)) := by
        rw [upd_ne tp]
        exact upd_same
      refine ⟨t, [.ref R2.t, .ref R.t], rfl, .inl (.inl upd_same), rfl, .ref R2.t, [.ref R.t], rfl, .ref p, rfl, .int j, rfl, p, _, j, j, rfl, rfl, hp5, ?_, .ref R.t, [], rfl, .ref p, rfl, .int o, rfl, p, _, o, o, rfl, rfl, upd_same, ?_, rfl, ?_⟩
      · unfold ixN
        rw [List.length_map, if_pos (by omega), if_pos (by omega), Int.toNat_natCast]
      · unfold ixN
        rw [List.length_set, List.length_map, if_pos (by omega), if_pos (by omega), Int.toNat_natCast]
      · refine ⟨.ref p, rfl, q2 (n2 := n + 3) (by omega) _ p ((L.set j R2).set o R) ?_ ?_ npH2 ?_ ?_ ?_⟩
        · exact ((S4.new nt).put ap).put ap
        · exact (((k3.trans (Keep.new np)).trans (Keep.new nt)).put npH2).put npH2
        · rw [upd_same, List.map_set, List.map_set]
          rfl
        · have kt : KeepT H3 (upd (upd (upd (upd H3 p (.lst (L.map Row.v))) t (.tup [.ref R2.t, .ref R.t])) p (.lst ((L.map Row.v).set j (.ref R2.t)))) p (.lst (((L.map Row.v).set j (.ref R2.t)).set o (.ref R.t)))) := fun b xs e => by
            have bp : b ≠ p := ne_of_none e np
            rw [upd_ne bp, upd_ne bp]
            exact KeepT.new nt _ _ (KeepT.new np _ _ e)
          refine RowsOk.keep (fun r hr => ?_) kt
          rcases List.mem_or_eq_of_mem_set hr with hr | rfl
          · rcases List.mem_or_eq_of_mem_set hr with hr | rfl
            · exact ho3 r hr
            · exact ho3 _ (List.mem_of_getElem? hR2)
          · exact ho3 _ hRm
        · rw [List.length_set, List.length_set]
          omega
    -- way 3
    refine ⟨fun σ' H' => σ' = [some (.ref a), some (.ref l), some (.int way), some (.int j), some (.ref R.p), some (.int R.c), none, none, none] ∧ H' = H2, ⟨.int way, rfl, rfl, _, rfl, ite2 (fun _ => ⟨.ref R.p, rfl, R.p, _, rfl, .inr (.inl (.inl o2)), _, 12, rfl, rfl, _, rfl, ite2 (fun e => ?_) (fun _ => ⟨rfl, rfl⟩)⟩) (fun _ => iteF ⟨rfl, rfl⟩)⟩, ?_⟩
    · have e12 : R.ns.length < 12 := by
        have := of_decide_eq_true e
        rw [List.length_map] at this
        omega
      refine splice S2 hl2 ho2 hla hj (by omega) rfl rfl (fun p np Sp sp Q' m => ?_) (q2 (n2 := n + 3) (by omega))
      refine ⟨.ref R.p, rfl, .ref a, rfl, a, c, _, 3, rfl, Sp, by omega, by decide, by decide, fun H4 r4 S4 k4 _ _ => ⟨r4, 1, rfl, rfl, size1, fun u nu => ?_⟩⟩
      have o24 := Sp.keepT k4 _ _ (sp _ _ o2)
      have o25 : upd H4 u (.tup [.int (r4 - 1)]) R.p = some (.tup (R.ns.map V.int)) := KeepT.new nu _ _ o24
      have S5 := S4.new (o := .tup [.int (r4 - 1)]) nu
      have k5 : Keep a c (upd H2 p (.lst ((L.take j).map Row.v))) (upd H4 u (.tup [.int (r4 - 1)])) := k4.trans (Keep.new nu)
      refine ⟨R.p, u, R.ns.map V.int, [.int (r4 - 1)], rfl, rfl, .inl (.inl o25), .inl (.inl upd_same), (by rw [List.length_map, sizeLine_eq]; show R.ns.length + 1 ≤ 16777216; omega), (fun e0 => ?_), (fun _ e0 => by cases e0), fun _ _ pc npc => ?_⟩
      · exact ⟨.int R.c, rfl, size2, fun t nt => ⟨size1, fun b nb => mid1 (ns' := [r4 - 1]) m S5 k5 nt upd_same (by show 1 ≤ 12; decide) nb⟩⟩
      · exact ⟨.int R.c, rfl, size2, fun t nt => ⟨size1, fun b nb => mid1 (ns' := R.ns ++ [r4 - 1]) m (S5.new npc) (k5.trans (Keep.new npc)) nt (by rw [upd_same, List.map_append]; rfl) (by rw [List.length_append]; show R.ns.length + 1 ≤ 12; omega) nb⟩⟩
    rintro σ' H' ⟨rfl, rfl⟩
    -- way 4
    refine ⟨.int way, rfl, rfl, _, rfl, ite2 (fun _ => ?_) (fun _ => ?_)⟩
    · refine splice S2 hl2 ho2 hla hj (by omega) rfl rfl (fun p np Sp sp Q' m => ?_) (q2 (n2 := n + 1 + 1) (by omega))
      obtain ⟨ms, em, hml⟩ := cutV_ints R.ns none (some (-1))
      refine ⟨.ref R.p, rfl, 1, rfl, -1, rfl, R.p, R.ns.map V.int, rfl, .inl (.inl (sp _ _ o2)), (fun _ => ?_), fun _ pc npc => ?_⟩
      · exact ⟨.int R.c, rfl, size2, fun t nt => ⟨size1, fun b nb => mid1 m Sp Keep.refl nt (sp _ _ o2) o3 nb⟩⟩
      · exact ⟨.int R.c, rfl, size2, fun t nt => ⟨size1, fun b nb => mid1 (ns' := ms) m (Sp.new npc) (Keep.new npc) nt (by rw [upd_same, em]) (by omega) nb⟩⟩
    -- way 5
    refine ⟨fun σ' H'' => σ' = [some (.ref a), some (.ref l), some (.int way), some (.int j), some (.ref R.p), some (.int R.c), none, none, none] ∧ H'' = H', ⟨.int way, rfl, rfl, _, rfl, ite2 (fun _ => ⟨.ref R.p, rfl, R.p, _, rfl, .inr (.inl (.inl o2)), _, 0, rfl, rfl, _, rfl, ite2 (fun e => ?_) (fun _ => ⟨rfl, rfl⟩)⟩) (fun _ => iteF ⟨rfl, rfl⟩)⟩, ?_⟩
    · have e0 : 0 < R.ns.length := by
        have := of_decide_eq_true e
        rw [List.length_map] at this
        omega
      refine splice S2 hl2 ho2 hla hj (by omega) rfl rfl (fun p np Sp sp Q' m => ?_) (q2 (n2 := n + 1 + 1) (by omega))
      refine ⟨size1, fun u nu => ?_⟩
      have S5 := Sp.new (o := .tup [.int 0]) nu
      have o25 : upd (upd H' p (.lst ((L.take j).map Row.v))) u (.tup [.int 0]) R.p = some (.tup (R.ns.map V.int)) := KeepT.new nu _ _ (sp _ _ o2)
      have key : ∀ (G : Hp) (v : Addr) (ms : List Int), Stock G a c (n + 1 + 1) → Keep a c (upd H' p (.lst ((L.take j).map Row.v))) G → G u = some (.tup [.int 0]) → G v = some (.tup (ms.map V.int)) → ms.length < R.ns.length →
          rCatA K (.ref u) (.ref v) G fun x H2 => tCons (tVar 5) tNil [some (.ref a), some (.ref l), some (.int way), some (.int j), some (.ref R.p), some (.int R.c), none, none, none] H2 fun xs H1 => (fun xs H2 => xs.length ≤ sizeLine ∧ ∀ p, H2 p = none → (fun y H2 => (fun xs H1 => xs.length ≤ sizeLine ∧ ∀ p, H1 p = none → Q' (.ref p) (upd H1 p (.lst xs))) [y] H2) (.ref p) (upd H2 p (.tup xs))) (x :: xs) H1 := fun G v ms SG kG hu0 hv hlt => by
        refine ⟨u, v, [.int 0], ms.map V.int, rfl, rfl, .inl (.inl hu0), .inl (.inl hv), (by rw [List.length_map, sizeLine_eq]; show 1 + ms.length ≤ 16777216; omega), (fun e => by cases e), (fun _ _ => ?_), fun _ _ pc npc => ?_⟩
        · exact ⟨.int R.c, rfl, size2, fun t nt => ⟨size1, fun b nb => mid1 (ns' := [0]) m SG kG nt hu0 (by show 1 ≤ 12; decide) nb⟩⟩
        · exact ⟨.int R.c, rfl, size2, fun t nt => ⟨size1, fun b nb => mid1 (ns' := 0 :: ms) m (SG.new npc) (kG.trans (Keep.new npc)) nt upd_same (by show ms.length + 1 ≤ 12; omega) nb⟩⟩
      refine ⟨.ref R.p, rfl, 1, rfl, R.p, R.ns.map V.int, rfl, .inl (.inl o25), (fun z => ?_), fun _ pc npc => ?_⟩
      · have h1 := HT.sIx_nat (R.ns.map V.int).length 0 1
        have h2 := z.1
        rw [show (some (1 : Int)) = some ((1 : Nat) : Int) from rfl, h1, List.length_map] at h2
        omega
      · have e1 : cutV (R.ns.map V.int) (some 1) none = (R.ns.drop 1).map V.int := by
          have := cutV_drop (xs := R.ns.map V.int) (j := 1) (by rw [List.length_map]; omega)
          rw [List.map_drop]
          exact this
        rw [e1]
        exact key _ pc (R.ns.drop 1) (S5.new npc) ((Keep.new nu).trans (Keep.new npc)) (KeepT.new npc _ _ upd_same) upd_same (by rw [List.length_drop]; omega)
    rintro σ' H'' ⟨rfl, rfl⟩
    -- way 6
    refine ⟨fun σ' H' => σ' = [some (.ref a), some (.ref l), some (.int way), some (.int j), some (.ref R.p), some (.int R.c), none, none, none] ∧ H' = H'', ⟨.int way, rfl, rfl, _, rfl, ite2 (fun _ => ⟨.ref R.p, rfl, R.p, _, rfl, .inr (.inl (.inl o2)), _, 12, rfl, rfl, _, rfl, ite2 (fun e => ?_) (fun _ => ⟨rfl, rfl⟩)⟩) (fun _ => iteF ⟨rfl, rfl⟩)⟩, ?_⟩
    · refine ⟨.ref l, rfl, l, rfl, ⟨_, sqlOf hl2⟩, fun D nD => ?_⟩
      have lD : l ≠ D := ne_of_none hl2 nD
      refine lc_list (K := K) (a := l) (xs := L.map Row.v) (fun i H' => ∃ M : List Row, M.length = i ∧ H' D = some (.lst (M.map Row.v)) ∧ RowsOk H' M ∧ ∀ b o, b ≠ D → H'' b = some o → H' b = some o)
        ⟨[], rfl, upd_same, (fun r h => by cases h), fun b o hb e => by rw [upd_ne hb]; exact e⟩ (fun i H' _ h => ?_) (fun i x H7 hx h => ?_) (fun H7 h => ?_)
      · obtain ⟨M, _, _, _, kk⟩ := h
        exact sqlOf (kk l _ lD hl2)
      · obtain ⟨M, rfl, hD, hM, kk⟩ := h
        rw [List.getElem?_map] at hx
        obtain ⟨g, hg, rfl⟩ := Option.map_eq_some_iff.mp hx
        have hgm : g ∈ L := List.mem_of_getElem? hg
        have hil : M.length < L.length := (List.getElem?_eq_some_iff.mp hg).1
        have tD : ∀ {b : Addr} {xs : List V}, H'' b = some (.tup xs) → b ≠ D := fun {b xs} e z => by
          rw [z, nD] at e
          cases e
        have g1 : H7 g.t = some (.tup [.ref g.p, .int g.c]) := kk _ _ (tD (ho2 g hgm).1) (ho2 g hgm).1
        have g2 : H7 g.p = some (.tup (g.ns.map V.int)) := kk _ _ (tD (ho2 g hgm).2.1) (ho2 g hgm).2.1
        have g3 := (ho2 g hgm).2.2
        have fin : ∀ (G : Hp) (p' : Addr) (ns' : List Int), (∀ b o, H7 b = some o → G b = some o) → G p' = some (.tup (ns'.map V.int)) → ns'.length ≤ 12 →
            tCons (tOp (rIxT K) (tVar 8) (tC (.int 1))) tNil [some (.ref a), some (.ref l), some (.int way), some (.int j), some (.ref R.p), some (.int R.c), none, none, some (.ref g.t)] G fun xs H1 => (fun xs H2 => xs.length ≤ sizeLine ∧ ∀ p, H2 p = none →
              (fun y H4 => ∃ acc, H4 D = some (.lst acc) ∧ acc.length < sizeLine ∧ (fun i H' => ∃ M : List Row, M.length = i ∧ H' D = some (.lst (M.map Row.v)) ∧ RowsOk H' M ∧ ∀ b o, b ≠ D → H'' b = some o → H' b = some o) (M.length + 1) (upd H4 D (.lst (acc ++ [y])))) (.ref p) (upd H2 p (.tup xs))) (V.ref p' :: xs) H1 := fun G p' ns' kG hp' hn' => by
          refine ⟨.ref g.t, rfl, g.t, _, 1, .int g.c, rfl, rfl, .inl (.inl (kG _ _ g1)), atI_nat (j := 1) rfl, size2, fun t nt => ?_⟩
          have hDG := kG _ _ hD
          have tDn : D ≠ t := ne_of_none hDG nt
          refine ⟨_, (by rw [upd_ne tDn]; exact hDG), (by rw [List.length_map, sizeLine_eq]; omega), M ++ [⟨t, p', ns', g.c⟩], by simp, (by rw [upd_same, List.map_append]; rfl), fun r hr => ?_, fun b o hb e => ?_⟩
          · have kt2 : KeepT G (upd (upd G t (.tup [.ref p', .int g.c])) D (.lst (M.map Row.v ++ [.ref t]))) := fun b xs e => by
              rw [upd_ne (ne_of e hDG (by intro z; cases z)), upd_ne (ne_of_none e nt)]
              exact e
            rcases List.mem_append.mp hr with hr | hr
            · exact RowsOk.keep (fun r hr => ⟨kG _ _ (hM r hr).1, kG _ _ (hM r hr).2.1, (hM r hr).2.2⟩) kt2 r hr
            · rw [List.mem_singleton.mp hr]
              exact ⟨by rw [upd_ne tDn.symm, upd_same], kt2 _ _ hp', hn'⟩
          · rw [upd_ne hb, upd_ne (ne_of_none (kG _ _ (kk b o hb e)) nt)]
            exact kG _ _ (kk b o hb e)
        have cat : ∀ (G : Hp) (v : Addr) (ms : List Int), (∀ b o, H7 b = some o → G b = some o) → G v = some (.tup (ms.map V.int)) → g.ns.length + ms.length ≤ 12 →
            rCatA K (.ref g.p) (.ref v) G fun x H2 => tCons (tOp (rIxT K) (tVar 8) (tC (.int 1))) tNil [some (.ref a), some (.ref l), some (.int way), some (.int j), some (.ref R.p), some (.int R.c), none, none, some (.ref g.t)] H2 fun xs H1 => (fun xs H2 => xs.length ≤ sizeLine ∧ ∀ p, H2 p = none →
              (fun y H4 => ∃ acc, H4 D = some (.lst acc) ∧ acc.length < sizeLine ∧ (fun i H' => ∃ M : List Row, M.length = i ∧ H' D = some (.lst (M.map Row.v)) ∧ RowsOk H' M ∧ ∀ b o, b ≠ D → H'' b = some o → H' b = some o) (M.length + 1) (upd H4 D (.lst (acc ++ [y])))) (.ref p) (upd H2 p (.tup xs))) (x :: xs) H1 := fun G v ms kG hv hlt => by
          refine ⟨g.p, v, g.ns.map V.int, ms.map V.int, rfl, rfl, .inl (.inl (kG _ _ g2)), .inl (.inl hv), (by rw [List.length_map, List.length_map, sizeLine_eq]; omega), (fun _ => fin G v ms kG hv (by omega)), (fun _ _ => fin G g.p g.ns kG (kG _ _ g2) g3), fun _ _ pc npc => ?_⟩
          exact fin _ pc (g.ns ++ ms) (fun b o e => same_new npc b o (kG b o e)) (by rw [upd_same, List.map_append]) (by rw [List.length_append]; exact hlt)
        refine ⟨rfl, .ref g.t, rfl, g.t, _, 0, .ref g.p, rfl, rfl, .inl (.inl g1), atI_nat (j := 0) rfl, size1, fun u nu => ?_⟩
        have k1' : ∀ b o, H7 b = some o → upd H7 u (.tup [.int 0]) b = some o := same_new nu
        refine ⟨.ref g.t, rfl, g.t, _, 0, .ref g.p, rfl, rfl, .inl (.inl (k1' _ _ g1)), atI_nat (j := 0) rfl, g.p, _, rfl, .inr (.inl (.inl (k1' _ _ g2))), _, 12, rfl, rfl, .inr ⟨_, rfl, u, _, [.int 0], rfl, rfl, .inl (.inl upd_same), (fun z => by cases z), ?_, ?_, ?_⟩⟩
        · split
          · exact .inr rfl
          · exact .inl rfl
        · intro e1
          refine cat _ u [0] k1' upd_same ?_
          have h12 : decide (((g.ns.map V.int).length : Int) < 12) = true := by
            cases hdd : decide (((g.ns.map V.int).length : Int) < 12) with
            | true => rfl
            | false =>
              rw [hdd] at e1
              exact absurd e1 (by decide)
          have := of_decide_eq_true h12
          rw [List.length_map] at this
          show g.ns.length + 1 ≤ 12
          omega
        · intro _ pc npc
          exact cat _ pc [] (fun b o e => same_new npc b o (k1' b o e)) upd_same (by simpa using g3)
      · obtain ⟨M, hM, hD, hok, kk⟩ := h
        rw [List.length_map] at hM
        have aD := S2.fresh nD
        refine q2 (n2 := n + 1 + 1) (by omega) H7 D M (S2.but aD kk) (fun b o _ _ e => kk b o (ne_of_none e nD) e) nD hD hok (by omega)
    rintro σ' H3 ⟨rfl, rfl⟩
    -- return rows[::-1]
    refine ⟨.ref l, rfl, l, _, rfl, sqlOf hl2, fun p np => ?_⟩
    refine q2 (n2 := n + 1 + 1) (by omega) _ p L.reverse (S2.new np) (Keep.new np) np (by rw [upd_same, List.map_reverse]) (fun r hr => ?_) (by rw [List.length_reverse]; omega)
    exact ho2.keep (KeepT.new np) r (List.mem_reverse.mp hr)
end
end K13

namespace K13
open PySem PySem.Spec PyProof.Rows L2 R1
/-! ### wild rows -/
abbrev nmWild : List Str := ["_law_stock_here", "_law_rows_here", "_law_k", "_law_powers", "_law_j"]
theorem scWild : FnScope nmWild ["_law_stock_here"] (defScope sWild) := ⟨rfl, rfl, rfl, by decide +kernel, rfl, by decide +kernel, by decide +kernel⟩
section
variable {P : Program} {w : World} {K : PySem.W.Frag} {mg : Str → Option Value} {base : Heap}
def spWild : Sp := fun vs H Q _ => ∃ (a c : Addr) (n : Nat), vs = [.ref a] ∧ Stock H a c n ∧ n ≤ 900000 ∧
  ∀ H' l (L : List Row), Stock H' a c (n + 100) → Keep a c H H' → H' l = some (.lst (L.map Row.v)) → H l = none → RowsOk H' L → L.length ≤ 8 → Q (.ref l) H'
theorem ok_wild {f fP : Addr} {fd fdP : FuncData} {k : Nat} (F : Fun K "_law_wild" "_law_wild" sWild f fd) (FP : Fun K "_law_pick" "_law_pick" sPick fP fdP) (bP : Binds K fdP ["_law_stock_here", "_law_limit"] []) (gP : mg "_law_pick" = some (.ref fP))
    (mi : mg "int" = none) (mr : mg "range" = none) (mt : mg "tuple" = none) : FnOk P w K mg base CX0 (k + 2) f fd ["_law_stock_here"] spWild := by
  have GP : FnOk P w K mg base CX0 (k + 1) fP fdP ["_law_stock_here", "_law_limit"] spPick := ok_pick FP mi
  refine F.ok scWild (fun vs H Q E h => ?_) (fun cdv A outer s H vs Q E hr h => ?_)
  · obtain ⟨a, c, n, rfl, _⟩ := h
    rfl
  · obtain ⟨a, c, n, rfl, S, hn, q⟩ := h
    refine ⟨_, pss_cons (ps_set (i := 1) scWild.nd rfl (.inl rfl) (pe_lst pa_nil))
      (pss_cons (ps_for PassesOwn.never rfl (pi_range1 rfl mr (pa_cons (pe_call GP hr (by rfl) gP FP.kp bP .nil pass0 (pa_cons (pv 0) (pa_cons pe_int pa_nil))) pa_nil)) (pg_name (i := 2) scWild.nd rfl (.inl rfl))
        (pss_cons (ps_set (i := 3) scWild.nd rfl (.inl rfl) (pe_callTy call_tuple_of (by rfl) mt (by decide +kernel) (pa_cons (pe_lc (own := [("_law_j", 4)]) (g := gName 4) (by rfl) scWild.nd (pi_range1 rfl mr (pa_cons (pe_op op_add pe_int (pe_call GP hr (by rfl) gP FP.kp bP .nil pass0 (pa_cons (pv 0) (pa_cons pe_int pa_nil)))) pa_nil)) (blkOk_by (own := [("_law_j", 4)]) (N := nmWild) (sc := defScope sWild) (by decide +kernel))
            (fun _ _ _ _ _ => pg_name (i := 4) scWild.nd rfl (.inl rfl)) (fun _ _ _ _ _ => pts_nil) (fun _ _ _ _ _ => pe_op op_sub (pe_call GP hr (by rfl) gP FP.kp bP .nil pass0 (pa_cons (pv 0) (pa_cons pe_int pa_nil))) pe_int)) pa_nil)))
        (pss_one (ps_expr (pe_bm PySem.F.plainAttrs_list PySem.F.slot_list_append PySem.F.type_list_append mt_append (pv 1) (pa_cons (pe_tup (pa_cons (pv 3) (pa_cons (pe_op op_sub (pe_call GP hr (by rfl) gP FP.kp bP .nil pass0 (pa_cons (pv 0) (pa_cons pe_int pa_nil))) pe_int) pa_nil))) pa_nil))))))
      (pss_one (ps_ret (pv 1)))), ?_⟩
    refine ⟨Nat.zero_le _, fun l nl => ?_⟩
    have S1 := S.new (o := .lst []) nl
    have al := S.fresh nl
    refine ⟨.ref a, rfl, a, c, n, 4, rfl, S1, by omega, by decide, by decide, fun H2 r2 S2 k2 r20 r21 => ?_⟩
    have hl2 := k2 l _ al.1 al.2 upd_same
    refine ⟨r2, rfl, by omega, by omega, for_range (n := r2.toNat) (fun i σ H' => ∃ y2 y3 L, σ = [some (.ref a), some (.ref l), y2, y3, none] ∧ Stock H' a c (n + 1 + 10 * i) ∧ Keep a c H H' ∧ H' l = some (.lst (L.map Row.v)) ∧ RowsOk H' L ∧ L.length ≤ i)
      ⟨none, none, [], rfl, S2, (Keep.new nl).trans k2, hl2, (fun r h => by cases h), Nat.le_refl _⟩ (fun i σ H6 hi h => ?_) (fun σ H6 h => ?_)⟩
    · obtain ⟨y2, y3, L, rfl, S6, kp6, hl6, ho6, hL⟩ := h
      refine ⟨.ref a, rfl, a, c, _, 3, rfl, S6, by omega, by decide, by decide, fun H7 r7 S7 k7 r70 r71 => ?_⟩
      have hl7 := k7 l _ al.1 al.2 hl6
      have ho7 := ho6.keep (S6.keepT k7)
      have kp7 := kp6.trans k7
      refine ⟨1, r7, rfl, rfl, 1 + r7, rfl, by omega, by omega, fun D nD => ?_⟩
      have aD := S7.fresh nD
      have lD : l ≠ D := ne_of_none hl7 nD
      have nDH := kp7.free aD nD
      refine lc_range (lo := 0) (n := (1 + r7).toNat) (fun j H' => ∃ ns : List Int, ns.length = j ∧ H' D = some (.lst (ns.map V.int)) ∧ Stock H' a c (n + 2 + 10 * i + j) ∧ Keep a c H H' ∧ H' l = some (.lst (L.map Row.v)) ∧ RowsOk H' L)
        ⟨[], rfl, upd_same, (S7.new nD).more (by omega), kp7.put nDH, (by rw [upd_ne lD]; exact hl7), ho7.keep (KeepT.new nD)⟩ (fun j H8 hj h => ?_) (fun H8 h => ?_)
      · obtain ⟨ns, rfl, hD, S8, kp8, hl8, ho8⟩ := h
        refine ⟨rfl, .ref a, rfl, a, c, _, 3, rfl, S8, by omega, by decide, by decide, fun H9 r9 S9 k9 _ _ => ?_⟩
        have hD9 := k9 D _ aD.1 aD.2 hD
        have hl9 := k9 l _ al.1 al.2 hl8
        refine ⟨r9, 1, rfl, rfl, _, hD9, (by rw [List.length_map, sizeLine_eq]; omega), ns ++ [r9 - 1], by simp, (by rw [upd_same]; simp), S9.put aD, (kp8.trans k9).put nDH, (by rw [upd_ne lD]; exact hl9), ?_⟩
        refine (ho8.keep (S8.keepT k9)).keep fun b xs e => ?_
        rw [upd_ne (ne_of e hD9 (by intro z; cases z))]
        exact e
      · obtain ⟨ns, hns, hD, S8, kp8, hl8, ho8⟩ := h
        refine ⟨D, _, rfl, .inl ⟨sqlOf hD, fun t nt => ?_⟩⟩
        have S9 := S8.new (o := .tup (ns.map V.int)) nt
        have at9 := S8.fresh nt
        have hl9 : upd H8 t (.tup (ns.map V.int)) l = some (.lst (L.map Row.v)) := by
          rw [upd_ne (ne_of_none hl8 nt)]
          exact hl8
        -- rows.append((powers, pick(stock, 5) - 1))
        refine ⟨.ref l, rfl, .inl ⟨rfl, _, sqlOf hl9⟩, .ref t, rfl, .ref a, rfl, a, c, _, 5, rfl, S9, by omega, by decide, by decide, fun H10 r10 S10 k10 _ _ => ⟨r10, 1, rfl, rfl, size2, fun u nu => ?_⟩⟩
        have ht10 := k10 t _ at9.1 at9.2 upd_same
        have hl10 := k10 l _ al.1 al.2 hl9
        have S11 := S10.new (o := .tup [.ref t, .int (r10 - 1)]) nu
        have lu : l ≠ u := ne_of_none hl10 nu
        have nlH : H l = none := nl
        refine ⟨l, _, _, rfl, rfl, (by rw [upd_ne lu]; exact hl10), (by rw [List.length_map, sizeLine_eq]; omega), _, _, L ++ [⟨u, t, ns, r10 - 1⟩], rfl, (S11.put al).more (by omega), (((kp8.trans (Keep.new nt)).trans k10).trans (Keep.new nu)).put nlH, (by rw [upd_same, List.map_append]; rfl), fun r hr => ?_, by rw [List.length_append]; exact Nat.succ_le_succ hL⟩
        have kt : KeepT (upd H8 t (.tup (ns.map V.int))) (upd (upd H10 u (.tup [.ref t, .int (r10 - 1)])) l (.lst (L.map Row.v ++ [.ref u]))) := fun b xs e => by
          have e1 := KeepT.new (o := .tup [.ref t, .int (r10 - 1)]) nu _ _ (S9.keepT k10 _ _ e)
          rw [upd_ne (ne_of e hl9 (by intro z; cases z))]
          exact e1
        rcases List.mem_append.mp hr with hr | hr
        · exact ((ho8.keep (KeepT.new nt)).keep kt) r hr
        · rw [List.mem_singleton.mp hr]
          exact ⟨by rw [upd_ne lu.symm, upd_same], kt _ _ upd_same, by show ns.length ≤ 12; omega⟩
    · obtain ⟨y2, y3, L, rfl, S6, kp6, hl6, ho6, hL⟩ := h
      exact ⟨.ref l, rfl, q H6 l L (S6.more (by omega)) kp6 hl6 nl ho6 (by omega)⟩
end
end K13

namespace K13
open PySem PySem.Spec PyProof.Rows L2 R1
/-! ### what is a sum -/
def okAt (m : Int) (L : List Row) (k : Nat) : Prop := ∀ r, L[k]? = some r → (r.ns.length : Int) = m ∧ r.c ≠ 0 ∧ ∀ r', 0 < k → L[k - 1]? = some r' → HT.lexLt r'.ns r.ns = true
def Right (m : Int) (L : List Row) : Prop := ∀ k, k < L.length → okAt m L k
abbrev nmRight : List Str := ["_law_rows_here", "_law_many", "_law_k"]
theorem scRight : FnScope nmRight ["_law_rows_here", "_law_many"] (defScope sRight) := ⟨rfl, rfl, rfl, by decide +kernel, rfl, by decide +kernel, by decide +kernel⟩
abbrev nmIs : List Str := ["told", "many", "at", "powers", "coefficient"]
theorem scIs : FnScope nmIs ["told", "many"] (defScope sIs) := ⟨rfl, rfl, rfl, by decide +kernel, rfl, by decide +kernel, by decide +kernel⟩
section
variable {P : Program} {w : World} {K : PySem.W.Frag} {mg : Str → Option Value} {base : Heap}
def spRight (K : PySem.W.Frag) : Sp := fun vs H Q _ => ∃ (l : Addr) (m : Int) (L : List Row), vs = [.ref l, .int m] ∧ SqL K H l (L.map Row.v) ∧ RowsOk H L ∧ L.length ≤ 1000 ∧ ∀ b : Bool, (b = true ↔ Right m L) → Q (.bl b) H
theorem row_at {L : List Row} {k : Nat} {r : Row} (h : L[k]? = some r) : (L.map Row.v)[k]? = some (V.ref r.t) := by
  rw [List.getElem?_map, h]
  rfl
theorem ok_right {f : Addr} {fd : FuncData} {k : Nat} (F : Fun K "_law_is_right" "_law_is_right" sRight f fd) (mr : mg "range" = none) (me : mg "len" = none) : FnOk P w K mg base CX0 (k + 1) f fd ["_law_rows_here", "_law_many"] (spRight K) := by
  refine F.ok scRight (fun vs H Q E h => ?_) (fun cdv A outer s H vs Q E hr h => ?_)
  · obtain ⟨l, m, L, rfl, _⟩ := h
    rfl
  · obtain ⟨l, m, L, rfl, hl, ho, hL, q⟩ := h
    have hu := hu_of hr
    refine ⟨_, pss_cons (ps_for PassesOwn.never rfl (pi_range1 rfl mr (pa_cons (pe_callB call_len_seq (by rfl) me PySem.boot_len (pa_cons (pv 0) pa_nil)) pa_nil)) (pg_name (i := 2) scRight.nd rfl (.inl rfl))
        (Evl.pss_cut (ps_if (PW.pt (pw_or (pt_cmpR op_ne (pe_callB call_len_seq (by rfl) me PySem.boot_len (pa_cons (pe_ix ix_tup (pe_ix ix_list (pv 0) (pv 2) (fun _ _ => rfl)) pe_int (fun _ _ => rfl)) pa_nil)) (pv 1) (nomark _)) (pw_or1 (pt_cmpR op_eq (pe_ix ix_tup (pe_ix ix_list (pv 0) (pv 2) (fun _ _ => rfl)) pe_int (fun _ _ => rfl)) pe_int (nomark _)))))
          (pss_one (ps_ret pe_bl)) pss_nil)
        (pss_one (ps_if (PW.pt (pw_and (pt_cmpR op_gt (pv 2) pe_int (nomark _)) (pw_and1 (pt_not (pt_cmpR (op_ltT (Nat.lt_of_succ_lt hu)) (pe_ix ix_tup (pe_ix ix_list (pv 0) (pe_op op_sub (pv 2) pe_int) (fun _ _ => rfl)) pe_int (fun _ _ => rfl)) (pe_ix ix_tup (pe_ix ix_list (pv 0) (pv 2) (fun _ _ => rfl)) pe_int (fun _ _ => rfl)) (nomark _))))))
          (pss_one (ps_ret pe_bl)) pss_nil))))
      (pss_one (ps_ret pe_bl)), ?_⟩
    refine ⟨.ref l, rfl, l, _, rfl, .inl hl, _, rfl, by omega, by rw [List.length_map]; omega, for_range (n := ((L.map Row.v).length : Int).toNat) (fun i σ H' => ∃ y2, σ = [some (.ref l), some (.int m), y2] ∧ H' = H ∧ ∀ k, k < i → okAt m L k)
      ⟨none, rfl, rfl, fun k h => by omega⟩ (fun i σ H' hi h => ?_) (fun σ H' h => ?_)⟩
    · obtain ⟨y2, rfl, rfl, hk⟩ := h
      rw [List.length_map, Int.toNat_natCast] at hi
      obtain ⟨r, hr1⟩ : ∃ r, L[i]? = some r := ⟨L[i], List.getElem?_eq_getElem hi⟩
      obtain ⟨o1, o2, o3⟩ := ho r (List.mem_of_getElem? hr1)
      have ei : (0 + (i : Int)) = (i : Int) := by omega
      have bad : ¬ okAt m L i → Q (.bl false) H' := fun hb => q false ⟨(fun h => by cases h), fun h => absurd (h i hi) hb⟩
      refine ⟨fun σ' H'' => σ' = [some (.ref l), some (.int m), some (.int i)] ∧ H'' = H' ∧ (r.ns.length : Int) = m ∧ r.c ≠ 0, ?_, ?_⟩
      · rw [ei]
        refine ⟨.ref l, rfl, .int i, rfl, l, _, i, .ref r.t, rfl, rfl, hl, atI_nat (row_at hr1), r.t, _, 0, .ref r.p, rfl, rfl, .inl (.inl o1), atI_nat (j := 0) rfl, r.p, _, rfl, .inr (.inl (.inl o2)), .int m, rfl, rfl, _, rfl, ?_⟩
        rw [List.length_map]
        by_cases hm : (r.ns.length : Int) = m
        · refine ite2 (fun e => ?_) (fun _ => ?_)
          · exact absurd e (by simp [hm])
          · refine ⟨.ref l, rfl, .int i, rfl, l, _, i, .ref r.t, rfl, rfl, hl, atI_nat (row_at hr1), r.t, _, 1, .int r.c, rfl, rfl, .inl (.inl o1), atI_nat (j := 1) rfl, rfl, _, rfl, ?_⟩
            by_cases hc : r.c = 0
            · refine ite2 (fun _ => ?_) (fun e => absurd (decide_eq_true (by rw [hc])) e)
              exact bad fun h => (h r hr1).2.1 hc
            · refine ite2 (fun e => absurd (V.int.inj (of_decide_eq_true e)) hc) (fun _ => ?_)
              exact ⟨rfl, rfl, hm, hc⟩
        · refine ite2 (fun _ => ?_) (fun e => ?_)
          · exact bad fun h => hm (h r hr1).1
          · exact absurd (by simp [hm]) e
      · rintro σ' H'' ⟨rfl, rfl, hm, hc⟩
        refine ⟨.int i, rfl, i, 0, rfl, rfl, _, rfl, ite2 (fun e => ?_) (fun e => iteF ?_)⟩
        · have hi0 : 0 < i := by
            have := of_decide_eq_true e
            omega
          obtain ⟨r', hr2⟩ : ∃ r', L[i - 1]? = some r' := ⟨L[i - 1], List.getElem?_eq_getElem (by omega)⟩
          obtain ⟨p1, p2, p3⟩ := ho r' (List.mem_of_getElem? hr2)
          have ei2 : (i : Int) - 1 = ((i - 1 : Nat) : Int) := by omega
          refine ⟨.ref l, rfl, .int i, rfl, i, 1, rfl, rfl, l, _, _, .ref r'.t, rfl, rfl, hl, (by rw [ei2]; exact atI_nat (row_at hr2)), r'.t, _, 0, .ref r'.p, rfl, rfl, .inl (.inl p1), atI_nat (j := 0) rfl,
            .ref l, rfl, .int i, rfl, l, _, i, .ref r.t, rfl, rfl, hl, atI_nat (row_at hr1), r.t, _, 0, .ref r.p, rfl, rfl, .inl (.inl o1), atI_nat (j := 0) rfl, r'.p, r.p, r'.ns, r.ns, rfl, rfl, .inl (.inl p2), .inl (.inl o2), _, rfl, ?_⟩
          cases hlt : HT.lexLt r'.ns r.ns with
          | true =>
            refine iteF ⟨some (.int i), rfl, rfl, fun k hk2 => ?_⟩
            rcases Nat.lt_succ_iff_lt_or_eq.mp hk2 with h | rfl
            · exact hk k h
            · intro r2 e2
              cases hr1.symm.trans e2
              exact ⟨hm, hc, fun r3 _ e3 => by cases hr2.symm.trans e3; exact hlt⟩
          | false =>
            refine iteT ?_
            refine bad fun h => ?_
            have := (h r hr1).2.2 r' hi0 hr2
            rw [hlt] at this
            cases this
        · have hi0 : i = 0 := by
            by_cases h : i = 0
            · exact h
            · exact absurd (decide_eq_true (show (0 : Int) < i by omega)) e
          refine ⟨some (.int i), rfl, rfl, fun k hk2 => ?_⟩
          rcases Nat.lt_succ_iff_lt_or_eq.mp hk2 with h | rfl
          · exact hk k h
          · intro r2 e2
            cases hr1.symm.trans e2
            exact ⟨hm, hc, fun r3 h3 _ => by omega⟩
    · obtain ⟨y2, rfl, rfl, hk⟩ := h
      rw [List.length_map, Int.toNat_natCast] at hk
      exact q true ⟨fun _ => hk, fun _ => rfl⟩
end
end K13

namespace K13
open PySem PySem.Spec PyProof.Rows L2 R1
/-! ### f(k = v, ..), nothing by position -/
theorem pe_callK0 {X : Cx} {CX : CXT} {k : Nat} {f : Addr} {fd : FuncData} {ps ks : List Str} {sp : Sp} {E : XK} {x : Str} {p pos : Pos} {kws : List Keyword} {tk : TA} {g : List Value → List Value → List Value} {gV : List V → List V → List V}
    (F : FnOk X.prog X.w X.K X.mg X.base CX k f fd ps sp) (hr : Room k X.A) (hg : Gl X x) (hm : X.mg x = some (.ref f)) (hk : PySem.W.keepIn X.K (.ref f) = true) (hb : KBinds X.K fd ps ks g gV) (hx : Passes CX X E)
    (hkw : PK X kws tk) (hall : (backToKw pos (keywordEach kws X.env)).all (·.1.isSome) = true := by rfl) (hks : (backToKw pos (keywordEach kws X.env)).filterMap (·.1) = ks := by rfl)
    (hdb : (x == ("__debug__" : Str)) = false := by decide) (hpl : ((backTo pos (starEach [] X.env)).any (·.1) || (backToKw pos (keywordEach kws X.env)).any (·.1.isNone)) = false := by rfl) :
    PE X (.Call (.Name x p) [] kws pos) (tCallK sp gV E tNil tk) := by
  refine ⟨fun pins s σ H Q I h => ?_⟩
  refine wpAny_Call_Name_kw (ld_glob I hg hm ?_ hdb)
  refine PySem.W.callWith_KW0 (h₀ := X.base) I.ok.mod.kin hk hall (thn (hkw.run pos pins s σ H _ I h) fun ws s2 ⟨zs, H2, I2, rz, q2⟩ => ⟨I2.kIn, ?_⟩) hpl
  rw [hks]
  exact run_fnk F hr hb hx I2 .nil rz q2
section
variable {P : Program} {w : World} {K : PySem.W.Frag} {mg : Str → Option Value} {base : Heap}
/-! ### is_sum -/
def spIs (K : PySem.W.Frag) : Sp := fun vs H Q _ => ∃ (t : Addr) (m : Int) (L : List Row), vs = [.ref t, .int m] ∧ SqT K H t (L.map Row.v) ∧ RowsOk H L ∧ L.length ≤ 1000 ∧ ∀ (b : Bool) H', Same H H' → (b = true ↔ Right m L) → Q (.bl b) H'
theorem sqt_same {H H' : Hp} {t : Addr} {xs : List V} (s : Same H H') (h : SqT K H t xs) : SqT K H' t xs := by
  rcases h with (h | ⟨o, h⟩) | h
  · exact .inl (.inl (s _ _ h))
  · exact .inl (.inr ⟨o, s _ _ h⟩)
  · exact .inr h
theorem same_keepT {H H' : Hp} (s : Same H H') : KeepT H H' := fun b xs e => s b _ e
theorem ok_is {f : Addr} {fd : FuncData} {k : Nat} (F : Fun K "is_sum" "is_sum" sIs f fd) (mn : mg "enumerate" = none) (me : mg "len" = none) : FnOk P w K mg base CX0 (k + 1) f fd ["told", "many"] (spIs K) := by
  refine F.ok scIs (fun vs H Q E h => ?_) (fun cdv A outer s H vs Q E hr h => ?_)
  · obtain ⟨l, m, L, rfl, _⟩ := h
    rfl
  · obtain ⟨t, m, L, rfl, hl, ho, hL, q⟩ := h
    have hu := hu_of hr
    refine ⟨_, pss_cons (ps_for PassesOwn.never rfl (pi_enumT (by rfl) mn (pa_cons (pv 0) pa_nil)) (pg_tup rfl (pgs_cons (pg_name (i := 2) scIs.nd rfl (.inl rfl)) (pgs_cons (pg_tup rfl (pgs_cons (pg_name (i := 3) scIs.nd rfl (.inl rfl)) (pgs_cons (pg_name (i := 4) scIs.nd rfl (.inl rfl)) pgs_nil))) pgs_nil)))
        (Evl.pss_cut (ps_if (PW.pt (pw_or (pt_cmpR op_ne (pe_callB call_len_seq (by rfl) me PySem.boot_len (pa_cons (pv 3) pa_nil)) (pv 1) (nomark _)) (pw_or1 (pt_cmpR op_eq (pv 4) pe_int (nomark _)))))
          (pss_one (ps_ret pe_bl)) pss_nil)
        (pss_one (ps_if (PW.pt (pw_and (pt_truth (pv 2) (by intro _; rfl)) (pw_and1 (pt_cmpR (op_geT (Nat.lt_of_succ_lt hu)) (pe_ix ix_tup (pe_ix ix_tup (pv 0) (pe_op op_sub (pv 2) pe_int) (fun _ _ => rfl)) pe_int (fun _ _ => rfl)) (pv 3) (nomark _)))))
          (pss_one (ps_ret pe_bl)) pss_nil))))
      (pss_one (ps_ret pe_bl)), ?_⟩
    refine ⟨.ref t, rfl, t, _, rfl, hl, for_it (walk_enumT (K := K) (a := t) (xs := L.map Row.v)) (fun i σ H' => ∃ y2 y3 y4, σ = [some (.ref t), some (.int m), y2, y3, y4] ∧ Same H H' ∧ ∀ k, k < i → okAt m L k)
      ⟨none, none, none, rfl, Same.refl _, fun k h => by omega⟩ (fun i σ H' _ h => ?_) (fun i x σ H0 H' hi h hy => ?_) (fun σ H' h => ?_)⟩
    · obtain ⟨y2, y3, y4, rfl, sm, _⟩ := h
      exact sqt_same sm hl
    · obtain ⟨y2, y3, y4, rfl, sm0, hk⟩ := h
      obtain ⟨T, z1, z2, rfl, nT, rfl, e1, e2⟩ := hy
      cases e1
      rw [List.length_map] at hi
      obtain ⟨r, hr1⟩ : ∃ r, L[i]? = some r := ⟨L[i], List.getElem?_eq_getElem hi⟩
      cases (row_at hr1).symm.trans e2
      have sm : Same H (upd H0 T (.tup [.int (i : Nat), .ref r.t])) := sm0.trans (same_new nT)
      obtain ⟨o1, o2, o3⟩ := (ho.keep (same_keepT sm)) r (List.mem_of_getElem? hr1)
      have hl' := sqt_same sm hl
      have bad : ¬ okAt m L i → Q (.bl false) (upd H0 T (.tup [.int (i : Nat), .ref r.t])) := fun hb => q false _ sm ⟨(fun h => by cases h), fun h => absurd (h i hi) hb⟩
      refine ⟨T, _, rfl, .inl (.inl upd_same), rfl, _, _, rfl, _, _, rfl, r.t, _, rfl, .inl (.inl o1), rfl, _, _, rfl, _, _, rfl, rfl, rfl, ?_⟩
      refine ⟨fun σ' H'' => σ' = [some (.ref t), some (.int m), some (.int (i : Nat)), some (.ref r.p), some (.int r.c)] ∧ H'' = upd H0 T (.tup [.int (i : Nat), .ref r.t]) ∧ (r.ns.length : Int) = m ∧ r.c ≠ 0, ?_, ?_⟩
      · refine ⟨.ref r.p, rfl, r.p, _, rfl, .inr (.inl (.inl o2)), .int m, rfl, rfl, _, rfl, ?_⟩
        rw [List.length_map]
        by_cases hm : (r.ns.length : Int) = m
        · refine ite2 (fun e => ?_) (fun _ => ?_)
          · exact absurd e (by simp [hm])
          · refine ⟨.int r.c, rfl, rfl, _, rfl, ?_⟩
            by_cases hc : r.c = 0
            · refine ite2 (fun _ => ?_) (fun e => absurd (decide_eq_true (by rw [hc])) e)
              exact bad fun h => (h r hr1).2.1 hc
            · refine ite2 (fun e => absurd (V.int.inj (of_decide_eq_true e)) hc) (fun _ => ?_)
              exact ⟨rfl, rfl, hm, hc⟩
        · refine ite2 (fun _ => ?_) (fun e => ?_)
          · exact bad fun h => hm (h r hr1).1
          · exact absurd (by simp [hm]) e
      · rintro σ' H'' ⟨rfl, rfl, hm, hc⟩
        refine ⟨.int (i : Nat), rfl, _, rfl, ite2 (fun e => ?_) (fun e => iteF ?_)⟩
        · have hi0 : 0 < i := by
            have : (i : Int) ≠ 0 := by simpa using e
            omega
          obtain ⟨r', hr2⟩ : ∃ r', L[i - 1]? = some r' := ⟨L[i - 1], List.getElem?_eq_getElem (by omega)⟩
          obtain ⟨p1, p2, p3⟩ := (ho.keep (same_keepT sm)) r' (List.mem_of_getElem? hr2)
          have ei2 : (i : Int) - 1 = ((i - 1 : Nat) : Int) := by omega
          refine ⟨.ref t, rfl, .int (i : Nat), rfl, i, 1, rfl, rfl, t, _, _, .ref r'.t, rfl, rfl, hl', (by rw [ei2]; exact atI_nat (row_at hr2)), r'.t, _, 0, .ref r'.p, rfl, rfl, .inl (.inl p1), atI_nat (j := 0) rfl,
            .ref r.p, rfl, r'.p, r.p, r'.ns, r.ns, rfl, rfl, .inl (.inl p2), .inl (.inl o2), _, rfl, ?_⟩
          cases hlt : HT.lexLt r'.ns r.ns with
          | true =>
            refine iteF ⟨_, _, _, rfl, sm, fun k hk2 => ?_⟩
            rcases Nat.lt_succ_iff_lt_or_eq.mp hk2 with h | rfl
            · exact hk k h
            · intro r2 e2
              cases hr1.symm.trans e2
              exact ⟨hm, hc, fun r3 _ e3 => by cases hr2.symm.trans e3; exact hlt⟩
          | false =>
            refine iteT ?_
            refine bad fun h => ?_
            have := (h r hr1).2.2 r' hi0 hr2
            rw [hlt] at this
            cases this
        · have hi0 : i = 0 := by
            by_cases h : i = 0
            · exact h
            · exact absurd (by simpa using h) e
          refine ⟨_, _, _, rfl, sm, fun k hk2 => ?_⟩
          rcases Nat.lt_succ_iff_lt_or_eq.mp hk2 with h | rfl
          · exact hk k h
          · intro r2 e2
            cases hr1.symm.trans e2
            exact ⟨hm, hc, fun r3 h3 _ => by omega⟩
    · obtain ⟨y2, y3, y4, rfl, sm, hk⟩ := h
      rw [List.length_map] at hk
      exact q true _ sm ⟨fun _ => hk, fun _ => rfl⟩
end
end K13

namespace K13
open PySem PySem.Spec PyProof.Rows L2 R1
abbrev nmTold : List Str := ["_law_rows_here", "_law_many", "_law_due", "_law_told"]
theorem scTold : FnScope nmTold ["_law_rows_here", "_law_many"] (defScope sTold) := ⟨rfl, rfl, rfl, by decide +kernel, rfl, by decide +kernel, by decide +kernel⟩
/-- the keywords many, told in the parameters' order -/
def swap2 {α : Type} : List α → List α → List α
  | [], [m, t] => [t, m]
  | _, _ => []
theorem kb_is {K : PySem.W.Frag} {f : Addr} {fd : FuncData} (F : Fun K "is_sum" "is_sum" sIs f fd) : KBinds K fd ["told", "many"] ["many", "told"] swap2 swap2 := by
  obtain ⟨oc, od, kV, doc, pm, an, cdv, ct, osl, rfl, _⟩ := F.ex
  refine ⟨fun s us ws _ h => ?_, fun {vs us zs ws} r1 r2 => ?_⟩
  · match us, ws, h with
    | [], [m, t], _ => exact BindsTo.of_eq rfl
    | [], [], h => cases h
    | [], [_], h => cases h
    | [], _ :: _ :: _ :: _, h => cases h
    | _ :: _, _, h => cases h
  · cases r1 with
    | cons _ _ => exact .nil
    | nil =>
      cases r2 with
      | nil => exact .nil
      | cons a r2 =>
        cases r2 with
        | nil => exact .nil
        | cons b r2 =>
          cases r2 with
          | nil => exact .cons b (.cons a .nil)
          | cons _ _ => exact .nil
section
variable {P : Program} {w : World} {K : PySem.W.Frag} {mg : Str → Option Value} {base : Heap}
def spTold (K : PySem.W.Frag) : Sp := fun vs H Q _ => ∃ (l : Addr) (m : Int) (L : List Row), vs = [.ref l, .int m] ∧ SqL K H l (L.map Row.v) ∧ RowsOk H L ∧ L.length ≤ 1000 ∧ ∀ H', Same H H' → Q (.bl true) H'
theorem ok_told {f fR fI : Addr} {fd fdR fdI : FuncData} {k : Nat} (F : Fun K "_law_is_told" "_law_is_told" sTold f fd) (FR : Fun K "_law_is_right" "_law_is_right" sRight fR fdR) (bR : Binds K fdR ["_law_rows_here", "_law_many"] []) (gR : mg "_law_is_right" = some (.ref fR))
    (FI : Fun K "is_sum" "is_sum" sIs fI fdI) (bI : Binds K fdI ["told", "many"] []) (gI : mg "is_sum" = some (.ref fI)) (mr : mg "range" = none) (me : mg "len" = none) (mn : mg "enumerate" = none) (mt : mg "tuple" = none) (ms : mg "isinstance" = none) (mb : mg "bool" = none) :
    FnOk P w K mg base CX0 (k + 2) f fd ["_law_rows_here", "_law_many"] (spTold K) := by
  have GR : FnOk P w K mg base CX0 (k + 1) fR fdR ["_law_rows_here", "_law_many"] (spRight K) := ok_right FR mr me
  have GI : FnOk P w K mg base CX0 (k + 1) fI fdI ["told", "many"] (spIs K) := ok_is FI mn me
  refine F.ok scTold (fun vs H Q E h => ?_) (fun cdv A outer s H vs Q E hr h => ?_)
  · obtain ⟨l, m, L, rfl, _⟩ := h
    rfl
  · obtain ⟨l, m, L, rfl, hl, ho, hL, q⟩ := h
    refine ⟨_, pss_cons (ps_set (i := 2) scTold.nd rfl (.inl rfl) (pe_call GR hr (by rfl) gR FR.kp bR .nil pass0 (pa_cons (pv 0) (pa_cons (pv 1) pa_nil))))
      (pss_cons (ps_for PassesOwn.never rfl (pi_list (pe_lst (pa_cons (pe_call GI hr (by rfl) gI FI.kp bI .nil pass0 (pa_cons (pe_callTy call_tuple_of (by rfl) mt (by decide +kernel) (pa_cons (pv 0) pa_nil)) (pa_cons (pv 1) pa_nil)))
            (pa_cons (pe_callK0 GI hr (by rfl) gI FI.kp (kb_is FI) pass0 (pk_cons (pv 1) (pk_cons (pe_callTy call_tuple_of (by rfl) mt (by decide +kernel) (pa_cons (pv 0) pa_nil)) pk_nil))) pa_nil)))) (pg_name (i := 3) scTold.nd rfl (.inl rfl))
        (pss_one (ps_if (PW.pt (pw_or (pt_not (pt_val (pe_callB call_isi (by rfl) ms (by decide +kernel) (pa_cons (pv 3) (pa_cons (pe_bltn (v := .ty "bool") (by rfl) mb (by decide +kernel) rfl) pa_nil))))) (pw_or1 (pt_cmpR op_ne (pv 3) (pv 2) (nomark _)))))
          (pss_one (ps_ret pe_bl)) pss_nil)))
      (pss_one (ps_ret pe_bl))), ?_⟩
    refine ⟨.ref l, rfl, .int m, rfl, l, m, L, rfl, hl, ho, hL, fun b hb => ?_⟩
    refine ⟨.ref l, rfl, l, _, rfl, .inl ⟨hl, fun t nt => ?_⟩⟩
    have s1 : Same H (upd H t (.tup (L.map Row.v))) := same_new nt
    refine ⟨.int m, rfl, t, m, L, rfl, .inl (.inl upd_same), ho.keep (same_keepT s1), hL, fun b1 H2 s2 hb1 => ?_⟩
    have s12 := s1.trans s2
    refine ⟨.int m, rfl, .ref l, rfl, l, _, rfl, .inl ⟨s12.seq hl, fun t2 nt2 => ?_⟩⟩
    have s3 : Same H2 (upd H2 t2 (.tup (L.map Row.v))) := same_new nt2
    refine ⟨t2, m, L, rfl, .inl (.inl upd_same), ho.keep (same_keepT (s12.trans s3)), hL, fun b2 H4 s4 hb2 => ?_⟩
    have e1 : b1 = b := by
      rw [Bool.eq_iff_iff, hb1, hb]
    have e2 : b2 = b := by
      rw [Bool.eq_iff_iff, hb2, hb]
    subst e1 e2
    refine ⟨size2, fun p np => ?_⟩
    have s5 : Same H4 (upd H4 p (.lst [.bl b2, .bl b2])) := same_new np
    refine ⟨p, rfl, ⟨_, sqlOf upd_same⟩, for_list (xs := [.bl b2, .bl b2]) (fun i σ H' => ∃ y3, σ = [some (.ref l), some (.int m), some (.bl b2), y3] ∧ H' = upd H4 p (.lst [.bl b2, .bl b2]))
      ⟨none, rfl, rfl⟩ (fun i σ H' _ h => ?_) (fun i x σ H' hx h => ?_) (fun σ H' h => ?_)⟩
    · obtain ⟨_, _, rfl⟩ := h
      exact sqlOf upd_same
    · obtain ⟨y3, rfl, rfl⟩ := h
      have ex : x = .bl b2 := by
        rcases i with _ | _ | i
        · exact (Option.some.inj hx).symm
        · exact (Option.some.inj hx).symm
        · cases hx
      subst ex
      refine ⟨.bl b2, rfl, .bl b2, .ty "bool", _, _, true, rfl, .ty "bool", .base (.bl b2), kit_ty (by decide +kernel), true, rfl, iteF ⟨.bl b2, rfl, .bl b2, rfl, ?_, _, rfl, ?_⟩⟩
      · cases b2 <;> rfl
      · rw [decide_eq_true rfl]
        exact iteF ⟨_, rfl, rfl⟩
    · obtain ⟨y3, rfl, rfl⟩ := h
      exact q _ (((s12.trans s3).trans s4).trans s5)
end
end K13

namespace K13
open PySem PySem.Spec PyProof.Rows L2 R1
abbrev nmLaw : List Str := ["_law_script", "_law_stock_here", "_law_turn", "_law_many", "_law_way", "_law_rows_here", "_law_k", "_law_far", "_law_place"]
theorem scLaw : FnScope nmLaw ["_law_script"] (defScope sLaw) := ⟨rfl, rfl, rfl, by decide +kernel, rfl, by decide +kernel, by decide +kernel⟩
theorem Stock.same {H H' : Hp} {a c : Addr} {n : Nat} (S : Stock H a c n) (s : Same H H') : Stock H' a c n := by
  obtain ⟨ne, cs, x, y, z, h1, h2, r⟩ := S
  exact ⟨ne, cs, x, y, z, s _ _ h1, s _ _ h2, r⟩
theorem size6 {a b c d e f : V} : [a, b, c, d, e, f].length ≤ sizeLine := by
  rw [sizeLine_eq]
  show 6 ≤ 16777216
  decide
/-! ### rows != [] -/
def rowD (r : Row) : PyData := .tuple [.tuple (r.ns.map .int), .int r.c]
theorem canLay_rows : ∀ L : List Row, PyData.canLayAll0 (L.map rowD) = true
  | [] => rfl
  | r :: L => by simp [PyData.canLayAll0, PyData.canLay0, rowD, canLay_rows L, canLay_ints]
theorem depth_rows : ∀ L : List Row, PyData.depthAll (L.map rowD) ≤ 5
  | [] => by simp [PyData.depthAll]
  | r :: L => by
    have h1 := depth_rows L
    have h2 := depth_ints r.ns
    simp [PyData.depthAll, PyData.depth, rowD]
    omega
theorem shaped_rows (L : List Row) : SeqAt.shaped (.list (L.map rowD)) = true := by
  have := depth_rows L
  simp [SeqAt.shaped, PyData.canLay0, canLay_rows, PyData.depth]
  omega
theorem dp_rows {K : PySem.W.Frag} {H : Hp} : ∀ {L : List Row}, RowsOk H L → DpAll K H (L.map Row.v) (L.map rowD)
  | [], _ => .nil
  | r :: L, h => by
    obtain ⟨o1, o2, _⟩ := h r List.mem_cons_self
    exact .cons (.tup (.inl (.inl o1)) (.cons (.tup (.inl (.inl o2)) (dp_ints r.ns)) (.cons (.int r.c) .nil))) (dp_rows fun x hx => h x (List.mem_cons_of_mem _ hx))
section
variable {P : Program} {w : World} {K : PySem.W.Frag} {mg : Str → Option Value} {base : Heap}
def spLaw (K : PySem.W.Frag) : Sp := fun vs H Q _ => ∃ (a : Addr) (ns : List Int), vs = [.ref a] ∧ SqL K H a (ns.map V.int) ∧ ns.length ≤ 63 ∧ ∀ H', Q (.bl true) H'
/-- where the defs stand -/
structure Defs (K : PySem.W.Frag) (mg : Str → Option Value) (f1 f2 f3 f4 f5 f6 f7 f8 f9 : Addr) (d1 d2 d3 d4 d5 d6 d7 d8 d9 : FuncData) : Prop where
  Is : Fun K "is_sum" "is_sum" sIs f1 d1
  St : Fun K "_law_stock" "_law_stock" sStock f2 d2
  Pi : Fun K "_law_pick" "_law_pick" sPick f3 d3
  Wi : Fun K "_law_wide" "_law_wide" sWide f4 d4
  Ro : Fun K "_law_rows" "_law_rows" sRows f5 d5
  Sp : Fun K "_law_spoilt" "_law_spoilt" sSpoilt f6 d6
  Wd : Fun K "_law_wild" "_law_wild" sWild f7 d7
  Ri : Fun K "_law_is_right" "_law_is_right" sRight f8 d8
  To : Fun K "_law_is_told" "_law_is_told" sTold f9 d9
  bIs : Binds K d1 ["told", "many"] []
  bSt : Binds K d2 ["_law_script"] []
  bPi : Binds K d3 ["_law_stock_here", "_law_limit"] []
  bWi : Binds K d4 ["_law_stock_here", "_law_limit"] []
  bRo : Binds K d5 ["_law_stock_here", "_law_many"] []
  bSp : Binds K d6 ["_law_stock_here", "_law_rows_here"] []
  bWd : Binds K d7 ["_law_stock_here"] []
  bRi : Binds K d8 ["_law_rows_here", "_law_many"] []
  bTo : Binds K d9 ["_law_rows_here", "_law_many"] []
  gIs : mg "is_sum" = some (.ref f1)
  gSt : mg "_law_stock" = some (.ref f2)
  gPi : mg "_law_pick" = some (.ref f3)
  gWi : mg "_law_wide" = some (.ref f4)
  gRo : mg "_law_rows" = some (.ref f5)
  gSp : mg "_law_spoilt" = some (.ref f6)
  gWd : mg "_law_wild" = some (.ref f7)
  gRi : mg "_law_is_right" = some (.ref f8)
  gTo : mg "_law_is_told" = some (.ref f9)
  int : mg "int" = none
  range : mg "range" = none
  list : mg "list" = none
  sorted : mg "sorted" = none
  len : mg "len" = none
  tuple : mg "tuple" = none
  max : mg "max" = none
  enumerate : mg "enumerate" = none
  isinstance : mg "isinstance" = none
  bool : mg "bool" = none
theorem pick6 {r : Int} (h0 : 0 ≤ r) (h1 : r < 6) : ∃ v, atI [V.int 0, .int 1, .int 1, .int 2, .int 3, .int 1] r = some (.int v) ∧ 0 ≤ v ∧ v ≤ 3 := by
  have h : r = 0 ∨ r = 1 ∨ r = 2 ∨ r = 3 ∨ r = 4 ∨ r = 5 := by omega
  rcases h with rfl | rfl | rfl | rfl | rfl | rfl
  · exact ⟨0, atI_nat (j := 0) rfl, by decide, by decide⟩
  · exact ⟨1, atI_nat (j := 1) rfl, by decide, by decide⟩
  · exact ⟨1, atI_nat (j := 2) rfl, by decide, by decide⟩
  · exact ⟨2, atI_nat (j := 3) rfl, by decide, by decide⟩
  · exact ⟨3, atI_nat (j := 4) rfl, by decide, by decide⟩
  · exact ⟨1, atI_nat (j := 5) rfl, by decide, by decide⟩
theorem ok_law {f f1 f2 f3 f4 f5 f6 f7 f8 f9 : Addr} {fd d1 d2 d3 d4 d5 d6 d7 d8 d9 : FuncData} (F : Fun K "law" "law" sLaw f fd) (D : Defs K mg f1 f2 f3 f4 f5 f6 f7 f8 f9 d1 d2 d3 d4 d5 d6 d7 d8 d9) : FnOk P w K mg base CX0 4 f fd ["_law_script"] (spLaw K) := by
  have GS : FnOk P w K mg base CX0 1 f2 d2 ["_law_script"] (spStock K) := ok_stock D.St D.int
  have GP : FnOk P w K mg base CX0 1 f3 d3 ["_law_stock_here", "_law_limit"] spPick := ok_pick D.Pi D.int
  have GR : FnOk P w K mg base CX0 3 f5 d5 ["_law_stock_here", "_law_many"] spRows := ok_rows D.Ro D.Pi D.bPi D.gPi D.Wi D.bWi D.gWi D.int D.range D.list D.sorted D.len D.tuple
  have GX : FnOk P w K mg base CX0 2 f6 d6 ["_law_stock_here", "_law_rows_here"] spSpoilt := ok_spoilt D.Sp D.Pi D.bPi D.gPi D.int D.list D.len D.max
  have GW : FnOk P w K mg base CX0 2 f7 d7 ["_law_stock_here"] spWild := ok_wild D.Wd D.Pi D.bPi D.gPi D.int D.range D.tuple
  have GT : FnOk P w K mg base CX0 2 f9 d9 ["_law_rows_here", "_law_many"] (spTold K) := ok_told D.To D.Ri D.bRi D.gRi D.Is D.bIs D.gIs D.range D.len D.enumerate D.tuple D.isinstance D.bool
  refine F.ok scLaw (fun vs H Q E h => ?_) (fun cdv A outer s H vs Q E hr h => ?_)
  · obtain ⟨a, ns, rfl, _⟩ := h
    rfl
  · obtain ⟨sc, ns, rfl, hS, hlen, q⟩ := h
    have r1 := hr.mono (show 1 ≤ 3 by decide)
    have r2 := hr.mono (show 2 ≤ 3 by decide)
    refine ⟨_, pss_cons (ps_set (i := 1) scLaw.nd rfl (.inl rfl) (pe_call GS r1 (by rfl) D.gSt D.St.kp D.bSt .nil pass0 (pa_cons (pv 0) pa_nil)))
      (pss_cons (ps_for PassesOwn.never rfl (pi_range1 rfl D.range (pa_cons pe_int pa_nil)) (pg_name (i := 2) scLaw.nd rfl (.inl rfl))
        (pss_cons (ps_par (i := 3) (j := 4) (by rfl) scLaw.nd rfl rfl (by decide) rfl rfl (pa_cons (pe_op op_add pe_int (pe_call GP r1 (by rfl) D.gPi D.Pi.kp D.bPi .nil pass0 (pa_cons (pv 1) (pa_cons pe_int pa_nil)))) (pa_cons (pe_call GP r1 (by rfl) D.gPi D.Pi.kp D.bPi .nil pass0 (pa_cons (pv 1) (pa_cons pe_int pa_nil))) pa_nil)) (by rfl))
        (Evl.pss_cut (ps_if (pt_cmpR op_gt (pe_call GP r1 (by rfl) D.gPi D.Pi.kp D.bPi .nil pass0 (pa_cons (pv 1) (pa_cons pe_int pa_nil))) pe_int (nomark _))
          (pss_one (ps_set (i := 3) scLaw.nd rfl (.inl rfl) (pe_op op_add pe_int (pe_op op_mod (pe_callTy call_int1 (by rfl) D.int PyProof.Rows.boot_int (pa_cons (pv 3) pa_nil)) pe_int)))) pss_nil)
        (pss_cons (ps_set (i := 5) scLaw.nd rfl (.inl rfl) (pe_call GR hr (by rfl) D.gRo D.Ro.kp D.bRo .nil pass0 (pa_cons (pv 1) (pa_cons (pv 3) pa_nil))))
        (Evl.pss_cut (ps_if (pt_cmpR op_eq (pv 4) pe_int (nomark _)) (pss_one (ps_set (i := 5) scLaw.nd rfl (.inl rfl) (pe_call GW r2 (by rfl) D.gWd D.Wd.kp D.bWd .nil pass0 (pa_cons (pv 1) pa_nil)))) pss_nil)
        (pss_cons (ps_if (PW.pt (pw_or (pt_not (pt_val (pe_call GT r2 (by rfl) D.gTo D.To.kp D.bTo .nil pass0 (pa_cons (pv 5) (pa_cons (pv 3) pa_nil))))) (pw_or1 (pt_not (pt_val (pe_call GT r2 (by rfl) D.gTo D.To.kp D.bTo .nil pass0 (pa_cons (pv 5) (pa_cons (pe_op op_add pe_int (pe_call GP r1 (by rfl) D.gPi D.Pi.kp D.bPi .nil pass0 (pa_cons (pv 1) (pa_cons pe_int pa_nil)))) pa_nil))))))))
          (pss_one (ps_ret pe_bl)) pss_nil)
        (pss_one (ps_for PassesOwn.never rfl (pi_range1 rfl D.range (pa_cons (pe_ix ix_list (pe_lst (pa_cons pe_int (pa_cons pe_int (pa_cons pe_int (pa_cons pe_int (pa_cons pe_int (pa_cons pe_int pa_nil))))))) (pv 4) (fun _ _ => rfl)) pa_nil)) (pg_name (i := 6) scLaw.nd rfl (.inl rfl))
          (Evl.pss_cut (ps_if (pt_cmpR (op_neD hr.units) (pv 5) (pe_lst pa_nil) (nomark _)) (pss_one (ps_set (i := 5) scLaw.nd rfl (.inl rfl) (pe_call GX r2 (by rfl) D.gSp D.Sp.kp D.bSp .nil pass0 (pa_cons (pv 1) (pa_cons (pv 5) pa_nil))))) pss_nil)
          (pss_one (ps_if (PW.pt (pw_or (pt_not (pt_val (pe_call GT r2 (by rfl) D.gTo D.To.kp D.bTo .nil pass0 (pa_cons (pv 5) (pa_cons (pv 3) pa_nil))))) (pw_or1 (pt_not (pt_val (pe_call GT r2 (by rfl) D.gTo D.To.kp D.bTo .nil pass0 (pa_cons (pv 5) (pa_cons (pe_op op_add (pv 3) pe_int) pa_nil))))))))
            (pss_one (ps_ret pe_bl)) pss_nil)))))))))))
      (pss_cons (ps_setLc (i := 7) (own := [("_law_k", 6)]) (g := gName 6) (by rfl) scLaw.nd rfl rfl (sw_true rfl rfl rfl (by decide +kernel)) (pi_range1 rfl D.range (pa_cons pe_int pa_nil)) (blkOk_by (own := [("_law_k", 6)]) (N := nmLaw) (sc := defScope sLaw) (by decide +kernel))
          (fun _ _ _ _ _ => pg_name (i := 6) scLaw.nd rfl (.inl rfl)) (fun _ _ _ _ _ => pts_nil) (fun _ _ _ _ _ => pe_tup (pa_cons (pe_tup (pa_cons (pe_op op_sub (pe_op op_fdiv (pv 6) pe_int) pe_int) (pa_cons (pe_op op_sub (pe_op op_mod (pe_callTy call_int1 (by rfl) D.int PyProof.Rows.boot_int (pa_cons (pv 6) pa_nil)) pe_int) pe_int) pa_nil))) (pa_cons (pe_op op_add pe_int (pv 6)) pa_nil))))
      (pss_cons (ps_if (PW.pt (pw_or (pt_not (pt_val (pe_call GT r2 (by rfl) D.gTo D.To.kp D.bTo .nil pass0 (pa_cons (pv 7) (pa_cons pe_int pa_nil))))) (pw_or1 (pt_not (pt_val (pe_call GT r2 (by rfl) D.gTo D.To.kp D.bTo .nil pass0 (pa_cons (pv 7) (pa_cons pe_int pa_nil))))))))
          (pss_one (ps_ret pe_bl)) pss_nil)
      (pss_cons (ps_set (i := 8) scLaw.nd rfl (.inl rfl) (pe_ix ix_list (pe_lst (pa_cons pe_int (pa_cons pe_int (pa_cons (pe_call GP r1 (by rfl) D.gPi D.Pi.kp D.bPi .nil pass0 (pa_cons (pv 1) (pa_cons pe_int pa_nil))) pa_nil)))) (pe_call GP r1 (by rfl) D.gPi D.Pi.kp D.bPi .nil pass0 (pa_cons (pv 1) (pa_cons pe_int pa_nil))) (fun _ _ => rfl)))
      (pss_one (ps_ret (pe_call GT r2 (by rfl) D.gTo D.To.kp D.bTo .nil pass0 (pa_cons (pe_op op_cat (pe_op op_cat (pe_slice sl_list (pv 7) po_none (po_some (pv 8))) (pe_lst (pa_cons (pe_ix ix_list (pv 7) (pe_op op_add (pv 8) pe_int) (fun _ _ => rfl)) (pa_cons (pe_ix ix_list (pv 7) (pv 8) (fun _ _ => rfl)) pa_nil)))) (pe_slice sl_list (pv 7) (po_some (pe_op op_add (pv 8) pe_int)) po_none)) (pa_cons pe_int pa_nil))))))))), ?_⟩
    refine ⟨.ref sc, rfl, sc, ns, rfl, hS, hlen, fun H1 a c S1 sm1 => ?_⟩
    -- for turn in range(12)
    refine ⟨12, rfl, by decide, by decide, for_range (n := 12) (fun i σ H' => ∃ y2 y3 y4 y5 y6, σ = [some (.ref sc), some (.ref a), y2, y3, y4, y5, y6, none, none] ∧ Stock H' a c (1300 * i))
      ⟨none, none, none, none, none, rfl, S1⟩ (fun i σ H2 hi h => ?_) (fun σ H2 h => ?_)⟩
    · obtain ⟨y2, y3, y4, y5, y6, rfl, S2⟩ := h
      refine ⟨.ref a, rfl, a, c, _, 12, rfl, S2, by omega, by decide, by decide, fun H3 r3 S3 k3 r30 r31 => ⟨1, r3, rfl, rfl, .ref a, rfl, a, c, _, 6, rfl, S3, by omega, by decide, by decide, fun H4 way S4 k4 w0 w1 => ⟨_, _, rfl, ?_⟩⟩⟩
      -- if pick(stock, 3) > 0
      refine ⟨fun σ' H' => ∃ m : Nat, σ' = [some (.ref sc), some (.ref a), some (.int (0 + i)), some (.int m), some (.int way), y5, y6, none, none] ∧ 1 ≤ m ∧ m ≤ 12 ∧ Stock H' a c (1300 * i + 3),
        ⟨.ref a, rfl, a, c, _, 3, rfl, S4, by omega, by decide, by decide, fun H5 r5 S5 k5 _ _ => ⟨r5, 0, rfl, rfl, _, rfl, ite2 (fun _ => ?_) (fun _ => ?_)⟩⟩, ?_⟩
      · refine ⟨.int (1 + r3), rfl, .inl ⟨_, rfl, _, 3, rfl, rfl, (by show (0 : Int) < 3; decide), 1, _, rfl, rfl, ?_⟩⟩
        have h0 := Int.emod_nonneg (1 + r3) (show (3 : Int) ≠ 0 by decide)
        have h1 := Int.emod_lt_of_pos (1 + r3) (show (0 : Int) < 3 by decide)
        refine ⟨(1 + (1 + r3) % 3).toNat, ?_, by omega, by omega, S5⟩
        rw [show (((1 + (1 + r3) % 3).toNat : Nat) : Int) = 1 + (1 + r3) % 3 by omega]
        rfl
      · refine ⟨(1 + r3).toNat, ?_, by omega, by omega, S5⟩
        rw [show (((1 + r3).toNat : Nat) : Int) = 1 + r3 by omega]
        rfl
      rintro σ' H5 ⟨m, rfl, hm1, hm2, S5⟩
      -- rows = rows(stock, many)
      refine ⟨.ref a, rfl, .int m, rfl, a, c, _, m, rfl, S5, by omega, hm1, hm2, fun H6 l L S6 k6 hl6 nl ho6 hL6 => ?_⟩
      have al6 := S5.fresh nl
      -- if way == 0
      refine ⟨fun σ' H' => ∃ l L, σ' = [some (.ref sc), some (.ref a), some (.int (0 + i)), some (.int m), some (.int way), some (.ref l), y6, none, none] ∧ Stock H' a c (1300 * i + 1103) ∧ H' l = some (.lst (L.map Row.v)) ∧ RowsOk H' L ∧ L.length ≤ 8 ∧ l ≠ a ∧ l ≠ c,
        ⟨.int way, rfl, rfl, _, rfl, ite2 (fun _ => ⟨.ref a, rfl, a, c, _, rfl, S6, by omega, fun H7 l7 L7 S7 k7 hl7 nl7 ho7 hL7 => ?_⟩) (fun _ => ?_)⟩, ?_⟩
      · exact ⟨l7, L7, rfl, S7.more (by omega), hl7, ho7, hL7, S6.fresh nl7⟩
      · exact ⟨l, L, rfl, S6.more (by omega), hl6, ho6, hL6, al6⟩
      rintro σ' H8 ⟨l8, L8, rfl, S8, hl8, ho8, hL8, al8⟩
      -- if not told(rows, many) or not told(rows, 1 + pick(stock, 13))
      refine ⟨.ref l8, rfl, .int m, rfl, l8, m, L8, rfl, sqlOf hl8, ho8, by omega, fun H9 s9 => ⟨true, rfl, iteF ⟨.ref l8, rfl, .ref a, rfl, a, c, _, 13, rfl, S8.same s9, by omega, by decide, by decide, fun H10 r10 S10 k10 _ _ => ⟨1, r10, rfl, rfl, ?_⟩⟩⟩⟩
      have hl10 := k10 l8 _ al8.1 al8.2 (s9 _ _ hl8)
      have ho10 : RowsOk H10 L8 := (ho8.keep (same_keepT s9)).keep ((S8.same s9).keepT k10)
      refine ⟨l8, _, L8, rfl, sqlOf hl10, ho10, by omega, fun H11 s11 => ⟨true, rfl, iteF ?_⟩⟩
      -- for k in range([0, 1, 1, 2, 3, 1][way])
      refine ⟨size6, fun p12 np12 => ?_⟩
      obtain ⟨v, hv, hv0, hv1⟩ := pick6 w0 w1
      have s12 : Same H11 (upd H11 p12 (.lst [.int 0, .int 1, .int 1, .int 2, .int 3, .int 1])) := same_new np12
      have S12 := (S10.same s11).same s12
      refine ⟨.int way, rfl, p12, _, way, .int v, rfl, rfl, sqlOf upd_same, hv, v, rfl, by omega, by omega, for_range (n := v.toNat) (fun j σ H' => ∃ y6 l L, σ = [some (.ref sc), some (.ref a), some (.int (0 + i)), some (.int m), some (.int way), some (.ref l), y6, none, none] ∧ Stock H' a c (1300 * i + 1104 + 3 * j) ∧ H' l = some (.lst (L.map Row.v)) ∧ RowsOk H' L ∧ L.length ≤ 8 + j ∧ l ≠ a ∧ l ≠ c)
        ⟨_, l8, L8, rfl, S12, s12 _ _ (s11 _ _ hl10), (ho10.keep (same_keepT s11)).keep (same_keepT s12), by omega, al8⟩ (fun j σ H13 hj h => ?_) (fun σ H13 h => ?_)⟩
      · obtain ⟨y6, l13, L13, rfl, S13, hl13, ho13, hL13, al13⟩ := h
        -- if rows != []
        refine ⟨fun σ' H' => ∃ l L, σ' = [some (.ref sc), some (.ref a), some (.int (0 + i)), some (.int m), some (.int way), some (.ref l), some (.int (0 + j)), none, none] ∧ Stock H' a c (1300 * i + 1104 + 3 * j + 3) ∧ H' l = some (.lst (L.map Row.v)) ∧ RowsOk H' L ∧ L.length ≤ 8 + j + 1 ∧ l ≠ a ∧ l ≠ c,
          ⟨.ref l13, rfl, Nat.zero_le _, fun p np => ?_⟩, ?_⟩
        · have sp : Same H13 (upd H13 p (.lst [])) := same_new np
          refine ⟨.list (L13.map rowD), .list [], .lst (sqlOf (sp _ _ hl13)) (dp_rows (ho13.keep (same_keepT sp))), .lst (sqlOf upd_same) .nil, shaped_rows L13, rfl, _, rfl, ite2 (fun e => ?_) (fun _ => ?_)⟩
          · rw [eqv_nil] at e
            have hne : 0 < L13.length := by
              cases L13 with
              | nil => simp at e
              | cons x y => simp
            refine ⟨.ref a, rfl, .ref l13, rfl, a, c, l13, _, L13, rfl, S13.same sp, by omega, sp _ _ hl13, ho13.keep (same_keepT sp), al13, hne, by omega, fun H14 p14 L14 S14 k14 np14 hp14 ho14 hL14 => ?_⟩
            exact ⟨p14, L14, rfl, S14, hp14, ho14, by omega, (S13.same sp).fresh np14⟩
          · exact ⟨l13, L13, rfl, (S13.same sp).more (by omega), sp _ _ hl13, ho13.keep (same_keepT sp), by omega, al13⟩
        · rintro σ' H14 ⟨l14, L14, rfl, S14, hl14, ho14, hL14, al14⟩
          refine ⟨.ref l14, rfl, .int m, rfl, l14, m, L14, rfl, sqlOf hl14, ho14, by omega, fun H15 s15 => ⟨true, rfl, iteF ⟨.ref l14, rfl, .int m, rfl, m, 1, rfl, rfl, l14, _, L14, rfl, sqlOf (s15 _ _ hl14), ho14.keep (same_keepT s15), by omega, fun H16 s16 => ⟨true, rfl, iteF ?_⟩⟩⟩⟩
          have s146 := s15.trans s16
          exact ⟨_, l14, L14, rfl, (S14.same s146).more (by omega), s146 _ _ hl14, ho14.keep (same_keepT s146), by omega, al14⟩
      · obtain ⟨y6, l13, L13, rfl, S13, _⟩ := h
        exact ⟨_, _, _, _, _, rfl, S13.more (by omega)⟩
    · obtain ⟨y2, y3, y4, y5, y6, rfl, S2⟩ := h
      -- far = [..]
      refine ⟨300, rfl, by decide, by decide, fun D nD => ?_⟩
      have aD := S2.fresh nD
      refine lc_range (lo := 0) (n := 300) (fun j H' => ∃ L : List Row, L.length = j ∧ H' D = some (.lst (L.map Row.v)) ∧ RowsOk H' L ∧ Stock H' a c (1300 * 12))
        ⟨[], rfl, upd_same, (fun r h => by cases h), S2.new nD⟩ (fun j H3 hj h => ?_) (fun H3 h => ?_)
      · obtain ⟨L, rfl, hD, ho, S3⟩ := h
        refine ⟨rfl, .int (0 + L.length), rfl, _, 17, rfl, rfl, ⟨by decide, by decide⟩, _, 9, rfl, rfl, .int (0 + L.length), rfl, .inl ⟨_, rfl, _, 17, rfl, rfl, (by show (0 : Int) < 17; decide), _, 8, rfl, rfl, size2, fun t nt => ⟨.int (0 + L.length), rfl, 1, _, rfl, rfl, size2, fun u nu => ?_⟩⟩⟩
        have tD : D ≠ t := ne_of_none hD nt
        have hD4 : upd H3 t (.tup [.int ((0 + (L.length : Int)) / 17 - 9), .int ((0 + (L.length : Int)) % 17 - 8)]) D = some (.lst (L.map Row.v)) := by
          rw [upd_ne tD]
          exact hD
        have uD : D ≠ u := ne_of_none hD4 nu
        refine ⟨_, (by rw [upd_ne uD]; exact hD4), (by rw [List.length_map, sizeLine_eq]; omega), L ++ [⟨u, t, [(0 + (L.length : Int)) / 17 - 9, (0 + (L.length : Int)) % 17 - 8], 1 + (0 + (L.length : Int))⟩], by simp, (by rw [upd_same, List.map_append]; rfl), fun r hr => ?_, ((S3.new nt).new nu).put aD⟩
        have kt : KeepT H3 (upd (upd (upd H3 t (.tup [.int ((0 + (L.length : Int)) / 17 - 9), .int ((0 + (L.length : Int)) % 17 - 8)])) u (.tup [.ref t, .int (1 + (0 + (L.length : Int)))])) D (.lst (L.map Row.v ++ [.ref u]))) := fun b xs e => by
          rw [upd_ne (ne_of e hD (by intro z; cases z))]
          exact KeepT.new nu _ _ (KeepT.new nt _ _ e)
        rcases List.mem_append.mp hr with hr | hr
        · exact ho.keep kt r hr
        · rw [List.mem_singleton.mp hr]
          refine ⟨by rw [upd_ne uD.symm, upd_same], ?_, by show 2 ≤ 12; decide⟩
          rw [upd_ne tD.symm]
          exact KeepT.new nu _ _ upd_same
      · obtain ⟨L, hL, hD, ho, S3⟩ := h
        -- told(far, 2), told(far, 1)
        refine ⟨.ref D, rfl, D, 2, L, rfl, sqlOf hD, ho, by omega, fun H4 s4 => ⟨true, rfl, iteF ⟨.ref D, rfl, D, 1, L, rfl, sqlOf (s4 _ _ hD), ho.keep (same_keepT s4), by omega, fun H5 s5 => ⟨true, rfl, iteF ?_⟩⟩⟩⟩
        have s45 := s4.trans s5
        have S5 := S3.same s45
        have hD5 := s45 _ _ hD
        have ho5 := ho.keep (same_keepT s45)
        -- place
        refine ⟨.ref a, rfl, a, c, _, 299, rfl, S5, by omega, by decide, by decide, fun H6 r6 S6 k6 r60 r61 => ⟨size3, fun p np => ?_⟩⟩
        have hD6 := k6 D _ aD.1 aD.2 hD5
        have ho6 := ho5.keep (S5.keepT k6)
        have s7 : Same H6 (upd H6 p (.lst [.int 0, .int 298, .int r6])) := same_new np
        have S7 := S6.same s7
        have ap := S6.fresh np
        refine ⟨.ref a, rfl, a, c, _, 3, rfl, S7, by omega, by decide, by decide, fun H8 r8 S8 k8 r80 r81 => ?_⟩
        have hD8 := k8 D _ aD.1 aD.2 (s7 _ _ hD6)
        have ho8 := (ho6.keep (same_keepT s7)).keep (S7.keepT k8)
        obtain ⟨v, hv, hv2⟩ := pick3 (x := 0) (y := 298) (z := r6) r80 r81
        refine ⟨p, _, r8, .int v, rfl, rfl, sqlOf (k8 p _ ap.1 ap.2 upd_same), hv, ?_⟩
        obtain ⟨j, rfl⟩ : ∃ j : Nat, v = (j : Int) := ⟨v.toNat, by omega⟩
        have hj : j ≤ 298 := by omega
        obtain ⟨R0, hR0⟩ : ∃ R, L[j]? = some R := ⟨L[j], List.getElem?_eq_getElem (by omega)⟩
        obtain ⟨R1, hR1⟩ : ∃ R, L[j + 1]? = some R := ⟨L[j + 1], List.getElem?_eq_getElem (by omega)⟩
        have e1 : ((j : Int) + 1) = ((j + 1 : Nat) : Int) := by omega
        have e2 : ((j : Int) + 2) = ((j + 2 : Nat) : Int) := by omega
        -- told(far[:place] + [far[place + 1], far[place]] + far[place + 2:], 2)
        refine ⟨.ref D, rfl, .int j, rfl, j, rfl, D, _, rfl, sqlOf hD8, fun p1 np1 => ?_⟩
        rw [cutV_take (by rw [List.length_map]; omega), ← List.map_take]
        have t1 : Same H8 (upd H8 p1 (.lst ((L.take j).map Row.v))) := same_new np1
        refine ⟨.ref D, rfl, .int j, rfl, j, 1, rfl, rfl, D, _, _, .ref R1.t, rfl, rfl, sqlOf (t1 _ _ hD8), (by rw [e1]; exact atI_nat (row_at hR1)), .ref D, rfl, .int j, rfl, D, _, j, .ref R0.t, rfl, rfl, sqlOf (t1 _ _ hD8), atI_nat (row_at hR0), size2, fun p2 np2 => ?_⟩
        have t2 : Same (upd H8 p1 (.lst ((L.take j).map Row.v))) (upd (upd H8 p1 (.lst ((L.take j).map Row.v))) p2 (.lst [.ref R1.t, .ref R0.t])) := same_new np2
        refine ⟨p1, p2, _, _, rfl, rfl, t2 _ _ upd_same, upd_same, (by rw [List.length_map, List.length_take, sizeLine_eq]; show min j L.length + 2 ≤ 16777216; omega), fun p3 np3 => ?_⟩
        have t3 : Same (upd (upd H8 p1 (.lst ((L.take j).map Row.v))) p2 (.lst [.ref R1.t, .ref R0.t])) (upd (upd (upd H8 p1 (.lst ((L.take j).map Row.v))) p2 (.lst [.ref R1.t, .ref R0.t])) p3 (.lst ((L.take j).map Row.v ++ [.ref R1.t, .ref R0.t]))) := same_new np3
        have t13 := (t1.trans t2).trans t3
        refine ⟨.ref D, rfl, .int j, rfl, j, 2, rfl, rfl, _, rfl, D, _, rfl, sqlOf (t13 _ _ hD8), fun p4 np4 => ?_⟩
        rw [e2, cutV_drop (by rw [List.length_map]; omega), ← List.map_drop]
        have t4 : Same (upd (upd (upd H8 p1 (.lst ((L.take j).map Row.v))) p2 (.lst [.ref R1.t, .ref R0.t])) p3 (.lst ((L.take j).map Row.v ++ [.ref R1.t, .ref R0.t]))) (upd (upd (upd (upd H8 p1 (.lst ((L.take j).map Row.v))) p2 (.lst [.ref R1.t, .ref R0.t])) p3 (.lst ((L.take j).map Row.v ++ [.ref R1.t, .ref R0.t]))) p4 (.lst ((L.drop (j + 2)).map Row.v))) := same_new np4
        refine ⟨p3, p4, _, _, rfl, rfl, t4 _ _ upd_same, upd_same, (by rw [List.length_append, List.length_map, List.length_map, List.length_take, List.length_drop, sizeLine_eq]; show min j L.length + 2 + (L.length - (j + 2)) ≤ 16777216; omega), fun p5 np5 => ?_⟩
        refine ⟨p5, 2, L.take j ++ [R1, R0] ++ L.drop (j + 2), rfl, sqlOf (by rw [upd_same]; simp [List.map_append, Row.v]), ?_, ?_, fun H9 _ => q H9⟩
        · have hall : RowsOk H8 (L.take j ++ [R1, R0] ++ L.drop (j + 2)) := ((ho8.take j).app (fun r hr => by
            rcases List.mem_cons.mp hr with rfl | hr
            · exact ho8 _ (List.mem_of_getElem? hR1)
            · rw [List.mem_singleton.mp hr]
              exact ho8 _ (List.mem_of_getElem? hR0))).app (ho8.drop (j + 2))
          exact hall.keep (same_keepT ((t13.trans t4).trans (same_new np5)))
        · rw [List.length_append, List.length_append, List.length_take, List.length_drop]
          show min j L.length + 2 + (L.length - (j + 2)) ≤ 1000
          omega
end
end K13

namespace K13
open PySem PySem.Spec PyProof.Rows L2 R1
theorem all_mk {l : PySem.W.OpenLaw} {w : World} {K : PySem.W.Frag} {h : Heap} {mg : Str → Option Value} {fa f1 f2 f3 f4 f5 f6 f7 f8 f9 f10 : Addr} (X : K.In h) (G : h.Ns mainGlobals mg) (hfa : mg "law" = some (.ref fa))
    {od1 an1 : Option Addr} {sl1 : Array (Option Value)} {oc1 kV1 dc1 pm1 cd1 ct1 : Value}
    {od2 an2 : Option Addr} {sl2 : Array (Option Value)} {oc2 kV2 dc2 pm2 cd2 ct2 : Value}
    {od3 an3 : Option Addr} {sl3 : Array (Option Value)} {oc3 kV3 dc3 pm3 cd3 ct3 : Value}
    {od4 an4 : Option Addr} {sl4 : Array (Option Value)} {oc4 kV4 dc4 pm4 cd4 ct4 : Value}
    {od5 an5 : Option Addr} {sl5 : Array (Option Value)} {oc5 kV5 dc5 pm5 cd5 ct5 : Value}
    {od6 an6 : Option Addr} {sl6 : Array (Option Value)} {oc6 kV6 dc6 pm6 cd6 ct6 : Value}
    {od7 an7 : Option Addr} {sl7 : Array (Option Value)} {oc7 kV7 dc7 pm7 cd7 ct7 : Value}
    {od8 an8 : Option Addr} {sl8 : Array (Option Value)} {oc8 kV8 dc8 pm8 cd8 ct8 : Value}
    {od9 an9 : Option Addr} {sl9 : Array (Option Value)} {oc9 kV9 dc9 pm9 cd9 ct9 : Value}
    {od10 an10 : Option Addr} {sl10 : Array (Option Value)} {oc10 kV10 dc10 pm10 cd10 ct10 : Value}
    (a1 : PySem.W.nsIn K mainGlobals "is_sum" = some (some (.ref f1))) (l1 : K.lookup f1 = some ⟨oc1, od1, .func (PySem.W.fnOf "is_sum" "is_sum" (defArgs sIs) (defBody sIs) (defScope sIs) .none kV1 dc1 pm1 an1 cd1 ct1), sl1⟩) (c1 : PySem.W.codeIn K cd1 "is_sum" = true) (k1 : PySem.W.keepIn K (.ref f1) = true)
    (a2 : PySem.W.nsIn K mainGlobals "_law_stock" = some (some (.ref f2))) (l2 : K.lookup f2 = some ⟨oc2, od2, .func (PySem.W.fnOf "_law_stock" "_law_stock" (defArgs sStock) (defBody sStock) (defScope sStock) .none kV2 dc2 pm2 an2 cd2 ct2), sl2⟩) (c2 : PySem.W.codeIn K cd2 "_law_stock" = true) (k2 : PySem.W.keepIn K (.ref f2) = true)
    (a3 : PySem.W.nsIn K mainGlobals "_law_pick" = some (some (.ref f3))) (l3 : K.lookup f3 = some ⟨oc3, od3, .func (PySem.W.fnOf "_law_pick" "_law_pick" (defArgs sPick) (defBody sPick) (defScope sPick) .none kV3 dc3 pm3 an3 cd3 ct3), sl3⟩) (c3 : PySem.W.codeIn K cd3 "_law_pick" = true) (k3 : PySem.W.keepIn K (.ref f3) = true)
    (a4 : PySem.W.nsIn K mainGlobals "_law_wide" = some (some (.ref f4))) (l4 : K.lookup f4 = some ⟨oc4, od4, .func (PySem.W.fnOf "_law_wide" "_law_wide" (defArgs sWide) (defBody sWide) (defScope sWide) .none kV4 dc4 pm4 an4 cd4 ct4), sl4⟩) (c4 : PySem.W.codeIn K cd4 "_law_wide" = true) (k4 : PySem.W.keepIn K (.ref f4) = true)
    (a5 : PySem.W.nsIn K mainGlobals "_law_rows" = some (some (.ref f5))) (l5 : K.lookup f5 = some ⟨oc5, od5, .func (PySem.W.fnOf "_law_rows" "_law_rows" (defArgs sRows) (defBody sRows) (defScope sRows) .none kV5 dc5 pm5 an5 cd5 ct5), sl5⟩) (c5 : PySem.W.codeIn K cd5 "_law_rows" = true) (k5 : PySem.W.keepIn K (.ref f5) = true)
    (a6 : PySem.W.nsIn K mainGlobals "_law_spoilt" = some (some (.ref f6))) (l6 : K.lookup f6 = some ⟨oc6, od6, .func (PySem.W.fnOf "_law_spoilt" "_law_spoilt" (defArgs sSpoilt) (defBody sSpoilt) (defScope sSpoilt) .none kV6 dc6 pm6 an6 cd6 ct6), sl6⟩) (c6 : PySem.W.codeIn K cd6 "_law_spoilt" = true) (k6 : PySem.W.keepIn K (.ref f6) = true)
    (a7 : PySem.W.nsIn K mainGlobals "_law_wild" = some (some (.ref f7))) (l7 : K.lookup f7 = some ⟨oc7, od7, .func (PySem.W.fnOf "_law_wild" "_law_wild" (defArgs sWild) (defBody sWild) (defScope sWild) .none kV7 dc7 pm7 an7 cd7 ct7), sl7⟩) (c7 : PySem.W.codeIn K cd7 "_law_wild" = true) (k7 : PySem.W.keepIn K (.ref f7) = true)
    (a8 : PySem.W.nsIn K mainGlobals "_law_is_right" = some (some (.ref f8))) (l8 : K.lookup f8 = some ⟨oc8, od8, .func (PySem.W.fnOf "_law_is_right" "_law_is_right" (defArgs sRight) (defBody sRight) (defScope sRight) .none kV8 dc8 pm8 an8 cd8 ct8), sl8⟩) (c8 : PySem.W.codeIn K cd8 "_law_is_right" = true) (k8 : PySem.W.keepIn K (.ref f8) = true)
    (a9 : PySem.W.nsIn K mainGlobals "_law_is_told" = some (some (.ref f9))) (l9 : K.lookup f9 = some ⟨oc9, od9, .func (PySem.W.fnOf "_law_is_told" "_law_is_told" (defArgs sTold) (defBody sTold) (defScope sTold) .none kV9 dc9 pm9 an9 cd9 ct9), sl9⟩) (c9 : PySem.W.codeIn K cd9 "_law_is_told" = true) (k9 : PySem.W.keepIn K (.ref f9) = true)
    (a10 : PySem.W.nsIn K mainGlobals "law" = some (some (.ref f10))) (l10 : K.lookup f10 = some ⟨oc10, od10, .func (PySem.W.fnOf "law" "law" (defArgs sLaw) (defBody sLaw) (defScope sLaw) .none kV10 dc10 pm10 an10 cd10 ct10), sl10⟩) (c10 : PySem.W.codeIn K cd10 "law" = true) (k10 : PySem.W.keepIn K (.ref f10) = true)
    (z1 : PySem.W.nsIn K mainGlobals "int" = some none)
    (z2 : PySem.W.nsIn K mainGlobals "range" = some none)
    (z3 : PySem.W.nsIn K mainGlobals "list" = some none)
    (z4 : PySem.W.nsIn K mainGlobals "sorted" = some none)
    (z5 : PySem.W.nsIn K mainGlobals "len" = some none)
    (z6 : PySem.W.nsIn K mainGlobals "tuple" = some none)
    (z7 : PySem.W.nsIn K mainGlobals "max" = some none)
    (z8 : PySem.W.nsIn K mainGlobals "enumerate" = some none)
    (z9 : PySem.W.nsIn K mainGlobals "isinstance" = some none)
    (z10 : PySem.W.nsIn K mainGlobals "bool" = some none) :
    ∃ fd : FuncData, (∀ (s : Shared) (v : Value), BindsTo s fd ⟨[v], []⟩ [("_law_script", v)]) ∧ ∀ base : Heap, K.In base → base.Ns mainGlobals mg → FnOk l.prog w K mg base CX0 4 fa fd ["_law_script"] (spLaw K) := by
  have e := hfa.symm.trans (PySem.W.mg_of X G a10)
  cases e
  have F1 := fun_mk (st := sIs) l1 c1 k1
  have F2 := fun_mk (st := sStock) l2 c2 k2
  have F3 := fun_mk (st := sPick) l3 c3 k3
  have F4 := fun_mk (st := sWide) l4 c4 k4
  have F5 := fun_mk (st := sRows) l5 c5 k5
  have F6 := fun_mk (st := sSpoilt) l6 c6 k6
  have F7 := fun_mk (st := sWild) l7 c7 k7
  have F8 := fun_mk (st := sRight) l8 c8 k8
  have F9 := fun_mk (st := sTold) l9 c9 k9
  have F10 := fun_mk (st := sLaw) l10 c10 k10
  have b1 := F1.binds (ps := ["told", "many"]) fun _ _ _ _ _ _ us hl => match us, hl with | [_, _], _ => rfl
  have b2 := F2.binds (ps := ["_law_script"]) fun _ _ _ _ _ _ us hl => match us, hl with | [_], _ => rfl
  have b3 := F3.binds (ps := ["_law_stock_here", "_law_limit"]) fun _ _ _ _ _ _ us hl => match us, hl with | [_, _], _ => rfl
  have b4 := F4.binds (ps := ["_law_stock_here", "_law_limit"]) fun _ _ _ _ _ _ us hl => match us, hl with | [_, _], _ => rfl
  have b5 := F5.binds (ps := ["_law_stock_here", "_law_many"]) fun _ _ _ _ _ _ us hl => match us, hl with | [_, _], _ => rfl
  have b6 := F6.binds (ps := ["_law_stock_here", "_law_rows_here"]) fun _ _ _ _ _ _ us hl => match us, hl with | [_, _], _ => rfl
  have b7 := F7.binds (ps := ["_law_stock_here"]) fun _ _ _ _ _ _ us hl => match us, hl with | [_], _ => rfl
  have b8 := F8.binds (ps := ["_law_rows_here", "_law_many"]) fun _ _ _ _ _ _ us hl => match us, hl with | [_, _], _ => rfl
  have b9 := F9.binds (ps := ["_law_rows_here", "_law_many"]) fun _ _ _ _ _ _ us hl => match us, hl with | [_, _], _ => rfl
  exact ⟨PySem.W.fnOf "law" "law" (defArgs sLaw) (defBody sLaw) (defScope sLaw) .none kV10 dc10 pm10 an10 cd10 ct10, fun s v => .of_eq rfl, fun base _ _ => ok_law F10 { Is := F1, bIs := b1, gIs := PySem.W.mg_of X G a1, St := F2, bSt := b2, gSt := PySem.W.mg_of X G a2, Pi := F3, bPi := b3, gPi := PySem.W.mg_of X G a3, Wi := F4, bWi := b4, gWi := PySem.W.mg_of X G a4, Ro := F5, bRo := b5, gRo := PySem.W.mg_of X G a5, Sp := F6, bSp := b6, gSp := PySem.W.mg_of X G a6, Wd := F7, bWd := b7, gWd := PySem.W.mg_of X G a7, Ri := F8, bRi := b8, gRi := PySem.W.mg_of X G a8, To := F9, bTo := b9, gTo := PySem.W.mg_of X G a9, int := PySem.W.mg_none_of X G z1, range := PySem.W.mg_none_of X G z2, list := PySem.W.mg_none_of X G z3, sorted := PySem.W.mg_none_of X G z4, len := PySem.W.mg_none_of X G z5, tuple := PySem.W.mg_none_of X G z6, max := PySem.W.mg_none_of X G z7, enumerate := PySem.W.mg_none_of X G z8, isinstance := PySem.W.mg_none_of X G z9, bool := PySem.W.mg_none_of X G z10 }⟩
end K13
open PySem PySem.W PyProof.Rows
set_option maxHeartbeats 0 in
theorem PySem.Challenge.cw_neverhalves_k13_sums_that_are_none_holds : PySem.Challenge.rw_neverhalves_k13_sums_that_are_none.Holds := by
  w_on; o_law; k_head; (case hw => w_witness2)
  k_fill
  refine L2.walk_of (l := PySem.Challenge.rw_neverhalves_k13_sums_that_are_none) (n := 63) (k := 4) (x := "_law_script") (CX := fun _ => L2.CX0) (sp := fun w => K13.spLaw _) rfl (by decide) rfl ⟨rfl, by decide, by decide⟩ (fun w h Y => PySem.W.kIn_of Y) ?F (fun _ _ a ns hl _ hS => ⟨a, ns, rfl, hS, hl, fun _ => rfl⟩) (fun _ _ _ _ _ h => h)
  case F =>
    intro w mg fa h KX G hmg
    refine' K13.all_mk KX G hmg ?a1 ?l1 ?c1 ?k1 ?a2 ?l2 ?c2 ?k2 ?a3 ?l3 ?c3 ?k3 ?a4 ?l4 ?c4 ?k4 ?a5 ?l5 ?c5 ?k5 ?a6 ?l6 ?c6 ?k6 ?a7 ?l7 ?c7 ?k7 ?a8 ?l8 ?c8 ?k8 ?a9 ?l9 ?c9 ?k9 ?a10 ?l10 ?c10 ?k10 ?z1 ?z2 ?z3 ?z4 ?z5 ?z6 ?z7 ?z8 ?z9 ?z10
    (case a1 => k_is); (case l1 => k_is); (case c1 => k_is); (case k1 => k_is); (case a2 => k_is); (case l2 => k_is); (case c2 => k_is); (case k2 => k_is); (case a3 => k_is); (case l3 => k_is); (case c3 => k_is); (case k3 => k_is); (case a4 => k_is); (case l4 => k_is); (case c4 => k_is); (case k4 => k_is); (case a5 => k_is); (case l5 => k_is); (case c5 => k_is); (case k5 => k_is); (case a6 => k_is); (case l6 => k_is); (case c6 => k_is); (case k6 => k_is); (case a7 => k_is); (case l7 => k_is); (case c7 => k_is); (case k7 => k_is); (case a8 => k_is); (case l8 => k_is); (case c8 => k_is); (case k8 => k_is); (case a9 => k_is); (case l9 => k_is); (case c9 => k_is); (case k9 => k_is); (case a10 => k_is); (case l10 => k_is); (case c10 => k_is); (case k10 => k_is); (case z1 => k_is); (case z2 => k_is); (case z3 => k_is); (case z4 => k_is); (case z5 => k_is); (case z6 => k_is); (case z7 => k_is); (case z8 => k_is); (case z9 => k_is); (case z10 => k_is)
