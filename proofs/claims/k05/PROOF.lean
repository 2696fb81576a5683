import PyProof.Rows.All
import Wide.All
import OpenK.AllK
import Wide.FinOn
import PySem.Challenge.RW_neverhalves_k05_letters_freed_and_ones
import HandS.ForMost
import HandS.Wide
import HandS.Evl
import HandS.Codes
import KE.KDictZip
import KE.KItemsList
import HandS.Star
import HandS.Zip
import HandS.Conv
import HandS.TupLe
import HandS.TupAny
import HandS.TupMul
import HandS.TupLen
import HandS.TupSets
import HandS.SortOrd
import HandS.Walk
import HandS.DictComp
import PyProof.FactsAll.tuple_2
import KE.GoesMore
import KE.GoesZip
import PyProof.Draws
import HandS.Style
import HandS.Defaults
import HandS.IsInst
import HandS.Lambda
import HandS.Nested
import HandS.Words
import KE.KNestM
import KE.KLam
import HandS.EndTab
import HandS.NestedK
set_option Elab.async false
set_option linter.all false
set_option maxRecDepth 100000
namespace K05
open PySem PySem.Spec PyProof.Rows L2
/-! ### the text -/
def topS (i : Nat) : Stmt := PySem.Challenge.pw_neverhalves_k05_letters_freed_and_ones.main.body.getD i (.Pass ⟨0, 0, 0, 0⟩)
abbrev sLetterOf : Stmt := topS 5
abbrev sLines : Stmt := topS 6
abbrev sLeast : Stmt := topS 7
abbrev sMoved : Stmt := topS 8
abbrev sSumOf : Stmt := topS 9
abbrev sWith : Stmt := topS 10
abbrev sWithout : Stmt := topS 11
abbrev sIs : Stmt := topS 13
abbrev sCheck : Stmt := topS 14
abbrev sLettersOf : Stmt := topS 15
abbrev sLetter : Stmt := topS 16
abbrev sLeastP : Stmt := topS 17
abbrev sFreed : Stmt := topS 18
abbrev sOnes : Stmt := topS 19
abbrev sStock : Stmt := topS 21
abbrev sPick : Stmt := topS 22
abbrev sWide : Stmt := topS 23
abbrev sSame : Stmt := topS 24
abbrev sWritten : Stmt := topS 25
abbrev sPlus : Stmt := topS 26
abbrev sTimes : Stmt := topS 27
abbrev sTerms : Stmt := topS 28
abbrev sLLeast : Stmt := topS 29
abbrev sLOnes : Stmt := topS 30
abbrev sIsFreed : Stmt := topS 31
abbrev sAreOnes : Stmt := topS 32
abbrev sPlaces : Stmt := topS 33
abbrev sAreLetters : Stmt := topS 34
abbrev sLaw : Stmt := topS 35
theorem scStock : FnScope ["_law_script", "_law_stock_here", "_law_cell"] ["_law_script"] (defScope sStock) := ⟨rfl, rfl, rfl, by decide +kernel, rfl, by decide +kernel, by decide +kernel⟩
theorem scPick : FnScope ["_law_stock_here", "_law_limit", "_law_found", "_law_turn"] ["_law_stock_here", "_law_limit"] (defScope sPick) := ⟨rfl, rfl, rfl, by decide +kernel, rfl, by decide +kernel, by decide +kernel⟩
theorem scWide : FnScope ["_law_stock_here", "_law_limit", "_law_total", "_law_k"] ["_law_stock_here", "_law_limit"] (defScope sWide) := ⟨rfl, rfl, rfl, by decide +kernel, rfl, by decide +kernel, by decide +kernel⟩
/-! ### what is known of the stock -/
structure Stock (H : Hp) (a c : Addr) (n : Nat) : Prop where
  ne : a ≠ c
  ex : ∃ (cs : List Int) (x y z : Int), H a = some (.lst [.ref c, .int x, .int y, .int z]) ∧ H c = some (.lst (cs.map V.int)) ∧ cs.length ≤ 63 ∧ (∀ i ∈ cs, 0 ≤ i) ∧ 0 ≤ x ∧ 0 ≤ y ∧ y ≤ 10000000000000066 ∧ 0 ≤ z ∧ z ≤ n
/-- all but the stock is as it was -/
def Keep (a c : Addr) (H H' : Hp) : Prop := ∀ b o, b ≠ a → b ≠ c → H b = some o → H' b = some o
theorem Keep.refl {a c : Addr} {H : Hp} : Keep a c H H := fun _ _ _ _ h => h
theorem Keep.trans {a c : Addr} {H H1 H2 : Hp} (x : Keep a c H H1) (y : Keep a c H1 H2) : Keep a c H H2 := fun b o h1 h2 h => y b o h1 h2 (x b o h1 h2 h)
theorem Keep.new {a c p : Addr} {o : HO} {H : Hp} (h : H p = none) : Keep a c H (upd H p o) := fun b u _ _ e => by
  rw [upd_ne (ne_of_none e h)]
  exact e
theorem Keep.at_a {a c : Addr} {o : HO} {H : Hp} : Keep a c H (upd H a o) := fun b u h _ e => by
  rw [upd_ne h]
  exact e
theorem Keep.at_c {a c : Addr} {o : HO} {H : Hp} : Keep a c H (upd H c o) := fun b u _ h e => by
  rw [upd_ne h]
  exact e
theorem Stock.new {H : Hp} {a c p : Addr} {n : Nat} {o : HO} (S : Stock H a c n) (h : H p = none) : Stock (upd H p o) a c n := by
  obtain ⟨ne, cs, x, y, z, h1, h2, r⟩ := S
  exact ⟨ne, cs, x, y, z, by rw [upd_ne (ne_of_none h1 h)]; exact h1, by rw [upd_ne (ne_of_none h2 h)]; exact h2, r⟩
theorem Stock.more {H : Hp} {a c : Addr} {n m : Nat} (S : Stock H a c n) (h : n ≤ m) : Stock H a c m := by
  obtain ⟨ne, cs, x, y, z, h1, h2, h3, h4, h5, h6, h7, h8, h9⟩ := S
  exact ⟨ne, cs, x, y, z, h1, h2, h3, h4, h5, h6, h7, h8, by omega⟩
theorem canLay_ints : ∀ cs : List Int, PyData.canLayAll0 (cs.map PyData.int) = true
  | [] => rfl
  | _ :: r => by simp [PyData.canLayAll0, PyData.canLay0, canLay_ints r]
theorem depth_ints : ∀ cs : List Int, PyData.depthAll (cs.map PyData.int) ≤ 1
  | [] => by simp [PyData.depthAll]
  | _ :: r => by
    have := depth_ints r
    simp [PyData.depthAll, PyData.depth]
    omega
theorem shaped_ints (cs : List Int) : SeqAt.shaped (.list (cs.map PyData.int)) = true := by
  have := depth_ints cs
  simp [SeqAt.shaped, PyData.canLay0, canLay_ints, PyData.depth]
  omega
theorem dp_ints {K : PySem.W.Frag} {H : Hp} : ∀ cs : List Int, DpAll K H (cs.map V.int) (cs.map PyData.int)
  | [] => .nil
  | i :: r => .cons (.int i) (dp_ints r)
theorem eqv_nil (ds : List PyData) : PyData.eqv (.list ds) (.list []) = ds.isEmpty := by
  cases ds <;> simp [PyData.eqv, PyData.eqvAll]
section
variable {P : Program} {w : World} {K : PySem.W.Frag} {mg : Str → Option Value} {base : Heap}
/-! ### pick -/
def spPick : Sp := fun vs H Q _ => ∃ (a c : Addr) (n : Nat) (L : Int), vs = [.ref a, .int L] ∧ Stock H a c n ∧ n ≤ 1000000 ∧ 1 ≤ L ∧ L.natAbs < 2 ^ 200 ∧
  ∀ H' (r : Int), Stock H' a c (n + 1) → Keep a c H H' → 0 ≤ r → r < L → Q (.int r) H'
theorem sqlOf {K : PySem.W.Frag} {H : Hp} {a : Addr} {xs : List V} (h : H a = some (.lst xs)) : SqL K H a xs := .inl (.inl h)
theorem ok_pick {f : Addr} {fd : FuncData} {k : Nat} (F : Fun K "_law_pick" "_law_pick" sPick f fd) (mi : mg "int" = none) : FnOk P w K mg base CX0 (k + 1) f fd ["_law_stock_here", "_law_limit"] spPick := by
  refine F.ok scPick (fun vs H Q E h => ?_) (fun cdv A outer s H vs Q E hr h => ?_)
  · obtain ⟨a, c, n, L, rfl, _⟩ := h
    rfl
  · obtain ⟨a, c, n, L, rfl, S, hn, hL, hL2, q⟩ := h
    refine ⟨_, Evl.pss_cut (ps_if (PW.pt (pw_and (pt_cmpR op_eq (pe_ix ix_list (pv 0) pe_int (fun _ _ => rfl)) pe_int (nomark _)) (pw_and1 (pt_cmpR (op_neD hr.units) (pe_ix ix_list (pv 0) pe_int (fun _ _ => rfl)) (pe_lst pa_nil) (nomark _)))))
        (pss_one (ps_asg (pe_bm0 PySem.F.plainAttrs_list PySem.F.slot_list_pop PySem.F.type_list_pop mt_pop (pe_ix ix_list (pv 0) pe_int (fun _ _ => rfl))) (pg_sub (pv 0) pe_int set_list))) pss_nil)
      (pss_cons (ps_if (pt_cmpR op_gt (pe_ix ix_list (pv 0) pe_int (fun _ _ => rfl)) pe_int (nomark _))
        (pss_cons (ps_set (i := 2) scPick.nd rfl (.inl rfl) (pe_op op_mod (pe_callTy call_int1 (by rfl) mi PyProof.Rows.boot_int (pa_cons (pe_ix ix_list (pv 0) pe_int (fun _ _ => rfl)) pa_nil)) (pv 1)))
        (pss_cons (ps_asg (pe_op op_fdivW (pe_ix ix_list (pv 0) pe_int (fun _ _ => rfl)) (pv 1)) (pg_sub (pv 0) pe_int set_list))
        (pss_one (ps_ret (pv 2))))) pss_nil)
      (pss_cons (ps_asg (pe_op op_add (pe_ix ix_list (pv 0) pe_int (fun _ _ => rfl)) pe_int) (pg_sub (pv 0) pe_int set_list))
      (pss_cons (ps_set (i := 3) scPick.nd rfl (.inl rfl) (pe_op op_mod (pe_callTy call_int1 (by rfl) mi PyProof.Rows.boot_int (pa_cons (pe_op op_pow (pe_op op_add (pe_ix ix_list (pv 0) pe_int (fun _ _ => rfl)) (pe_op op_mul (pe_op op_mul pe_int (pe_ix ix_list (pv 0) pe_int (fun _ _ => rfl))) (pe_ix ix_list (pv 0) pe_int (fun _ _ => rfl)))) pe_int) pa_nil)) pe_int))
      (pss_one (ps_ret (pe_op op_mod (pe_op op_fdiv (pe_op op_mod (pe_callTy call_int1 (by rfl) mi PyProof.Rows.boot_int (pa_cons (pe_op op_mulW (pv 3) (pe_op op_add (pe_op op_add (pv 3) (pe_op op_mul pe_int (pe_ix ix_list (pv 0) pe_int (fun _ _ => rfl)))) pe_int)) pa_nil)) pe_int) pe_int) (pv 1))))))), ?_⟩
    obtain ⟨ne, cs, x, y, z, h1, h2, h3, h4, h5, h6, h7, h8, h9⟩ := S
    refine ⟨fun σ' H' => σ' = [some (.ref a), some (.int L), none, none] ∧ Keep a c H H' ∧ ∃ (cs : List Int) (x : Int), H' a = some (.lst [.ref c, .int x, .int y, .int z]) ∧ H' c = some (.lst (cs.map V.int)) ∧ cs.length ≤ 63 ∧ (∀ i ∈ cs, 0 ≤ i) ∧ 0 ≤ x, ?_, ?_⟩
    · -- if stock[1] == 0 and stock[0] != []
      refine ⟨.ref a, rfl, a, _, 1, .int x, rfl, rfl, sqlOf h1, atI_nat (j := 1) rfl, rfl, _, rfl, ite2 (fun e => ?_) (fun e => iteF ?_)⟩
      · refine ⟨.ref a, rfl, a, _, 0, .ref c, rfl, rfl, sqlOf h1, atI_nat (j := 0) rfl, Nat.zero_le _, fun p hp => ?_⟩
        have s1 : Same H (upd H p (.lst [])) := fun b o e => by
          rw [upd_ne (ne_of_none e hp)]
          exact e
        refine ⟨.list (cs.map .int), .list [], .lst (sqlOf (s1 _ _ h2)) (dp_ints cs), .lst (sqlOf upd_same) .nil, shaped_ints cs, rfl, _, rfl, ite2 (fun e2 => ?_) (fun e2 => ?_)⟩
        · rw [eqv_nil] at e2
          have hne : cs ≠ [] := fun z => by
            subst z
            simp at e2
          obtain ⟨ds, l, rfl⟩ : ∃ ds l, cs = ds ++ [l] := ⟨cs.dropLast, cs.getLast hne, (List.dropLast_concat_getLast hne).symm⟩
          refine ⟨.ref a, rfl, a, _, 0, .ref c, rfl, rfl, sqlOf (s1 _ _ h1), atI_nat (j := 0) rfl, .inl ⟨rfl, _, sqlOf (s1 _ _ h2)⟩, c, _, .int l, rfl, rfl, s1 _ _ h2, by simp, .ref a, rfl, a, _, 1, 1, rfl, rfl, (by rw [upd_ne ne]; exact s1 _ _ h1), rfl, rfl, ?_, ds, l, upd_same, ?_, ?_, ?_, ?_⟩
          · exact (Keep.new hp).trans (Keep.at_c.trans Keep.at_a)
          · rw [upd_ne ne.symm, upd_same]
            simp
          · rw [List.length_append] at h3
            omega
          · exact fun i hi => h4 i (List.mem_append.mpr (.inl hi))
          · exact h4 l (List.mem_append.mpr (.inr (List.mem_singleton.mpr rfl)))
        · exact ⟨rfl, Keep.new hp, cs, x, s1 _ _ h1, s1 _ _ h2, h3, h4, h5⟩
      · exact ⟨rfl, Keep.refl, cs, x, h1, h2, h3, h4, h5⟩
    · rintro σ' H' ⟨rfl, kp, cs, x, h1, h2, h3, h4, h5⟩
      -- if stock[1] > 0
      refine ⟨.ref a, rfl, a, _, 1, .int x, rfl, rfl, sqlOf h1, atI_nat (j := 1) rfl, x, 0, rfl, rfl, _, rfl, ite2 (fun e => ?_) (fun e => ?_)⟩
      · have hL0 : (0 : Int) < L := by omega
        refine ⟨.ref a, rfl, a, _, 1, .int x, rfl, rfl, sqlOf h1, atI_nat (j := 1) rfl, .inl ⟨x, rfl, .int L, rfl, x, L, rfl, rfl, hL0, ?_⟩⟩
        refine ⟨.ref a, rfl, a, _, 1, .int x, rfl, rfl, sqlOf h1, atI_nat (j := 1) rfl, .int L, rfl, x, L, rfl, rfl, wide_div hL0 hL2 (by decide) (by decide), .ref a, rfl, a, _, 1, 1, rfl, rfl, h1, rfl, .int (x % L), rfl, ?_⟩
        refine q _ _ ⟨ne, cs, x / L, y, z, upd_same, (by rw [upd_ne ne.symm]; exact h2), h3, h4, Int.ediv_nonneg h5 (by omega), h6, h7, h8, by omega⟩ (kp.trans Keep.at_a) (Int.emod_nonneg _ (by omega)) (Int.emod_lt_of_pos _ hL0)
      · have hL0 : (0 : Int) < L := by omega
        have g1 : upd H' a (.lst [.ref c, .int x, .int y, .int (z + 1)]) a = some (.lst [.ref c, .int x, .int y, .int (z + 1)]) := upd_same
        have hz : z + 1 ≤ 1000001 := by omega
        have hzz : 104729 * (z + 1) * (z + 1) ≤ 104729 * 1000001 * 1000001 := Int.mul_le_mul (by omega) hz (by omega) (by decide)
        have hz0 : 0 ≤ 104729 * (z + 1) * (z + 1) := Int.mul_nonneg (by omega) (by omega)
        have hb : (y + 104729 * (z + 1) * (z + 1)).natAbs < 2 ^ 64 := by omega
        have ht0 : 0 ≤ (y + 104729 * (z + 1) * (z + 1)) ^ (2 : Int).toNat % 1000000000000000000117 := Int.emod_nonneg _ (by decide)
        have ht1 : (y + 104729 * (z + 1) * (z + 1)) ^ (2 : Int).toNat % 1000000000000000000117 < 1000000000000000000117 := Int.emod_lt_of_pos _ (by decide)
        refine ⟨.ref a, rfl, a, _, 3, .int z, rfl, rfl, sqlOf h1, atI_nat (j := 3) rfl, z, 1, rfl, rfl, .ref a, rfl, a, _, 3, 3, rfl, rfl, h1, rfl, ?_⟩
        refine ⟨.ref a, rfl, a, _, 2, .int y, rfl, rfl, sqlOf g1, atI_nat (j := 2) rfl, .ref a, rfl, a, _, 3, .int (z + 1), rfl, rfl, sqlOf g1, atI_nat (j := 3) rfl, 104729, z + 1, rfl, rfl, .inl ⟨by decide, by decide⟩,
          .ref a, rfl, a, _, 3, .int (z + 1), rfl, rfl, sqlOf g1, atI_nat (j := 3) rfl, _, z + 1, rfl, rfl, .inr ⟨by omega, by omega⟩, y, _, rfl, rfl, _, 2, rfl, rfl, ⟨by decide, by decide, hb⟩, .inl ⟨_, rfl, _, 1000000000000000000117, rfl, rfl, (by show (0 : Int) < 1000000000000000000117; decide), ?_⟩⟩
        generalize ht : (y + 104729 * (z + 1) * (z + 1)) ^ (2 : Int).toNat % 1000000000000000000117 = t at ht0 ht1
        refine ⟨.int t, (by rw [← ht]; rfl), .int t, (by rw [← ht]; rfl), .ref a, rfl, a, _, 3, .int (z + 1), rfl, rfl, sqlOf g1, atI_nat (j := 3) rfl, 2, z + 1, rfl, rfl, .inl ⟨by decide, by decide⟩, t, _, rfl, rfl, _, 1, rfl, rfl, t, _, rfl, rfl,
          wide_mul (a := 80) (b := 80) (by omega) (by omega) (by decide) (by decide) (by decide), .inl ⟨_, rfl, _, 1000000000000000000000007, rfl, rfl, (by show (0 : Int) < 1000000000000000000000007; decide), _, 65537, rfl, rfl, ⟨by decide, by decide⟩, .int L, rfl, _, L, rfl, rfl, hL0, ?_⟩⟩
        exact q _ _ ⟨ne, cs, x, y, z + 1, g1, (by rw [upd_ne ne.symm]; exact h2), h3, h4, h5, h6, h7, by omega, by omega⟩ (kp.trans Keep.at_a) (Int.emod_nonneg _ (by omega)) (Int.emod_lt_of_pos _ hL0)
end
end K05
set_option Elab.async false
set_option linter.all false
set_option maxRecDepth 100000
namespace K05
open PySem PySem.Spec PyProof.Rows L2
theorem same_new {H : Hp} {p : Addr} {o : HO} (h : H p = none) : Same H (upd H p o) := fun b u e => by
  rw [upd_ne (ne_of_none e h)]
  exact e
theorem same_keep {a c : Addr} {H H' : Hp} (h : Same H H') : Keep a c H H' := fun b o _ _ e => h b o e
/-- a store to what was not there at first -/
theorem same_put {H H' : Hp} {p : Addr} {o : HO} (s : Same H H') (h : H p = none) : Same H (upd H' p o) := fun b u e => by
  rw [upd_ne (ne_of_none e h)]
  exact s b u e
section
variable {P : Program} {w : World} {K : PySem.W.Frag} {mg : Str → Option Value} {base : Heap}
/-! ### the stock -/
def spStock (K : PySem.W.Frag) : Sp := fun vs H Q _ => ∃ (sc : Addr) (ns : List Int), vs = [.ref sc] ∧ SqL K H sc (ns.map V.int) ∧ ns.length ≤ 63 ∧
  ∀ H' a c, Stock H' a c 0 → Same H H' → Q (.ref a) H'
theorem ok_stock {f : Addr} {fd : FuncData} {k : Nat} (F : Fun K "_law_stock" "_law_stock" sStock f fd) (mi : mg "int" = none) : FnOk P w K mg base CX0 (k + 1) f fd ["_law_script"] (spStock K) := by
  refine F.ok scStock (fun vs H Q E h => ?_) (fun cdv A outer s H vs Q E hr h => ?_)
  · obtain ⟨sc, ns, rfl, _⟩ := h
    rfl
  · obtain ⟨sc, ns, rfl, hS, hlen, q⟩ := h
    refine ⟨_, pss_cons (ps_set (i := 1) scStock.nd rfl (.inl rfl) (pe_lst (pa_cons (pe_lst pa_nil) (pa_cons pe_int (pa_cons pe_int (pa_cons pe_int pa_nil))))))
      (pss_cons (ps_for PassesOwn.never rfl (pi_list (pv 0)) (pg_name (i := 2) scStock.nd rfl (.inl rfl))
        (pss_one (ps_if (pt_cmpR op_lt (pv 2) (pe_op op_pow pe_int pe_int) (nomark _))
          (pss_one (ps_asg (pe_op op_add (pe_op op_mod (pe_callTy call_int1 (by rfl) mi PyProof.Rows.boot_int (pa_cons (pe_op op_pow (pe_op op_add (pe_ix ix_list (pv 1) pe_int (fun _ _ => rfl)) (pe_op op_mod (pe_callTy call_int1 (by rfl) mi PyProof.Rows.boot_int (pa_cons (pv 2) pa_nil)) pe_int)) pe_int) pa_nil)) pe_int) pe_int) (pg_sub (pv 1) pe_int set_list)))
          (pss_one (ps_asg (pe_op op_cat (pe_lst (pa_cons (pe_op op_sub (pv 2) (pe_op op_pow pe_int pe_int)) pa_nil)) (pe_ix ix_list (pv 1) pe_int (fun _ _ => rfl))) (pg_sub (pv 1) pe_int set_list))))))
      (pss_one (ps_ret (pv 1)))), ?_⟩
    refine ⟨Nat.zero_le _, fun c nc => ⟨(by rw [sizeLine_eq]; show 4 ≤ 16777216; decide), fun a na => ?_⟩⟩
    have nac : a ≠ c := fun e => by
      rw [e, upd_same] at na
      cases na
    have na0 : H a = none := by
      rw [upd_ne nac] at na
      exact na
    refine ⟨.ref sc, rfl, sc, rfl, ⟨_, (same_new na).seq ((same_new nc).seq hS)⟩, for_list (xs := ns.map V.int) (fun i σ H' => ∃ c cs y y2, σ = [some (.ref sc), some (.ref a), y2] ∧ Same H H' ∧ H c = none ∧ a ≠ c ∧ H' a = some (.lst [.ref c, .int 0, .int y, .int 0]) ∧ H' c = some (.lst (cs.map V.int)) ∧ cs.length ≤ i ∧ (∀ j ∈ cs, 0 ≤ j) ∧ 0 ≤ y ∧ y ≤ 10000000000000066)
      ⟨c, [], 77029, none, rfl, (same_new nc).trans (same_new na), nc, nac, upd_same, (by rw [upd_ne nac.symm, upd_same]; rfl), Nat.le_refl _, (fun j h => by cases h), by decide, by decide⟩ (fun i σ H' _ h => ?_) (fun i x σ H' hx h => ?_) (fun σ H' h => ?_)⟩
    · obtain ⟨c, cs, y, y2, rfl, sm, _⟩ := h
      exact sm.seq hS
    · obtain ⟨c, cs, y, y2, rfl, sm, nc, nac, ha, hc, hl, hp, hy0, hy1⟩ := h
      obtain ⟨v, rfl⟩ : ∃ v : Int, x = .int v := by
        rw [List.getElem?_map] at hx
        cases e : ns[i]? with
        | none => rw [e] at hx; cases hx
        | some v => rw [e] at hx; exact ⟨v, (Option.some.inj hx).symm⟩
      refine ⟨.int v, rfl, 10, 18, rfl, rfl, ⟨by decide, by decide, by decide⟩, v, _, rfl, rfl, _, rfl, ite2 (fun e => ?_) (fun e => ?_)⟩
      · have hm0 : 0 ≤ v % 999999999989 := Int.emod_nonneg _ (by decide)
        have hm1 : v % 999999999989 < 999999999989 := Int.emod_lt_of_pos _ (by decide)
        refine ⟨.ref a, rfl, a, _, 2, .int y, rfl, rfl, sqlOf ha, atI_nat (j := 2) rfl, .int v, rfl, .inl ⟨v, rfl, v, 999999999989, rfl, rfl, (by show (0 : Int) < 999999999989; decide), y, _, rfl, rfl, _, 3, rfl, rfl, ⟨by decide, by decide, by omega⟩, .inl ⟨_, rfl, _, 10000000000000061, rfl, rfl, (by show (0 : Int) < 10000000000000061; decide), _, 5, rfl, rfl,
          .ref a, rfl, a, _, 2, 2, rfl, rfl, ha, rfl, ?_⟩⟩⟩
        have hM0 : 0 ≤ (y + v % 999999999989) ^ (3 : Int).toNat % 10000000000000061 := Int.emod_nonneg _ (by decide)
        have hM1 : (y + v % 999999999989) ^ (3 : Int).toNat % 10000000000000061 < 10000000000000061 := Int.emod_lt_of_pos _ (by decide)
        exact ⟨c, cs, _, _, rfl, same_put sm na0, nc, nac, upd_same, (by rw [upd_ne nac.symm]; exact hc), by omega, hp, by omega, by omega⟩
      · have hv : (10 : Int) ^ (18 : Int).toNat ≤ v := Int.not_lt.mp fun z => e (decide_eq_true z)
        have e18 : (10 : Int) ^ (18 : Int).toNat = 1000000000000000000 := by decide
        refine ⟨.int v, rfl, 10, 18, rfl, rfl, ⟨by decide, by decide, by decide⟩, v, _, rfl, rfl, (by rw [sizeLine_eq]; exact (by decide : 1 ≤ 16777216)), fun p np => ?_⟩
        have s1 : Same H' (upd H' p (.lst [.int (v - (10 : Int) ^ (18 : Int).toNat)])) := same_new np
        have hclen : cs.length ≤ 63 := by
          have := (List.getElem?_eq_some_iff.mp hx).1
          rw [List.length_map] at this
          omega
        refine ⟨.ref a, rfl, a, _, 0, .ref c, rfl, rfl, sqlOf (s1 _ _ ha), atI_nat (j := 0) rfl, p, c, _, _, rfl, rfl, upd_same, s1 _ _ hc, (by rw [List.length_map, sizeLine_eq]; show 1 + cs.length ≤ 16777216; omega), fun p2 np2 => ?_⟩
        have s2 := s1.trans (same_new (o := .lst ([.int (v - (10 : Int) ^ (18 : Int).toNat)] ++ cs.map V.int)) np2)
        have ne2 : a ≠ p2 := ne_of_none (s1 _ _ ha) np2
        refine ⟨.ref a, rfl, a, _, 0, 0, rfl, rfl, s2 _ _ ha, rfl, ?_⟩
        exact ⟨p2, (v - (10 : Int) ^ (18 : Int).toNat) :: cs, y, _, rfl, same_put (sm.trans s2) na0, (sm.trans s1).free np2, ne2, upd_same, (by rw [upd_ne ne2.symm, upd_same]; rfl), (by rw [List.length_cons]; omega), (fun j hj => by
          rcases List.mem_cons.mp hj with rfl | hj
          · omega
          · exact hp j hj), hy0, hy1⟩
    · obtain ⟨c, cs, y, y2, rfl, sm, nc, nac, ha, hc, hl, hp, hy0, hy1⟩ := h
      rw [List.length_map] at hl
      exact ⟨.ref a, rfl, q _ a c ⟨nac, cs, 0, y, 0, ha, hc, by omega, hp, by decide, hy0, hy1, by decide, by decide⟩ sm⟩
/-! ### wide -/
def spWide : Sp := fun vs H Q _ => ∃ (a c : Addr) (n : Nat) (L : Int), vs = [.ref a, .int L] ∧ Stock H a c n ∧ n ≤ 999990 ∧ 1 ≤ L ∧
  ∀ H' (r : Int), Stock H' a c (n + 4) → Keep a c H H' → 0 ≤ r → r < L → Q (.int r) H'
theorem ok_wide {f fP : Addr} {fd fdP : FuncData} {k : Nat} (F : Fun K "_law_wide" "_law_wide" sWide f fd) (FP : Fun K "_law_pick" "_law_pick" sPick fP fdP) (bP : Binds K fdP ["_law_stock_here", "_law_limit"] []) (gP : mg "_law_pick" = some (.ref fP)) (mi : mg "int" = none) (mr : mg "range" = none) :
    FnOk P w K mg base CX0 (k + 2) f fd ["_law_stock_here", "_law_limit"] spWide := by
  have GP : FnOk P w K mg base CX0 (k + 1) fP fdP ["_law_stock_here", "_law_limit"] spPick := ok_pick FP mi
  refine F.ok scWide (fun vs H Q E h => ?_) (fun cdv A outer s H vs Q E hr h => ?_)
  · obtain ⟨a, c, n, L, rfl, _⟩ := h
    rfl
  · obtain ⟨a, c, n, L, rfl, S, hn, hL, q⟩ := h
    refine ⟨_, pss_cons (ps_set (i := 2) scWide.nd rfl (.inl rfl) pe_int)
      (pss_cons (ps_for PassesOwn.never rfl (pi_range1 rfl mr (pa_cons pe_int pa_nil)) (pg_name (i := 3) scWide.nd rfl (.inl rfl))
        (pss_one (ps_set (i := 2) scWide.nd rfl (.inl rfl) (pe_op op_add (pe_op op_mul (pv 2) (pe_op op_pow pe_int pe_int)) (pe_call GP hr (by rfl) gP FP.kp bP .nil pass0 (pa_cons (pv 0) (pa_cons (pe_op op_pow pe_int pe_int) pa_nil)))))))
      (pss_one (ps_ret (pe_op op_mod (pe_callTy call_int1 (by rfl) mi PyProof.Rows.boot_int (pa_cons (pv 2) pa_nil)) (pv 1))))), ?_⟩
    refine ⟨4, rfl, by decide, by decide, for_range (n := 4) (fun i σ H' => ∃ t y3, σ = [some (.ref a), some (.int L), some (.int t), y3] ∧ Stock H' a c (n + i) ∧ Keep a c H H') ⟨0, none, rfl, S, Keep.refl⟩ (fun i σ H' hi h => ?_) (fun σ H' h => ?_)⟩
    · obtain ⟨t, y3, rfl, S', kp⟩ := h
      refine ⟨.int t, rfl, 10, 9, rfl, rfl, ⟨by decide, by decide, by decide⟩, t, _, rfl, rfl, .inr ⟨by decide, by decide⟩, .ref a, rfl, 10, 9, rfl, rfl, ⟨by decide, by decide, by decide⟩, a, c, n + i, _, rfl, S', by omega, by decide, by decide, fun H2 r S2 k2 _ _ => ?_⟩
      exact ⟨_, r, rfl, rfl, _, _, rfl, S2, kp.trans k2⟩
    · obtain ⟨t, y3, rfl, S', kp⟩ := h
      have hL0 : (0 : Int) < L := by omega
      exact ⟨.int t, rfl, .inl ⟨t, rfl, .int L, rfl, t, L, rfl, rfl, hL0, q _ _ S' kp (Int.emod_nonneg _ (by omega)) (Int.emod_lt_of_pos _ hL0)⟩⟩
end
end K05
set_option Elab.async false
set_option linter.all false
set_option maxRecDepth 100000
set_option maxHeartbeats 2000000
/-! zip(*rows) over tuples, any number of them; list(zip(*rows)) -/
namespace ZN
open PySem
open PySem.Sem (wp)
theorem typeCall_zip (xs : List Value) : checkTypeCall "zip" ⟨xs, []⟩ = pure () := by kernel_rfl
theorem newCall_zip : ∀ xs : List Value, checkBuiltinCall "zip.__new__" ⟨.type "zip" :: xs, []⟩ = pure ()
  | [] => by kernel_rfl
  | [a] => by kernel_rfl
  | a :: b :: xs => by kernel_rfl
theorem args_init (a : Value) (xs : List Value) : argsOk "object.__init__" ⟨a :: xs, []⟩ := by
  unfold argsOk; rw [signature?_of (id := "object.__init__") (n := ['_', '_', 't', 'i', 'n', 'i', '_', '_']) (o := ['t', 'c', 'e', 'j', 'b', 'o']) (by kernel_rfl) F.owner_object]; kernel_rfl
theorem zip_no_len : typeLookup (.type "zip") "__len__" = pure none := by rw [typeLookup_type, builtinLookup_eq_fast]; kernel_rfl
theorem zip_no_hint : typeLookup (.type "zip") "__length_hint__" = pure none := by rw [typeLookup_type, builtinLookup_eq_fast]; kernel_rfl
def rfs : Nat → Nat → List Value
  | _, 0 => []
  | n, k + 1 => Value.ref n :: rfs (n + 1) k
theorem rfs_length : ∀ n k, (rfs n k).length = k
  | _, 0 => rfl
  | n, k + 1 => by rw [rfs, List.length_cons, rfs_length (n + 1) k]
abbrev tI (l : Addr) : Obj := { cls := .type "tuple_iterator", data := .fields #[.ref l, .int 0 0] }
def itsH : Heap → List Addr → Heap
  | h, [] => h
  | h, l :: ls => itsH (h.push (tI l)) ls
theorem itsH_keep : ∀ (ls : List Addr) (h : Heap) (c : Addr) (o : Obj), h.get? c = some o → (itsH h ls).get? c = some o
  | [], _, _, _, e => e
  | l :: ls, h, c, o, e => itsH_keep ls _ c o (Heap.get?_push_of_some _ e)
theorem itsH_size : ∀ (ls : List Addr) (h : Heap), (itsH h ls).objs.size = h.objs.size + ls.length
  | [], _ => rfl
  | l :: ls, h => by rw [itsH, itsH_size ls, Heap.size_push, List.length_cons]; omega
theorem itsH_at : ∀ (ls : List Addr) (h : Heap) (j : Nat) (l : Addr), ls[j]? = some l → (itsH h ls).get? (h.objs.size + j) = some (tI l)
  | [], _, _, _, e => by simp at e
  | l :: ls, h, 0, x, e => by
    cases (Option.some.inj e : l = x)
    exact itsH_keep ls _ _ _ (Heap.get?_push_size _ rfl)
  | l :: ls, h, j + 1, x, e => by
    have z := itsH_at ls (h.push (tI l)) j x (by simpa using e)
    rw [Heap.size_push] at z
    have e2 : h.objs.size + (j + 1) = h.objs.size + 1 + j := by omega
    rw [itsH, e2]
    exact z
section
variable {prog : Program} {w : World} {A : Around} {E : Value → Shared → Prop}
theorem forIn_its {f : Value → Array Value → Sem (ForInStep (Array Value))}
    (hf : ∀ (l : Addr) (acc : Array Value) (s : Shared) (xs : Array Value) (Q : ForInStep (Array Value) → Shared → Prop), s.heap.IsTuple l xs → Q (.yield (acc.push (.ref s.heap.objs.size))) { s with heap := s.heap.push (tI l) } → wpAny (model prog w) A (f (.ref l) acc) Q E s) :
    ∀ (ls : List Addr) (acc : Array Value) (s : Shared) (Q : Array Value → Shared → Prop), (∀ l ∈ ls, ∃ xs, s.heap.IsTuple l xs) → Q (acc ++ (rfs s.heap.objs.size ls.length).toArray) { s with heap := itsH s.heap ls } →
      wpAny (model prog w) A (forIn (ls.map Value.ref) acc f) Q E s
  | [], acc, s, Q, _, hQ => by
    simp only [List.map_nil, List.forIn_nil]
    refine wpAny_pure ?_
    have e : acc ++ (rfs s.heap.objs.size 0).toArray = acc := by simp [rfs]
    rw [← e]
    exact hQ
  | l :: ls, acc, s, Q, ht, hQ => by
    simp only [List.map_cons, List.forIn_cons]
    obtain ⟨xs, hl⟩ := ht l List.mem_cons_self
    refine wpAny_bind (hf l acc s xs _ hl ?_)
    refine forIn_its hf ls _ { s with heap := s.heap.push (tI l) } Q (fun l' h' => ?_) ?_
    · obtain ⟨ys, hy⟩ := ht l' (List.mem_cons_of_mem _ h')
      exact ⟨ys, Heap.IsTuple.push hy _⟩
    · have e : acc.push (Value.ref s.heap.objs.size) ++ (rfs (s.heap.push (tI l)).objs.size ls.length).toArray = acc ++ (rfs s.heap.objs.size (l :: ls).length).toArray := by
        rw [Heap.size_push]
        apply Array.ext'
        simp [rfs, List.length_cons]
      show Q (acc.push (Value.ref s.heap.objs.size) ++ (rfs (s.heap.push (tI l)).objs.size ls.length).toArray) _
      rw [e]
      exact hQ
theorem wpAny_iterAll {s : Shared} {ls : List Addr} {Q : List Value → Shared → Prop} (ht : ∀ l ∈ ls, ∃ xs, s.heap.IsTuple l xs) (hQ : Q (rfs s.heap.objs.size ls.length) { s with heap := itsH s.heap ls }) :
    wpAny (model prog w) A (Builtin.SmallTypes.iterAll (ls.map Value.ref)) Q E s := by
  unfold Builtin.SmallTypes.iterAll
  refine wpAny_bind (forIn_its (fun l acc s xs Q hl hQ => ?_) ls _ s _ ht ?_)
  · refine wpAny_bind (wpAny_holding (wpAny_pyIter_tuple hl ?_))
    exact wpAny_pure hQ
  · refine wpAny_pure ?_
    simpa using hQ
end
abbrev zTI (h : Heap) (ls : List Addr) : Obj := { cls := .type "tuple", data := .seq (rfs h.objs.size ls.length).toArray }
abbrev zTO (ls : List Addr) : Obj := { cls := .type "tuple", data := .seq (List.replicate ls.length Value.none).toArray }
abbrev zH1 (h : Heap) (ls : List Addr) : Heap := (itsH h ls).push (zTI h ls)
abbrev zH2 (h : Heap) (ls : List Addr) : Heap := (zH1 h ls).push (zTO ls)
abbrev zH3 (h : Heap) (ls : List Addr) : Heap := (zH2 h ls).push { cls := .type "zip", data := .fields #[.none, .bool false, .bool false, .ref (itsH h ls).objs.size, .ref (zH1 h ls).objs.size] }
theorem meets_zip_new (ls : List Addr) (hz : ls.length ≤ sizeLine) : Meets (Builtin.«zip.__new__» ⟨.type "zip" :: ls.map Value.ref, []⟩) (fun _ R s => (∀ l ∈ ls, ∃ xs, s.heap.IsTuple l xs) ∧
    R (.ok (.ret (.ref (zH2 s.heap ls).objs.size))) { s with heap := zH3 s.heap ls }) :=
  .of_wp fun prog w A R s h => by
    obtain ⟨hp, g, d, tk, os⟩ := s
    obtain ⟨hl, h⟩ := h
    have hsub := sub_zip
    unfold Builtin.«zip.__new__» Builtin.SmallTypes.newClass
    have c1 : ¬ ((rfs hp.objs.size ls.length).toArray.size > sizeLine) := by
      rw [List.size_toArray, rfs_length]
      omega
    have mm : List.map (fun _ => Value.none) (rfs hp.objs.size ls.length) = List.replicate ls.length Value.none := by
      rw [List.map_const', rfs_length]
    have c2 : ¬ ((List.replicate ls.length Value.none).toArray.size > sizeLine) := by
      rw [List.size_toArray, List.length_replicate]
      omega
    wp_walk using wpAny_iterAll (s := ⟨hp, g, d, tk, os⟩) hl
    rw [if_neg c1]
    wp_walk
    rw [mm]
    exact ⟨_, rfl, h⟩
abbrev IsArr (h : Heap) (T : Addr) (xs : Array Value) : Prop := h.get? T = some { cls := .type "tuple", data := .seq xs }
section
variable {prog : Program} {w : World} {A : Around} {E : Value → Shared → Prop} {s : Shared}
theorem call_zip {ls : List Addr} {Q : Value → Shared → Prop} (hz : ls.length ≤ sizeLine) (ht : ∀ l ∈ ls, ∃ xs, s.heap.IsTuple l xs)
    (h : ∀ h', IsZip h' (s.heap.objs.size + ls.length + 2) (s.heap.objs.size + ls.length) (s.heap.objs.size + ls.length + 1) .none → IsArr h' (s.heap.objs.size + ls.length) (rfs s.heap.objs.size ls.length).toArray →
      IsArr h' (s.heap.objs.size + ls.length + 1) (List.replicate ls.length Value.none).toArray → (∀ j l, ls[j]? = some l → h'.get? (s.heap.objs.size + j) = some (tI l)) → h'.objs.size = s.heap.objs.size + ls.length + 3 →
      (∀ c o, s.heap.get? c = some o → h'.get? c = some o) → Q (.ref (s.heap.objs.size + ls.length + 2)) { s with heap := h' }) :
    wpAny (model prog w) A (call (.type "zip") (ls.map Value.ref)) Q E s := by
  refine callType_new F.called_zip (by decide) (typeCall_zip _) (newCall_zip _) (fun obj => args_init obj _) F.entry_zip_new (meets_zip_new ls hz) ⟨ht, ?_⟩
  have e1 : (itsH s.heap ls).objs.size = s.heap.objs.size + ls.length := itsH_size ls s.heap
  have e2 : (zH1 s.heap ls).objs.size = s.heap.objs.size + ls.length + 1 := by rw [Heap.size_push, e1]
  have e3 : (zH2 s.heap ls).objs.size = s.heap.objs.size + ls.length + 2 := by rw [Heap.size_push, e2]
  have e4 : (zH3 s.heap ls).objs.size = s.heap.objs.size + ls.length + 3 := by rw [Heap.size_push, e3]
  have g4 : (zH3 s.heap ls).get? (zH2 s.heap ls).objs.size = some _ := Heap.get?_push_size _ rfl
  have g3 : (zH3 s.heap ls).get? (zH1 s.heap ls).objs.size = some _ := Heap.get?_push_of_some _ (Heap.get?_push_size _ rfl)
  have g2 : (zH3 s.heap ls).get? (itsH s.heap ls).objs.size = some _ := Heap.get?_push_of_some _ (Heap.get?_push_of_some _ (Heap.get?_push_size _ rfl))
  have kp : ∀ c o, (itsH s.heap ls).get? c = some o → (zH3 s.heap ls).get? c = some o := fun c o x => Heap.get?_push_of_some _ (Heap.get?_push_of_some _ (Heap.get?_push_of_some _ x))
  show _ ∧ _
  rw [e1, e2, e3] at g4
  rw [e2] at g3
  rw [e1] at g2
  rw [e3]
  exact ⟨⟨_, g4, rfl⟩, h _ g4 g2 g3 (fun j l q => kp _ _ (itsH_at ls s.heap j l q)) e4 fun c o x => kp _ _ (itsH_keep ls _ _ _ x)⟩
end

/-! ### one draw -/
abbrev Tr := Addr × Addr × Array Value
section
variable {prog : Program} {w : World} {A : Around} {E : Value → Shared → Prop}
def AtI (h : Heap) (ts : List Tr) (i : Nat) : Prop := ∀ t ∈ ts, h.IsTupleIter t.1 t.2.1 i ∧ h.IsTuple t.2.1 t.2.2
theorem iter_ne_tuple {h : Heap} {it l t : Addr} {i : Nat} {xs : Array Value} (x : h.IsTupleIter it t i) (y : h.IsTuple l xs) : l ≠ it := fun e => by
  subst e
  obtain ⟨o, ho, hc, _⟩ := x
  obtain ⟨o2, ho2, hc2, _⟩ := y
  rw [ho] at ho2
  cases ho2
  rw [hc] at hc2
  exact absurd hc2 (by decide)
theorem AtI.ext {h h' : Heap} {ts : List Tr} {i : Nat} (x : AtI h ts i) (k : ∀ t ∈ ts, ∀ o, (h.get? t.1 = some o → h'.get? t.1 = some o)) (k2 : ∀ t ∈ ts, ∀ o, (h.get? t.2.1 = some o → h'.get? t.2.1 = some o)) : AtI h' ts i := fun t ht => by
  obtain ⟨a, b⟩ := x t ht
  obtain ⟨o, ho, r⟩ := a
  obtain ⟨o2, ho2, r2⟩ := b
  exact ⟨⟨o, k t ht o ho, r⟩, ⟨o2, k2 t ht o2 ho2, r2⟩⟩
def row (ts : List Tr) (i : Nat) : List Value := ts.map fun t => t.2.2.getD i .none
theorem draw_loop {β : Type} {f : Value → β → Sem (ForInStep β)} (mk : Array Value → β)
    (hf : ∀ (it l : Addr) (items : Array Value) (i : Nat) (x : Value) (acc : Array Value) (s : Shared) (Q : ForInStep β → Shared → Prop), s.heap.IsTupleIter it l i → s.heap.IsTuple l items → items[i]? = some x →
      (∀ h', h'.IsTupleIter it l (i + 1) → Heap.SameBut it s.heap h' → Q (.yield (mk (acc.push x))) { s with heap := h' }) → wpAny (model prog w) A (f (.ref it) (mk acc)) Q E s) :
    ∀ (ts : List Tr) (acc : Array Value) (s : Shared) (i : Nat) (Q : β → Shared → Prop), (ts.map (·.1)).Nodup → AtI s.heap ts i → (∀ t ∈ ts, i < t.2.2.size) →
      (∀ h', AtI h' ts (i + 1) → h'.objs.size = s.heap.objs.size → (∀ c o, c ∉ ts.map (·.1) → s.heap.get? c = some o → h'.get? c = some o) → Q (mk (acc ++ (row ts i).toArray)) { s with heap := h' }) →
      wpAny (model prog w) A (forIn (ts.map fun t => Value.ref t.1) (mk acc) f) Q E s
  | [], acc, s, i, Q, _, _, _, hQ => by
    simp only [List.map_nil, List.forIn_nil]
    refine wpAny_pure ?_
    have z := hQ s.heap (fun _ h => nomatch h) rfl (fun _ _ _ e => e)
    simpa [row] using z
  | t :: ts, acc, s, i, Q, nd, hA, hi, hQ => by
    simp only [List.map_cons, List.forIn_cons]
    obtain ⟨a, b⟩ := hA t List.mem_cons_self
    have hlt := hi t List.mem_cons_self
    rw [List.map_cons, List.nodup_cons] at nd
    refine wpAny_bind (hf t.1 t.2.1 t.2.2 i t.2.2[i] acc s _ a b (Array.getElem?_eq_getElem hlt) fun h1 a1 sb => ?_)
    have up : ∀ c o, c ≠ t.1 → s.heap.get? c = some o → h1.get? c = some o := fun c o n e => sb.extBut c o n e
    refine draw_loop mk hf ts _ { s with heap := h1 } i Q nd.2 (AtI.ext (fun t' h' => hA t' (List.mem_cons_of_mem _ h')) (fun t' h' o e => up _ o (fun q => nd.1 (by rw [← q]; exact List.mem_map_of_mem h')) e) fun t' h' o e => up _ o (iter_ne_tuple a (hA t' (List.mem_cons_of_mem _ h')).2) e) (fun t' h' => hi t' (List.mem_cons_of_mem _ h')) fun h2 A2 sz k2 => ?_
    have b1 : h1.IsTuple t.2.1 t.2.2 := by
      obtain ⟨o, ho, r⟩ := b
      exact ⟨o, up _ _ (iter_ne_tuple a ⟨o, ho, r⟩) ho, r⟩
    have e : acc.push t.2.2[i] ++ (row ts i).toArray = acc ++ (row (t :: ts) i).toArray := by
      apply Array.ext'
      simp [row, Array.getD, hlt]
    rw [e]
    refine hQ h2 (fun t' h' => ?_) (sz.trans sb.1) fun c o hc e => k2 c o (fun q => hc (List.mem_cons_of_mem _ q)) (up c o (fun q => hc (by rw [q]; exact List.mem_cons_self)) e)
    rcases List.mem_cons.mp h' with rfl | h'
    · obtain ⟨o, ho, r⟩ := a1
      obtain ⟨o2, ho2, r2⟩ := b1
      have nt : t'.2.1 ∉ ts.map (·.1) := fun q => by
        obtain ⟨t2, m2, e2⟩ := List.mem_map.mp q
        exact iter_ne_tuple (hA t2 (List.mem_cons_of_mem _ m2)).1 b e2.symm
      exact ⟨⟨o, k2 _ o nd.1 ho, r⟩, ⟨o2, k2 _ o2 nt ho2, r2⟩⟩
    · exact A2 t' h'
theorem own_loop {β : Type} {f : Value × Nat → β → Sem (ForInStep β)} (b0 : β) (TO : Addr)
    (hf : ∀ (it l : Addr) (items : Array Value) (i k : Nat) (x : Value) (arr : Array Value) (s : Shared) (Q : ForInStep β → Shared → Prop), s.heap.IsTupleIter it l i → s.heap.IsTuple l items → items[i]? = some x → TO ≠ it → IsArr s.heap TO arr → arr.size ≤ sizeLine →
      (∀ h', h'.IsTupleIter it l (i + 1) → IsArr h' TO (arr.setIfInBounds k x) → h'.objs.size = s.heap.objs.size → (∀ c o, c ≠ TO → c ≠ it → s.heap.get? c = some o → h'.get? c = some o) → Q (.yield b0) { s with heap := h' }) → wpAny (model prog w) A (f (.ref it, k) b0) Q E s) :
    ∀ (ts : List Tr) (k : Nat) (arr : Array Value) (s : Shared) (i : Nat) (Q : β → Shared → Prop), (ts.map (·.1)).Nodup → AtI s.heap ts i → (∀ t ∈ ts, i < t.2.2.size) → IsArr s.heap TO arr → arr.size = k + ts.length → arr.size ≤ sizeLine → TO ∉ ts.map (·.1) → (∀ t ∈ ts, t.2.1 ≠ TO) →
      (∀ h' arr', AtI h' ts (i + 1) → IsArr h' TO arr' → arr'.toList = arr.toList.take k ++ row ts i → h'.objs.size = s.heap.objs.size → (∀ c o, c ≠ TO → c ∉ ts.map (·.1) → s.heap.get? c = some o → h'.get? c = some o) → Q b0 { s with heap := h' }) →
      wpAny (model prog w) A (forIn ((ts.map fun t => Value.ref t.1).zipIdx k) b0 f) Q E s
  | [], k, arr, s, i, Q, _, _, _, hT, hs, _, _, _, hQ => by
    simp only [List.map_nil, List.zipIdx_nil, List.forIn_nil]
    refine wpAny_pure (hQ s.heap arr (fun _ h => nomatch h) hT ?_ rfl fun _ _ _ _ e => e)
    rw [List.take_of_length_le (by rw [Array.length_toList, hs]; exact Nat.le_refl _)]
    simp [row]
  | t :: ts, k, arr, s, i, Q, nd, hA, hi, hT, hs, hz, hno, hnl, hQ => by
    simp only [List.map_cons, List.zipIdx_cons, List.forIn_cons]
    obtain ⟨a, b⟩ := hA t List.mem_cons_self
    have hlt := hi t List.mem_cons_self
    rw [List.map_cons, List.nodup_cons] at nd
    have hne : TO ≠ t.1 := fun e => hno (by rw [e]; exact List.mem_cons_self)
    have hl : k < arr.size := by rw [hs, List.length_cons]; omega
    refine wpAny_bind (hf t.1 t.2.1 t.2.2 i k t.2.2[i] arr s _ a b (Array.getElem?_eq_getElem hlt) hne hT hz fun h1 a1 T1 sz1 up => ?_)
    refine own_loop b0 TO hf ts (k + 1) _ { s with heap := h1 } i Q nd.2 (AtI.ext (fun t' h' => hA t' (List.mem_cons_of_mem _ h')) (fun t' h' o e => up _ o (fun q => hno (List.mem_cons_of_mem _ (by rw [← q]; exact List.mem_map_of_mem h'))) (fun q => nd.1 (by rw [← q]; exact List.mem_map_of_mem h')) e) fun t' h' o e => up _ o (hnl t' (List.mem_cons_of_mem _ h')) (iter_ne_tuple a (hA t' (List.mem_cons_of_mem _ h')).2) e)
      (fun t' h' => hi t' (List.mem_cons_of_mem _ h')) T1 (by rw [Array.size_setIfInBounds, hs, List.length_cons]; omega) (by rw [Array.size_setIfInBounds]; exact hz) (fun q => hno (List.mem_cons_of_mem _ q)) (fun t' h' => hnl t' (List.mem_cons_of_mem _ h')) fun h2 arr' A2 T2 e2 sz k2 => ?_
    have b1 : h1.IsTuple t.2.1 t.2.2 := by
      obtain ⟨o, ho, r⟩ := b
      exact ⟨o, up _ _ (hnl t List.mem_cons_self) (iter_ne_tuple a ⟨o, ho, r⟩) ho, r⟩
    refine hQ h2 arr' (fun t' h' => ?_) T2 ?_ (sz.trans sz1) fun c o c1 hc e => k2 c o c1 (fun q => hc (List.mem_cons_of_mem _ q)) (up c o c1 (fun q => hc (by rw [q]; exact List.mem_cons_self)) e)
    · rcases List.mem_cons.mp h' with rfl | h'
      · obtain ⟨o, ho, r⟩ := a1
        obtain ⟨o2, ho2, r2⟩ := b1
        have nt : t'.2.1 ∉ ts.map (·.1) := fun q => by
          obtain ⟨t2, m2, e2⟩ := List.mem_map.mp q
          exact iter_ne_tuple (hA t2 (List.mem_cons_of_mem _ m2)).1 b e2.symm
        exact ⟨⟨o, k2 _ o (Ne.symm hne) nd.1 ho, r⟩, ⟨o2, k2 _ o2 (hnl t' List.mem_cons_self) nt ho2, r2⟩⟩
      · exact A2 t' h'
    · rw [e2, Array.toList_setIfInBounds, List.take_add_one, List.take_set_of_le (Nat.le_refl k), List.getElem?_set_self (by simpa using hl)]
      simp [row, Array.getD, hlt]
end
end ZN
set_option Elab.async false
set_option linter.all false
set_option maxRecDepth 100000
set_option maxHeartbeats 2000000
namespace ZN
open PySem
open PySem.Sem (wp)
section
variable {prog : Program} {w : World} {A : Around} {E : Value → Shared → Prop} {s : Shared}
theorem tz : Value.type "tuple" ≠ Value.type "zip" := by decide
theorem refs_toArray (ts : List Tr) : (ts.map fun t => Value.ref t.1).toArray.isEmpty = ts.isEmpty := by cases ts <;> rfl
/-- the first draw: the tuple that the zip owns is filled and handed out -/
theorem next_first {z TI TO : Addr} {ts : List Tr} {i : Nat} {arr : Array Value} {Q : Value → Shared → Prop} (hne : ts ≠ []) (hz : IsZip s.heap z TI TO .none) (hTI : IsArr s.heap TI (ts.map fun t => Value.ref t.1).toArray) (hTO : IsArr s.heap TO arr)
    (hs : arr.size = ts.length) (hsz : ts.length ≤ sizeLine) (nd : (ts.map (·.1)).Nodup) (hA : AtI s.heap ts i) (hi : ∀ t ∈ ts, i < t.2.2.size) (hnl : ∀ t ∈ ts, t.2.1 ≠ TO)
    (hQ : ∀ h', IsZipHeld h' z TI TO s.heap.objs.size false → AtI h' ts (i + 1) → IsArr h' s.heap.objs.size (row ts i).toArray → h'.objs.size = s.heap.objs.size + 1 →
      (∀ c o, c ≠ z → c ≠ TO → c ∉ ts.map (·.1) → s.heap.get? c = some o → h'.get? c = some o) → Q (.ref s.heap.objs.size) { s with heap := h' }) :
    wpAny (model prog w) A (Builtin.«zip.__next__» ⟨[.ref z], []⟩) (fun fin s' => ∃ v, fin = .done (.ret v) ∧ Q v s') E s := by
  have zne : ∀ c o, s.heap.get? c = some o → o.cls ≠ .type "zip" → c ≠ z := fun c o e n q => by
    subst q
    rw [hz] at e
    cases e
    exact n rfl
  have itz : ∀ t ∈ ts, t.1 ≠ z := fun t ht => by
    obtain ⟨o, ho, hc, _⟩ := (hA t ht).1
    exact zne _ o ho (by rw [hc]; decide)
  have lz : ∀ t ∈ ts, t.2.1 ≠ z := fun t ht => by
    obtain ⟨o, ho, hc, _⟩ := (hA t ht).2
    exact zne _ o ho (by rw [hc]; decide)
  have TOz : TO ≠ z := zne _ _ hTO tz
  have TIz : TI ≠ z := zne _ _ hTI tz
  have TOit : TO ∉ ts.map (·.1) := fun q => by
    obtain ⟨t, ht, e⟩ := List.mem_map.mp q
    exact iter_ne_tuple (hA t ht).1 ⟨_, hTO, rfl, _, rfl⟩ e.symm
  have zit : z ∉ ts.map (·.1) := fun q => by
    obtain ⟨t, ht, e⟩ := List.mem_map.mp q
    exact itz t ht e
  show wpAny _ _ (field (.ref z) 2 >>= _) _ _ _
  refine wpAny_bind (wpAny_field hz rfl (x := .bool false) rfl ?_)
  show wpAny _ _ (field (.ref z) 3 >>= _) _ _ _
  refine wpAny_bind (wpAny_field hz rfl (x := .ref TI) rfl ?_)
  refine wpAny_bind (wpAny_seqItems hTI rfl ?_)
  have hem : (ts.map fun t => Value.ref t.1).toArray.isEmpty = false := by
    rw [refs_toArray]
    cases ts with
    | nil => exact absurd rfl hne
    | cons _ _ => rfl
  simp only [hem, Bool.false_eq_true, if_false]
  show wpAny _ _ (Builtin.SmallTypes.ownedTupleIsFree (.ref z) >>= _) _ _ _
  refine wpAny_bind ?_
  unfold Builtin.SmallTypes.ownedTupleIsFree
  refine wpAny_bind (wpAny_field hz rfl (x := .none) rfl (wpAny_pure ?_))
  simp only [if_true]
  refine wpAny_bind (wpAny_rule ?_)
  refine wpAny_bind (wpAny_field hz rfl (x := .ref TO) rfl ?_)
  refine wpAny_bind (wpAny_setField_rec hz (by simp) fun h₁ hz₁ hs₁ => ?_)
  replace hz₁ : IsZip h₁ z TI TO .ellipsis := hz₁
  have up1 : ∀ c o, c ≠ z → s.heap.get? c = some o → h₁.get? c = some o := fun c o n e => hs₁.extBut c o n e
  refine wpAny_bind ?_
  refine own_loop ((none, ()) : Option Fin × Unit) TO (fun it l items i k x arr s Q h1 h2 hx hn hT hz2 hq => ?_) ts 0 arr { s with heap := h₁ } i _ nd (AtI.ext hA (fun t ht o e => up1 _ o (itz t ht) e) fun t ht o e => up1 _ o (lz t ht) e) hi (up1 _ _ TOz hTO) (by rw [hs]; omega) (by rw [hs]; exact hsz) TOit hnl fun h₂ arr' A2 T2 e2 sz2 k2 => ?_
  · refine wpAny_bind (wpAny_onRaise ?_)
    show wpAny _ _ (Builtin.SmallTypes.nextOf (.ref it) >>= _) _ _ _
    refine wpAny_bind (RZ.nextOf_tuple_item h1 h2 hx fun h₂ h1₂ hs₂ => wpAny_pure ?_)
    have hT2 : IsArr h₂ TO arr := hs₂.extBut _ _ hn hT
    refine wpAny_bind (wpAny_seqItems hT2 rfl ?_)
    refine wpAny_bind (wpAny_updateSeq hT2 rfl ?_ hz2 (by rw [Array.size_setIfInBounds]; omega))
    refine wpAny_bind (wpAny_letGo (wpAny_pure ?_))
    refine hq _ ?_ ?_ ?_ fun c o c1 c2 e => (Heap.get?_update_other _ _ (Ne.symm c1)).trans (hs₂.extBut _ _ c2 e)
    · obtain ⟨o, ho, r⟩ := h1₂
      exact ⟨o, (Heap.get?_update_other _ _ hn).trans ho, r⟩
    · show Heap.get? _ _ = _
      rw [Heap.get?_update_self (Obj.mapSeq (·.setIfInBounds k x)) hT2 rfl]
      simp [Obj.mapSeq]
    · exact (Heap.SameBut.update ..).1.trans hs₂.1
  · have e0 : arr'.toList = row ts i := by simpa using e2
    have kk : arr'.size = ts.length := by rw [← Array.length_toList, e0]; simp [row]
    refine wpAny_bind (wpAny_seqItems T2 rfl ?_)
    refine wpAny_bind (wpAny_newTuple ?_ (by rw [e0]; simp [row]; omega))
    have hz₂ : IsZip h₂ z TI TO .ellipsis := k2 _ _ (Ne.symm TOz) zit hz₁
    have hsz : h₂.objs.size = s.heap.objs.size := sz2.trans hs₁.1
    have hzl : z < h₂.objs.size := Heap.lt_size hz₂
    show wpAny _ _ (Builtin.SmallTypes.ownedTupleHandOut (.ref z) (.ref h₂.objs.size) >>= _) _ _ _
    refine wpAny_bind ?_
    unfold Builtin.SmallTypes.ownedTupleHandOut
    have hz₆ : IsZip (h₂.push { cls := .type "tuple", data := .seq arr'.toList.toArray }) z TI TO .ellipsis := Heap.get?_push_of_some _ hz₂
    refine wpAny_bind (wpAny_setField_rec hz₆ (by simp) fun h₇ hz₇ hs₇ => ?_)
    replace hz₇ : IsZip h₇ z TI TO (rawInt h₂.objs.size) := hz₇
    refine wpAny_setField_rec hz₇ (by simp) fun h₈ hz₈ hs₈ => ?_
    replace hz₈ : IsZipHeld h₈ z TI TO h₂.objs.size false := hz₈
    have up : ∀ c o, c ≠ z → h₂.get? c = some o → h₈.get? c = some o := fun c o c1 e => hs₈.extBut _ _ c1 (hs₇.extBut _ _ c1 (Heap.get?_push_of_some _ e))
    have hT₈ : IsArr h₈ h₂.objs.size arr'.toList.toArray := hs₈.extBut _ _ (Nat.ne_of_gt hzl) (hs₇.extBut _ _ (Nat.ne_of_gt hzl) (Heap.get?_push_size _ rfl))
    have hz8 : h₈.objs.size = h₂.objs.size + 1 := by rw [hs₈.1, hs₇.1, Heap.size_push]
    rw [hsz] at hz₈ hT₈ hz8
    rw [e0] at hT₈
    refine wpAny_pure ⟨_, rfl, ?_⟩
    show Q (.ref h₂.objs.size) _
    rw [hsz]
    exact hQ h₈ hz₈ (AtI.ext A2 (fun t ht o e => up _ o (itz t ht) e) fun t ht o e => up _ o (lz t ht) e) hT₈ hz8 fun c o c1 c2 c3 e => up c o c1 (k2 c o c2 c3 (up1 c o c1 e))
/-- a later draw: the tuple handed out first is still there -/
theorem next_held {z TI TO T : Addr} {f : Bool} {oT : Obj} {ts : List Tr} {i : Nat} {Q : Value → Shared → Prop} (hne : ts ≠ []) (hz : IsZipHeld s.heap z TI TO T f) (hTI : IsArr s.heap TI (ts.map fun t => Value.ref t.1).toArray) (hT : s.heap.get? T = some oT)
    (hsz : ts.length ≤ sizeLine) (nd : (ts.map (·.1)).Nodup) (hA : AtI s.heap ts i) (hi : ∀ t ∈ ts, i < t.2.2.size)
    (hQ : ∀ h', IsZipHeld h' z TI TO T true → AtI h' ts (i + 1) → IsArr h' s.heap.objs.size (row ts i).toArray → h'.objs.size = s.heap.objs.size + 1 →
      (∀ c o, c ≠ z → c ∉ ts.map (·.1) → s.heap.get? c = some o → h'.get? c = some o) → Q (.ref s.heap.objs.size) { s with heap := h' }) :
    wpAny (model prog w) A (Builtin.«zip.__next__» ⟨[.ref z], []⟩) (fun fin s' => ∃ v, fin = .done (.ret v) ∧ Q v s') E s := by
  have zne : ∀ c o, s.heap.get? c = some o → o.cls ≠ .type "zip" → c ≠ z := fun c o e n q => by
    subst q
    rw [hz] at e
    cases e
    exact n rfl
  have itz : ∀ t ∈ ts, t.1 ≠ z := fun t ht => by
    obtain ⟨o, ho, hc, _⟩ := (hA t ht).1
    exact zne _ o ho (by rw [hc]; decide)
  have lz : ∀ t ∈ ts, t.2.1 ≠ z := fun t ht => by
    obtain ⟨o, ho, hc, _⟩ := (hA t ht).2
    exact zne _ o ho (by rw [hc]; decide)
  have zit : z ∉ ts.map (·.1) := fun q => by
    obtain ⟨t, ht, e⟩ := List.mem_map.mp q
    exact itz t ht e
  show wpAny _ _ (field (.ref z) 2 >>= _) _ _ _
  refine wpAny_bind (wpAny_field hz rfl (x := .bool false) rfl ?_)
  show wpAny _ _ (field (.ref z) 3 >>= _) _ _ _
  refine wpAny_bind (wpAny_field hz rfl (x := .ref TI) rfl ?_)
  refine wpAny_bind (wpAny_seqItems hTI rfl ?_)
  have hem : (ts.map fun t => Value.ref t.1).toArray.isEmpty = false := by
    rw [refs_toArray]
    cases ts with
    | nil => exact absurd rfl hne
    | cons _ _ => rfl
  simp only [hem, Bool.false_eq_true, if_false]
  show wpAny _ _ (Builtin.SmallTypes.ownedTupleIsFree (.ref z) >>= _) _ _ _
  refine wpAny_bind (wpAny_tupleHeld_zip hz hT fun h₁ hz₁ hs₁ => ?_)
  have up1 : ∀ c o, c ≠ z → s.heap.get? c = some o → h₁.get? c = some o := fun c o n e => hs₁.extBut c o n e
  simp only [Bool.false_eq_true, if_false]
  refine wpAny_bind ?_
  rw [← Array.forIn_toList]
  refine draw_loop (fun a => ((none, a) : Option Fin × Array Value)) (fun it l items i x acc s Q h1 h2 hx hq => ?_) ts #[] { s with heap := h₁ } i _ nd (AtI.ext hA (fun t ht o e => up1 _ o (itz t ht) e) fun t ht o e => up1 _ o (lz t ht) e) hi fun h₂ A2 sz2 k2 => ?_
  · refine wpAny_bind (wpAny_holding ?_)
    show wpAny _ _ (Builtin.SmallTypes.nextOf (.ref it) >>= _) _ _ _
    refine wpAny_bind (RZ.nextOf_tuple_item h1 h2 hx fun h₂ h1₂ hs₂ => wpAny_pure ?_)
    exact wpAny_pure (hq h₂ h1₂ hs₂)
  · have e0 : (#[] ++ (row ts i).toArray : Array Value).toList = row ts i := by simp
    have hz₂ : IsZipHeld h₂ z TI TO T true := k2 _ _ zit hz₁
    have hsz2 : h₂.objs.size = s.heap.objs.size := sz2.trans hs₁.1
    show wpAny _ _ (newTuple (#[] ++ (row ts i).toArray : Array Value).toList >>= _) _ _ _
    rw [e0]
    refine wpAny_bind (wpAny_newTuple ?_ (by simp [row]; omega))
    refine wpAny_pure ⟨_, rfl, ?_⟩
    have hp : IsArr (h₂.push { cls := .type "tuple", data := .seq (row ts i).toArray }) h₂.objs.size (row ts i).toArray := Heap.get?_push_size _ rfl
    have hz4 : (h₂.push { cls := .type "tuple", data := .seq (row ts i).toArray }).objs.size = h₂.objs.size + 1 := Heap.size_push ..
    show Q (.ref h₂.objs.size) _
    rw [hsz2] at hp hz4 ⊢
    exact hQ _ (Heap.get?_push_of_some _ hz₂) (AtI.ext A2 (fun _ _ o e => Heap.get?_push_of_some _ e) fun _ _ o e => Heap.get?_push_of_some _ e) hp hz4 fun c o c1 c2 e => Heap.get?_push_of_some _ (k2 c o c2 (up1 c o c1 e))
/-- the end behind some draws -/
theorem next_end {z TI TO T : Addr} {f : Bool} {oT : Obj} {ts : List Tr} {i : Nat} {Q : Fin → Shared → Prop} (hh : A.handled = none) (hne : ts ≠ []) (hz : IsZipHeld s.heap z TI TO T f) (hTI : IsArr s.heap TI (ts.map fun t => Value.ref t.1).toArray) (hT : s.heap.get? T = some oT)
    (hA : AtI s.heap ts i) (hi : ∀ t ∈ ts, t.2.2.size ≤ i)
    (hE : ∀ h' e, (∀ c o, c ≠ z → c ∉ ts.map (·.1) → s.heap.get? c = some o → h'.get? c = some o) → (∃ o, h'.get? e = some o ∧ o.cls = .type "StopIteration") → E (.ref e) { s with heap := h' }) :
    wpAny (model prog w) A (Builtin.«zip.__next__» ⟨[.ref z], []⟩) Q E s := by
  have zne : ∀ c o, s.heap.get? c = some o → o.cls ≠ .type "zip" → c ≠ z := fun c o e n q => by
    subst q
    rw [hz] at e
    cases e
    exact n rfl
  show wpAny _ _ (field (.ref z) 2 >>= _) _ _ _
  refine wpAny_bind (wpAny_field hz rfl (x := .bool false) rfl ?_)
  show wpAny _ _ (field (.ref z) 3 >>= _) _ _ _
  refine wpAny_bind (wpAny_field hz rfl (x := .ref TI) rfl ?_)
  refine wpAny_bind (wpAny_seqItems hTI rfl ?_)
  have hem : (ts.map fun t => Value.ref t.1).toArray.isEmpty = false := by
    rw [refs_toArray]
    cases ts with
    | nil => exact absurd rfl hne
    | cons _ _ => rfl
  simp only [hem, Bool.false_eq_true, if_false]
  show wpAny _ _ (Builtin.SmallTypes.ownedTupleIsFree (.ref z) >>= _) _ _ _
  refine wpAny_bind (wpAny_tupleHeld_zip hz hT fun h₁ hz₁ hs₁ => ?_)
  have up1 : ∀ c o, c ≠ z → s.heap.get? c = some o → h₁.get? c = some o := fun c o n e => hs₁.extBut c o n e
  simp only [Bool.false_eq_true, if_false]
  refine wpAny_bind ?_
  rw [← Array.forIn_toList]
  cases ts with
  | nil => exact absurd rfl hne
  | cons t ts =>
    obtain ⟨⟨o, ho, r⟩, ⟨o2, ho2, r2⟩⟩ := hA t List.mem_cons_self
    have n1 : t.1 ≠ z := zne _ _ ho (by rw [r.1]; decide)
    have n2 : t.2.1 ≠ z := zne _ _ ho2 (by rw [r2.1]; decide)
    simp only [List.map_cons, List.forIn_cons]
    refine wpAny_bind (wpAny_bind (wpAny_holding ?_))
    show wpAny _ _ (Builtin.SmallTypes.nextOf (.ref t.1) >>= _) _ _ _
    refine wpAny_bind (RZ.nextOf_tuple_end (s := { s with heap := h₁ }) hh ⟨o, up1 _ _ n1 ho, r⟩ ⟨o2, up1 _ _ n2 ho2, r2⟩ (by simpa using hi t List.mem_cons_self) fun h₂ e hs₂ he => ?_)
    exact hE h₂ e (fun c o c1 c2 x => hs₂ _ _ (fun q => c2 (by rw [q]; exact List.mem_cons_self)) (up1 _ _ c1 x)) he
/-- no rows at all -/
theorem next_none {z TI TO : Addr} {Q : Fin → Shared → Prop} (hh : A.handled = none) (hz : IsZip s.heap z TI TO .none) (hTI : IsArr s.heap TI #[])
    (hE : ∀ h' e, (∀ c o, s.heap.get? c = some o → h'.get? c = some o) → (∃ o, h'.get? e = some o ∧ o.cls = .type "StopIteration") → E (.ref e) { s with heap := h' }) :
    wpAny (model prog w) A (Builtin.«zip.__next__» ⟨[.ref z], []⟩) Q E s := by
  show wpAny _ _ (field (.ref z) 2 >>= _) _ _ _
  refine wpAny_bind (wpAny_field hz rfl (x := .bool false) rfl ?_)
  show wpAny _ _ (field (.ref z) 3 >>= _) _ _ _
  refine wpAny_bind (wpAny_field hz rfl (x := .ref TI) rfl ?_)
  refine wpAny_bind (wpAny_seqItems hTI rfl ?_)
  refine wpAny_bind (wpAny_rule (wpAny_bind ?_))
  show wpAny _ _ (newExc (.type "StopIteration") [] >>= _) _ _ _
  refine wpAny_bind ?_
  simp only [newExc, newTuple]
  refine wpAny_bind (wpAny_newObj_type ?_ (by size_fits))
  refine wpAny_bind (m := firstArgMember _ _) (wpAny_of_eq (a := Value.none) (by first | rfl | (simp only [firstArgMember]; rfl)) ?_)
  refine wpAny_newObj_type ?_ (by size_fits)
  simp only [raiseNew]
  refine wpAny_bind (wpAny_handled ?_)
  first | rw [show A.in1.handled = none from hh] | rw [hh]
  refine wpAny_bind (wpAny_pure (wpAny_throw ?_))
  exact hE _ _ (fun c o x => Heap.get?_push_of_some _ (Heap.get?_push_of_some _ x)) ⟨_, Heap.get?_push_size _ rfl, rfl⟩
end
end ZN
set_option Elab.async false
set_option linter.all false
set_option maxRecDepth 100000
set_option maxHeartbeats 2000000
namespace ZN
open PySem
open PySem.Sem (wp)
/-- a zip behind i draws whose tuples are all kept -/
structure ZSt (h : Heap) (z TI TO : Addr) (ts : List Tr) (i : Nat) : Prop where
  ti : IsArr h TI (ts.map fun t => Value.ref t.1).toArray
  at_ : AtI h ts i
  st : (i = 0 ∧ TI ≠ TO ∧ IsZip h z TI TO .none ∧ (∃ arr, IsArr h TO arr ∧ arr.size = ts.length) ∧ ∀ t ∈ ts, t.2.1 ≠ TO) ∨ (ts ≠ [] ∧ ∃ T f xs, IsZipHeld h z TI TO T f ∧ IsArr h T xs)
structure ZG (ts : List Tr) (lo : Addr) (h : Heap) (as : List Addr) : Prop where
  rise : as.Pairwise (· < ·)
  above : ∀ a ∈ as, lo < a
  tup : ∀ (j : Nat) (a : Addr), as[j]? = some a → IsArr h a (row ts j).toArray
theorem ZG.there {ts : List Tr} {lo : Addr} {h : Heap} {as : List Addr} (g : ZG ts lo h as) {a : Addr} (ha : a ∈ as) : a < h.objs.size := by
  obtain ⟨j, hj⟩ := List.mem_iff_getElem?.mp ha
  exact Heap.lt_size (g.tup j a hj)
theorem arr_ne_list {h : Heap} {S T : Addr} {xs ys : Array Value} {c : Nat} (hS : h.get? S = some { cls := .type "list", dict := none, data := .seq ys c, slots := #[] }) (hT : IsArr h T xs) : T ≠ S := fun e => by
  subst e
  rw [hT] at hS
  have := congrArg (fun o => o.map Obj.cls) hS
  simp at this
theorem AtI.ne_list {h : Heap} {ts : List Tr} {i : Nat} {S : Addr} {ys : Array Value} {c : Nat} (x : AtI h ts i) (hS : h.get? S = some { cls := .type "list", dict := none, data := .seq ys c, slots := #[] }) : ∀ t ∈ ts, t.1 ≠ S ∧ t.2.1 ≠ S := fun t ht => by
  obtain ⟨⟨o, ho, hc, _⟩, ⟨o2, ho2, hc2, _⟩⟩ := x t ht
  constructor
  · intro e
    rw [e, hS] at ho
    cases ho
    exact absurd (show Value.type "list" = Value.type "tuple_iterator" from hc) (by decide)
  · intro e
    rw [e, hS] at ho2
    cases ho2
    exact absurd (show Value.type "list" = Value.type "tuple" from hc2) (by decide)
section
variable {prog : Program} {w : World} {A : Around} {E : Value → Shared → Prop} {s : Shared}
theorem pn_item {z TI TO : Addr} {ts : List Tr} {i : Nat} {Q : Option Value → Shared → Prop} (hne : ts ≠ []) (hsz : ts.length ≤ sizeLine) (nd : (ts.map (·.1)).Nodup) (hi : ∀ t ∈ ts, i < t.2.2.size) (st : ZSt s.heap z TI TO ts i)
    (hQ : ∀ h', ZSt h' z TI TO ts (i + 1) → IsArr h' s.heap.objs.size (row ts i).toArray → h'.objs.size = s.heap.objs.size + 1 →
      (∀ c o, c ≠ z → c ≠ TO → c ∉ ts.map (·.1) → s.heap.get? c = some o → h'.get? c = some o) → Q (some (.ref s.heap.objs.size)) { s with heap := h' }) :
    wpAny (model prog w) A (pyNext (.ref z)) Q E s := by
  have TIit : ∀ {f0 : Value}, (∃ o, s.heap.get? z = some o ∧ o.cls = .type "zip") → TI ≠ z ∧ TI ∉ ts.map (·.1) := fun hz => by
    obtain ⟨o, ho, hc⟩ := hz
    constructor
    · intro e
      have := st.ti
      rw [e, IsArr, ho] at this
      cases this
      exact absurd (show Value.type "tuple" = Value.type "zip" from hc) (by decide)
    · intro q
      obtain ⟨t, ht, e⟩ := List.mem_map.mp q
      exact iter_ne_tuple (st.at_ t ht).1 ⟨_, st.ti, rfl, _, rfl⟩ e.symm
  rcases st.st with ⟨rfl, hTT, hz, ⟨arr, hTO, hs⟩, hnl⟩ | ⟨_, T, f, xs, hz, hT⟩
  · have hTy : s.TypeIs (.ref z) "zip" := ⟨_, hz, rfl⟩
    obtain ⟨n1, n2⟩ := TIit (f0 := .none) ⟨_, hz, rfl⟩
    unfold pyNext
    exact wpAny_bind (wpAny_attempt (wpAny_callSpecial?_slot (name := Str.ofString "__next__") hTy F.slot_zip_next
        (wpAny_call_entry F.slot_zip_next hTy F.entry_zip_next
          (next_first hne hz st.ti hTO hs hsz nd st.at_ hi hnl fun h' a1 a2 a3 a4 a5 => wpAny_pure (hQ h' ⟨a5 _ _ n1 hTT n2 st.ti, a2, .inr ⟨hne, _, _, _, a1, a3⟩⟩ a3 a4 a5)) (F.args_zip_next_1 _))))
  · have hTy : s.TypeIs (.ref z) "zip" := ⟨_, hz, rfl⟩
    obtain ⟨n1, n2⟩ := TIit (f0 := .none) ⟨_, hz, rfl⟩
    have m1 : T ≠ z := fun e => by
      subst e
      rw [IsArr, hz] at hT
      have := congrArg (fun o => o.map Obj.cls) hT
      simp at this
    have m2 : T ∉ ts.map (·.1) := fun q => by
      obtain ⟨t, ht, e⟩ := List.mem_map.mp q
      exact iter_ne_tuple (st.at_ t ht).1 ⟨_, hT, rfl, _, rfl⟩ e.symm
    unfold pyNext
    exact wpAny_bind (wpAny_attempt (wpAny_callSpecial?_slot (name := Str.ofString "__next__") hTy F.slot_zip_next
      (wpAny_call_entry F.slot_zip_next hTy F.entry_zip_next
        (next_held hne hz st.ti hT hsz nd st.at_ hi fun h' a1 a2 a3 a4 a5 => wpAny_pure (hQ h' ⟨a5 _ _ n1 n2 st.ti, a2, .inr ⟨hne, _, _, _, a1, a5 _ _ m1 m2 hT⟩⟩ a3 a4 fun c o c1 _ c3 e => a5 c o c1 c3 e)) (F.args_zip_next_1 _))))
theorem pn_end {z TI TO : Addr} {ts : List Tr} {m : Nat} {Q : Option Value → Shared → Prop} (hh : A.handled = none) (hm : (ts = [] ∧ m = 0) ∨ (ts ≠ [] ∧ 0 < m)) (hi : ∀ t ∈ ts, t.2.2.size ≤ m) (st : ZSt s.heap z TI TO ts m)
    (hQ : ∀ h', (∀ c o, c ≠ z → c ∉ ts.map (·.1) → s.heap.get? c = some o → h'.get? c = some o) → Q none { s with heap := h' }) : wpAny (model prog w) A (pyNext (.ref z)) Q E s := by
  have fin : ∀ {h' : Heap} {e : Addr}, (∃ o, h'.get? e = some o ∧ o.cls = .type "StopIteration") → Q none { s with heap := h' } → wpAny (model prog w) A (do if ← isInstance (.ref e) (.type "StopIteration") then pure none else throw (.ref e)) Q E { s with heap := h' } := fun he q => by
    obtain ⟨o, ho, hc⟩ := he
    refine wpAny_bind (wpAny_isInstance (T := "StopIteration") (b := true) ⟨o, ho, hc⟩ isSubtype_stop ?_)
    exact wpAny_pure q
  rcases st.st with ⟨e, _, hz, _, _⟩ | ⟨hne, T, f, xs, hz, hT⟩
  · rcases hm with ⟨rfl, _⟩ | ⟨_, h0⟩
    · have hTy : s.TypeIs (.ref z) "zip" := ⟨_, hz, rfl⟩
      unfold pyNext
      refine wpAny_bind (wpAny_attempt (wpAny_callSpecial?_slot (name := Str.ofString "__next__") hTy F.slot_zip_next
        (wpAny_call_entry F.slot_zip_next hTy F.entry_zip_next (next_none hh hz st.ti fun h' e hk he => ?_) (F.args_zip_next_1 _))))
      exact fin he (hQ h' fun c o _ _ x => hk c o x)
    · omega
  · have hTy : s.TypeIs (.ref z) "zip" := ⟨_, hz, rfl⟩
    unfold pyNext
    refine wpAny_bind (wpAny_attempt (wpAny_callSpecial?_slot (name := Str.ofString "__next__") hTy F.slot_zip_next
      (wpAny_call_entry F.slot_zip_next hTy F.entry_zip_next (next_end hh hne hz st.ti hT st.at_ hi fun h' e hk he => ?_) (F.args_zip_next_1 _))))
    exact fin he (hQ h' hk)
end
end ZN
set_option Elab.async false
set_option linter.all false
set_option maxRecDepth 100000
set_option maxHeartbeats 2000000
namespace ZN
open PySem
open PySem.Sem (wp)
section
variable {prog : Program} {w : World} {A : Around} {E : Value → Shared → Prop} {s : Shared}
theorem hint_zip {r : Addr} {Q : Bool → Shared → Prop} (hT : s.TypeIs (.ref r) "zip") (h : Q true s) : wpAny (model prog w) A (Builtin.List.listLengthHint (.ref r)) Q E s := by
  unfold Builtin.List.listLengthHint
  refine wpAny_bind (wpAny_specialOf hT zip_no_len ?_)
  show wpAny _ _ (specialOf (Value.ref r) (Str.ofString "__length_hint__") >>= _) _ _ _
  refine wpAny_bind (wpAny_specialOf hT zip_no_hint ?_)
  exact wpAny_pure h
end
section
variable {prog : Program} {w : World} {A : Around} {s : Shared} {R : Result → Shared → Prop}
theorem zn_loop {S z TI TO : Addr} {ts : List Tr} {m : Nat} (hh : A.handled = none) (hSz : S ≠ z) (hST : TO ≠ S) (hST2 : TI ≠ S) (hm : (ts = [] ∧ m = 0) ∨ (ts ≠ [] ∧ 0 < m)) (hi : ∀ t ∈ ts, t.2.2.size = m) (hn : m ≤ sizeLine) (hsz : ts.length ≤ sizeLine) (nd : (ts.map (·.1)).Nodup) (lo : Addr) (res : Value) {h₁ : Heap}
    (hlo : ∀ c, c = z ∨ c = TO ∨ c ∈ ts.map (·.1) ∨ c = S → c ≤ lo)
    (hR : ∀ h' acc c as, (∀ b o, b ≠ S → b ≠ z → b ≠ TO → b ∉ ts.map (·.1) → h₁.get? b = some o → h'.get? b = some o) → h'.get? S = some { cls := .type "list", dict := none, data := .seq acc c, slots := #[] } → as.length = m → ZG ts lo h' as →
      acc.toList = as.map Value.ref → R (.ok (.ret res)) { s with heap := h' }) :
    ∀ (k i : Nat) (h : Heap) (c : Nat) (acc : Array Value) (as : List Addr), m - i = k → i ≤ m → ZSt h z TI TO ts i → (∀ b o, b ≠ S → b ≠ z → b ≠ TO → b ∉ ts.map (·.1) → h₁.get? b = some o → h.get? b = some o) →
      h.get? S = some { cls := .type "list", dict := none, data := .seq acc c, slots := #[] } → acc.toList = as.map Value.ref → as.length = i → ZG ts lo h as → lo < h.objs.size →
      codeAny (model prog w) A (.builtin "list.extend.loop" ⟨[.ref S, .ref z, res], []⟩) R { s with heap := h } := by
  have low : ∀ b : Nat, lo < b → b ≠ z ∧ b ≠ TO ∧ b ∉ ts.map (·.1) ∧ b ≠ S := fun b hb => by
    refine ⟨fun e => ?_, fun e => ?_, fun e => ?_, fun e => ?_⟩
    · exact absurd (hlo b (.inl e)) (Nat.not_le.mpr hb)
    · exact absurd (hlo b (.inr (.inl e))) (Nat.not_le.mpr hb)
    · exact absurd (hlo b (.inr (.inr (.inl e)))) (Nat.not_le.mpr hb)
    · exact absurd (hlo b (.inr (.inr (.inr e)))) (Nat.not_le.mpr hb)
  intro k
  induction k with
  | zero =>
    intro i h c acc as hk hi2 hst hkeep hS hacc hal hG hIs
    have hin : i = m := by omega
    subst hin
    refine codeAny_builtin PySem.F.entry_extend_loop ?_
    rw [Around.under_plainId PySem.F.plain_extend_loop _]
    show wpAny _ A.in1 (pyNext (.ref z) >>= _) _ _ _
    have nS := hst.at_.ne_list hS
    refine wpAny_bind (pn_end (s := { s with heap := h }) (A := A.in1) hh hm (fun t ht => Nat.le_of_eq (hi t ht)) hst fun h' he => ?_)
    refine wpAny_pure (hR h' acc c as (fun b o h1 h2 h3 h4 e => he b o h2 h4 (hkeep b o h1 h2 h3 h4 e)) (he S _ hSz (fun q => ?_) hS) hal ⟨hG.rise, hG.above, fun j a hj => ?_⟩ hacc)
    · obtain ⟨t, ht, e⟩ := List.mem_map.mp q
      exact (nS t ht).1 e
    · obtain ⟨l1, l2, l3, l4⟩ := low a (hG.above a (List.mem_of_getElem? hj))
      exact he a _ l1 l3 (hG.tup j a hj)
  | succ k ih =>
    intro i h c acc as hk hi2 hst hkeep hS hacc hal hG hIs
    have hlt : i < m := by omega
    have hne : ts ≠ [] := by
      rcases hm with ⟨_, e⟩ | ⟨e, _⟩
      · omega
      · exact e
    have hsz2 : acc.size = i := by rw [← Array.length_toList, hacc, List.length_map, hal]
    refine codeAny_builtin PySem.F.entry_extend_loop ?_
    rw [Around.under_plainId PySem.F.plain_extend_loop _]
    show wpAny _ A.in1 (pyNext (.ref z) >>= _) _ _ _
    have nS := hst.at_.ne_list hS
    refine wpAny_bind (pn_item (s := { s with heap := h }) hne hsz nd (fun t ht => by rw [hi t ht]; exact hlt) hst fun h' hst' ht hz hkp => ?_)
    dsimp only at ht hz hkp ⊢
    have hSit : S ∉ ts.map (·.1) := fun q => by
      obtain ⟨t, ht, e⟩ := List.mem_map.mp q
      exact (nS t ht).1 e
    have hS' := hkp S _ hSz (Ne.symm hST) hSit hS
    have up : ∀ b o, b ≠ S → h'.get? b = some o → (h'.update S (Obj.mapSeq (·.push (Value.ref h.objs.size)))).get? b = some o := fun b o hb e => (Heap.get?_update_other _ _ (Ne.symm hb)).trans e
    have nS' := hst'.at_.ne_list hS'
    obtain ⟨l1, l2, l3, l4⟩ := low h.objs.size hIs
    have hst2 : ZSt (h'.update S (Obj.mapSeq (·.push (Value.ref h.objs.size)))) z TI TO ts (i + 1) := by
      refine ⟨up _ _ hST2 hst'.ti, AtI.ext hst'.at_ (fun t ht o e => up _ o (nS' t ht).1 e) (fun t ht o e => up _ o (nS' t ht).2 e), ?_⟩
      rcases hst'.st with ⟨e, _⟩ | ⟨e, T, f, xs, q1, q2⟩
      · omega
      · exact .inr ⟨e, T, f, xs, up _ _ (Ne.symm hSz) q1, up _ _ (arr_ne_list hS' q2) q2⟩
    show wpAny _ A.in1 (updateSeq S (·.push (Value.ref h.objs.size)) >>= _) _ _ _
    refine wpAny_bind ?_
    refine wpAny_updateSeq hS' rfl (wpAny_pure ⟨plainId_quiet PySem.F.plain_extend_loop _, ih (i + 1) _ _ (acc.push (Value.ref h.objs.size)) (as ++ [h.objs.size]) (by omega) hlt hst2
      (fun b o h1 h2 h3 h4 e => up b o h1 (hkp b o h2 h3 h4 (hkeep b o h1 h2 h3 h4 e))) (Heap.get?_update_self _ hS' rfl) (by rw [Array.toList_push, hacc, List.map_append]; rfl) (by rw [List.length_append, hal]; rfl) ⟨?_, ?_, ?_⟩ ?_⟩) (by rw [hsz2]; omega) (by show (acc.push (Value.ref h.objs.size)).size ≤ sizeLine + 1; rw [Array.size_push, hsz2]; omega)
    · refine List.pairwise_append.mpr ⟨hG.rise, List.pairwise_singleton _ _, fun a ha b hb => ?_⟩
      rw [List.mem_singleton.mp hb]
      exact hG.there ha
    · intro a ha
      rcases List.mem_append.mp ha with ha | ha
      · exact hG.above a ha
      · rw [List.mem_singleton.mp ha]; exact hIs
    · intro j b hj
      rcases Nat.lt_trichotomy j as.length with h1 | h1 | h1
      · rw [List.getElem?_append_left h1] at hj
        obtain ⟨r1, r2, r3, r4⟩ := low b (hG.above b (List.mem_of_getElem? hj))
        exact up b _ r4 (hkp b _ r1 r2 r3 (hG.tup j b hj))
      · subst h1
        have hb : h.objs.size = b := by simpa using hj
        subst hb
        rw [hal]
        exact up _ _ l4 ht
      · have hnone : (as ++ [h.objs.size])[j]? = none := List.getElem?_eq_none (by rw [List.length_append, List.length_singleton]; omega)
        rw [hnone] at hj; cases hj
    · have e : (h'.update S (Obj.mapSeq (·.push (Value.ref h.objs.size)))).get? h.objs.size = _ := up _ _ l4 ht
      exact Nat.lt_trans hIs (Heap.lt_size e)
end
theorem ZSt.step {h0 h h' : Heap} {z TI TO S : Addr} {ts : List Tr} (hz : IsZip h0 z TI TO .none) (k0 : ∀ b o, h0.get? b = some o → h.get? b = some o) (k : ∀ b o, b ≠ S → h.get? b = some o → h'.get? b = some o) (nz : z ≠ S) (nTI : TI ≠ S) (nTO : TO ≠ S) (nit : ∀ t ∈ ts, t.1 ≠ S ∧ t.2.1 ≠ S) (x : ZSt h z TI TO ts 0) : ZSt h' z TI TO ts 0 := by
  refine ⟨k _ _ nTI x.ti, AtI.ext x.at_ (fun t ht o e => k _ o (nit t ht).1 e) (fun t ht o e => k _ o (nit t ht).2 e), ?_⟩
  rcases x.st with ⟨e, t1, q1, ⟨a, q2, q3⟩, q4⟩ | ⟨e, T, f, xs, q1, q2⟩
  · exact .inl ⟨e, t1, k _ _ nz q1, ⟨a, k _ _ nTO q2, q3⟩, q4⟩
  · have b := k0 _ _ hz
    rw [q1] at b
    have := congrArg (fun o => o.map Obj.data) b
    simp [rawInt] at this
section
variable {prog : Program} {w : World} {A : Around} {E : Value → Shared → Prop} {s : Shared}
theorem call_list_zip {z TI TO S : Addr} {ts : List Tr} {m : Nat} {Q : Value → Shared → Prop} (hSS : s.heap.objs.size = S) (hh : A.handled = none) (hm : (ts = [] ∧ m = 0) ∨ (ts ≠ [] ∧ 0 < m)) (hi : ∀ t ∈ ts, t.2.2.size = m) (hn : m ≤ sizeLine) (hsz : ts.length ≤ sizeLine) (nd : (ts.map (·.1)).Nodup) (hst : ZSt s.heap z TI TO ts 0)
    (hz : IsZip s.heap z TI TO .none) (hTO : ∃ arr, IsArr s.heap TO arr)
    (hQ : ∀ h' acc c as, (∀ b o, b ≠ z → b ≠ TO → b ∉ ts.map (·.1) → s.heap.get? b = some o → h'.get? b = some o) → h'.get? S = some { cls := .type "list", dict := none, data := .seq acc c, slots := #[] } → as.length = m → ZG ts S h' as →
      acc.toList = as.map Value.ref → Q (.ref S) { s with heap := h' }) :
    wpAny (model prog w) A (call (.type "list") [.ref z]) Q E s := by
  obtain ⟨arr, hTO⟩ := hTO
  refine callType_codes (Q₁ := fun obj s₁ => obj = .ref S ∧ s₁ = { s with heap := s.heap.push { cls := .type "list", data := .seq #[] } }) PySem.F.called_list (PySem.F.typeCall_list_1 _) PySem.F.entry_list_init
    (code_list_new _ ⟨by rw [hSS], rfl⟩) fun obj s₁ h₁ => ?_
  obtain ⟨rfl, rfl⟩ := h₁
  have lt : ∀ {b o}, s.heap.get? b = some o → b < S := fun e => by rw [← hSS]; exact Heap.lt_size e
  have zl : z < S := lt hz
  have TOl : TO < S := lt hTO
  have TIl : TI < S := lt hst.ti
  have nit : ∀ t ∈ ts, t.1 < S ∧ t.2.1 < S := fun t ht => by
    obtain ⟨⟨o, ho, _⟩, ⟨o2, ho2, _⟩⟩ := hst.at_ t ht
    exact ⟨lt ho, lt ho2⟩
  have nit2 : ∀ t ∈ ts, t.1 ≠ S ∧ t.2.1 ≠ S := fun t ht => ⟨Nat.ne_of_lt (nit t ht).1, Nat.ne_of_lt (nit t ht).2⟩
  have nz : z ≠ S := Nat.ne_of_lt zl
  have nTO : TO ≠ S := Nat.ne_of_lt TOl
  have nTI : TI ≠ S := Nat.ne_of_lt TIl
  have hS : (s.heap.push { cls := .type "list", data := .seq #[] }).get? S = some { cls := .type "list", data := .seq #[] } := by rw [← hSS]; exact Heap.get?_push_size _ rfl
  have kp0 : ∀ b o, s.heap.get? b = some o → (s.heap.push { cls := .type "list", data := .seq #[] }).get? b = some o := fun b o e => Heap.get?_push_of_some _ e
  have st0 : ZSt (s.heap.push { cls := .type "list", data := .seq #[] }) z TI TO ts 0 := ZSt.step (S := S) hz (fun _ _ e => e) (fun b o _ e => kp0 b o e) nz nTI nTO nit2 hst
  refine ⟨⟨_, hS, rfl⟩, PySem.F.args_list_init_2 _ _, ?_⟩
  show wpAny _ _ (do let old ← Builtin.List.listItems (.ref S); Builtin.List.listUpdate (.ref S) (fun _ => #[]); letGo old.toList.reverse; Builtin.List.listExtendWith (.ref S) (.ref z) .none) _ _ _
  refine wpAny_bind ?_
  unfold Builtin.List.listItems
  refine wpAny_bind (wpAny_seqItems hS rfl (wpAny_pure ?_))
  show wpAny _ _ (updateSeq S (fun _ => #[]) >>= fun _ => letGo (#[] : Array Value).toList.reverse >>= fun _ => Builtin.List.listExtendWith (.ref S) (.ref z) .none) _ _ _
  refine wpAny_bind (wpAny_updateSeq hS rfl ?_)
  have hS₂ := Heap.get?_update_self (Obj.mapSeq (fun _ => (#[] : Array Value))) hS rfl
  have oth : ∀ b o, b ≠ S → (s.heap.push { cls := .type "list", data := .seq #[] }).get? b = some o → ((s.heap.push { cls := .type "list", data := .seq #[] }).update S (Obj.mapSeq (fun _ => (#[] : Array Value)))).get? b = some o :=
    fun b o hb e => (Heap.get?_update_other _ _ (Ne.symm hb)).trans e
  refine wpAny_bind (wpAny_letGo ?_)
  have st1 := ZSt.step hz kp0 oth nz nTI nTO nit2 st0
  have kp1 : ∀ b o, s.heap.get? b = some o → ((s.heap.push { cls := .type "list", data := .seq #[] }).update S (Obj.mapSeq (fun _ => (#[] : Array Value)))).get? b = some o := fun b o e => oth b o (Nat.ne_of_lt (lt e)) (kp0 b o e)
  have hz2 := kp1 _ _ hz
  dsimp only
  generalize ((s.heap.push { cls := .type "list", data := .seq #[] }).update S (Obj.mapSeq (fun _ => (#[] : Array Value)))) = g2 at hS₂ oth st1 kp1 hz2 ⊢
  unfold Builtin.List.listExtendWith
  refine wpAny_bind (wpAny_typeOf (T := "zip") ⟨_, hz2, rfl⟩ ?_)
  have h1 : Builtin.List.listSameRef (.ref S) (.ref z) = false := by simp [Builtin.List.listSameRef, Ne.symm nz]
  have h2 : (Value.type "zip" == Value.type "list") = false := by decide
  have h3 : (Value.type "zip" == Value.type "tuple") = false := by decide
  simp only [h1, h2, h3, Bool.or_false, Bool.false_eq_true, if_false]
  refine wpAny_bind (wpAny_pyIter_zip hz2 ?_)
  refine wpAny_bind (wpAny_holding (hint_zip ⟨_, hz2, rfl⟩ ?_))
  simp only [Bool.true_or, if_true]
  refine wpAny_bind (wpAny_rule ?_)
  refine wpAny_bind ?_
  show wpAny _ _ (updateSeq S (·.push .none) >>= fun _ => updateSeq S (·.pop)) _ _ _
  refine wpAny_bind (wpAny_updateSeq hS₂ rfl ?_)
  have hS₃ := Heap.get?_update_self (Obj.mapSeq (·.push Value.none)) hS₂ rfl
  refine wpAny_updateSeq (hz := by seq_fits) hS₃ rfl ?_
  have hS₄ := Heap.get?_update_self (Obj.mapSeq (·.pop)) hS₃ rfl
  have oth2 : ∀ b o, b ≠ S → g2.get? b = some o → ((g2.update S (Obj.mapSeq (·.push Value.none))).update S (Obj.mapSeq (·.pop))).get? b = some o :=
    fun b o hb e => (Heap.get?_update_other _ _ (Ne.symm hb)).trans ((Heap.get?_update_other _ _ (Ne.symm hb)).trans e)
  have st2 := ZSt.step hz kp1 oth2 nz nTI nTO nit2 st1
  refine wpAny_pure ⟨plainId_quiet PySem.F.plain_extend_loop _, ?_⟩
  refine zn_loop (A := A.in1) (s := s) (h₁ := s.heap) (R := wants (fun r s₂ => r = .none ∧ Q (.ref S) s₂) E) hh (Ne.symm nz) nTO nTI hm hi hn hsz nd S .none (fun c hc => ?_) (fun h' acc c as hk hS' hl hG hacc => ?_) m 0 _ _ #[] [] (Nat.sub_zero _) (Nat.zero_le _) st2 (fun b o h1 h2 h3 h4 e => oth2 b o h1 (kp1 b o e)) hS₄ rfl rfl
      ⟨List.Pairwise.nil, (fun _ ha => nomatch ha), (fun j a hj => by simp at hj)⟩ ?_
  · rcases hc with e | e | e | e
    · rw [e]; exact Nat.le_of_lt zl
    · rw [e]; exact Nat.le_of_lt TOl
    · obtain ⟨t, ht, q⟩ := List.mem_map.mp e
      rw [← q]; exact Nat.le_of_lt (nit t ht).1
    · rw [e]; exact Nat.le_refl _
  · exact ⟨rfl, hQ h' acc c as (fun b o h2 h3 h4 e => hk b o (Nat.ne_of_lt (lt e)) h2 h3 h4 e) hS' hl hG hacc⟩
  · exact Heap.lt_size hS₄
end
end ZN
namespace ZN
open PySem PySem.Spec PyProof.Rows L2
/-! ### the expression list(zip( *e)) -/
theorem off_nat (b n k c : Nat) (h : b < n) (e : b = n + k + c) : False := by omega
theorem rfs_range : ∀ n k, rfs n k = (List.range' n k).map Value.ref
  | _, 0 => rfl
  | n, k + 1 => by rw [rfs, rfs_range (n + 1) k, List.range'_succ, List.map_cons]
section
variable {X : Cx} {pins : List (Addr × Obj)} {σ : L2.St} {H : Hp} {s : Shared}
theorem mk_ts (I : Inv X pins σ H s) (m : Nat) : ∀ {rs : List Addr} {rows : List (List V)}, Paired (fun (r : Addr) (row : List V) => SqT X.K H r row ∧ row.length = m) rs rows → ∀ n : Nat, ∃ ts : List Tr,
    (ts.map (·.1)) = List.range' n rs.length ∧ (∀ j t, ts[j]? = some t → t.1 = n + j ∧ rs[j]? = some t.2.1) ∧ (∀ t ∈ ts, s.heap.IsTuple t.2.1 t.2.2 ∧ t.2.2.size = m) ∧ ∀ i, i < m → Vals (rows.map fun r => r.getD i .non) (row ts i)
  | [], [], .nil, n => ⟨[], rfl, (fun j t h => by simp at h), (fun _ h => nomatch h), (fun _ _ => Paired.nil)⟩
  | r :: rs, rw_ :: rows, .cons ⟨h1, h2⟩ t, n => by
    obtain ⟨ts, e1, e2, e3, e4⟩ := mk_ts I m t (n + 1)
    obtain ⟨its, rv, p, hz⟩ := I.tuple h1
    have hl := rv.length
    refine ⟨(n, r, its.toArray) :: ts, ?_, fun j t h => ?_, fun t h => ?_, fun i hi => ?_⟩
    · rw [List.map_cons, e1, List.length_cons, List.range'_succ]
    · cases j with
      | zero =>
        cases (Option.some.inj h : (n, r, its.toArray) = t)
        exact ⟨rfl, rfl⟩
      | succ j =>
        obtain ⟨a, b⟩ := e2 j t (by simpa using h)
        exact ⟨by rw [a]; omega, by simpa using b⟩
    · rcases List.mem_cons.mp h with rfl | h
      · exact ⟨p, by rw [List.size_toArray]; omega⟩
      · exact e3 t h
    · show Vals (rw_.getD i .non :: rows.map fun r => r.getD i .non) ((its.toArray.getD i .none) :: row ts i)
      have hlt : i < rw_.length := by omega
      have g1 : rw_.getD i .non = rw_[i] := by rw [List.getD_eq_getElem?_getD, List.getElem?_eq_getElem hlt] <;> rfl
      obtain ⟨u, hu, ru⟩ := rv.get (List.getElem?_eq_getElem hlt)
      have hlt2 : i < its.length := by omega
      have g2 : its.toArray.getD i .none = u := by
        have : its[i] = u := by
          rw [List.getElem?_eq_getElem hlt2] at hu
          exact Option.some.inj hu
        simp [Array.getD, hlt2, this]
      rw [g1, g2]
      exact .cons ru (e4 i hi)
/-- tuples tracked at their addresses -/
def putR : Hp → List Addr → List (List V) → Hp
  | H, a :: as, p :: ps => putR (upd H a (.tup p)) as ps
  | H, _, _ => H
theorem putR_off {b : Addr} : ∀ (as : List Addr) (ps : List (List V)) (H : Hp), b ∉ as → putR H as ps b = H b
  | [], _, _, _ => rfl
  | _ :: _, [], _, _ => rfl
  | a :: as, p :: ps, H, h => by
    show putR (upd H a (.tup p)) as ps b = H b
    rw [putR_off as ps _ (fun z => h (List.mem_cons_of_mem _ z)), upd_ne (fun z => h (by rw [z]; exact List.mem_cons_self))]
theorem putR_at : ∀ (as : List Addr) (ps : List (List V)) (H : Hp), as.length = ps.length → as.Nodup → ∀ (j : Nat) (a : Addr) (p : List V), as[j]? = some a → ps[j]? = some p → putR H as ps a = some (.tup p)
  | [], _, _, _, _, _, _, _, e, _ => by simp at e
  | _ :: _, [], _, h, _, _, _, _, _, _ => by cases h
  | a :: as, p :: ps, H, h, hn, j, a', p', e1, e2 => by
    have hn' := List.nodup_cons.mp hn
    cases j with
    | zero =>
      cases (Option.some.inj e1 : a = a')
      cases (Option.some.inj e2 : p = p')
      show putR (upd H a (.tup p)) as ps a = _
      rw [putR_off as ps _ hn'.1, upd_same]
    | succ j => exact putR_at as ps _ (Nat.succ.inj h) hn'.2 j a' p' (by simpa using e1) (by simpa using e2)
theorem vals_refs : ∀ as : List Addr, Vals (as.map V.ref) (as.map Value.ref)
  | [] => .nil
  | _ :: as => .cons rfl (vals_refs as)
theorem vals_refs_inv : ∀ {as : List Addr} {us : List Value}, Vals (as.map V.ref) us → us = as.map Value.ref
  | [], _, .nil => rfl
  | a :: as, _, .cons r t => by
    cases r
    rw [vals_refs_inv t]
    rfl
/-- the columns of rows of m things -/
def cols (rows : List (List V)) (m : Nat) : List (List V) := (List.range m).map fun i => rows.map fun r => r.getD i .non
theorem cols_laid {h' : Heap} {ts : List Tr} {rows : List (List V)} {m : Nat} {acc : Array Value} {c : Nat} {as : List Addr} {S : Addr} (I : Inv X pins σ H s) (hS0 : s.heap.objs.size ≤ S) (hz : m ≤ sizeLine) (hz2 : rows.length ≤ sizeLine) (kv : ∀ i, i < m → Vals (rows.map fun r => r.getD i .non) (row ts i))
    (hk : ∀ b o, s.heap.get? b = some o → h'.get? b = some o) (hS : h'.get? S = some { cls := .type "list", dict := none, data := .seq acc c, slots := #[] }) (hl : as.length = m) (hG : ZG ts S h' as) (hacc : acc.toList = as.map Value.ref) :
    ∃ H' : Hp, (∀ b o, H b = some o → H' b = some o) ∧ H S = none ∧ (∀ t ∈ as, H t = none) ∧ S ∉ as ∧ as.Nodup ∧ H' S = some (.lst (as.map V.ref)) ∧ (∀ (j : Nat) (a : Addr), as[j]? = some a → H' a = some (.tup (rows.map fun r => r.getD j .non))) ∧ Inv X pins σ H' { s with heap := h' } := by
  have hSn : S ∉ as := fun z => Nat.lt_irrefl _ (hG.above _ z)
  have nd : as.Nodup := List.Pairwise.imp (fun {a b} (h : a < b) => Nat.ne_of_lt h) hG.rise
  have new : ∀ t ∈ as, H t = none := fun t ht => I.hok.fresh (Nat.le_trans hS0 (Nat.le_of_lt (hG.above t ht)))
  have newS : H S = none := I.hok.fresh hS0
  have atP : ∀ (j : Nat) (a : Addr), as[j]? = some a → putR (upd H S (.lst (as.map V.ref))) as (cols rows m) a = some (.tup (rows.map fun r => r.getD j .non)) := fun j a ha => by
    have hj : j < m := by
      rw [← hl]
      exact (List.getElem?_eq_some_iff.mp ha).1
    refine putR_at as (cols rows m) _ (by rw [hl]; simp [cols]) nd j a _ ha ?_
    rw [cols, List.getElem?_map, List.getElem?_range hj]
    rfl
  have off : ∀ b, b ∉ as → b ≠ S → putR (upd H S (.lst (as.map V.ref))) as (cols rows m) b = H b := fun b h1 h2 => by rw [putR_off as _ _ h1, upd_ne h2]
  have low : ∀ b o, s.heap.get? b = some o → b ∉ as ∧ b ≠ S := fun b o e => ⟨fun z => absurd (Heap.lt_size e) (Nat.not_lt.mpr (Nat.le_trans hS0 (Nat.le_of_lt (hG.above b z)))), Nat.ne_of_lt (Nat.lt_of_lt_of_le (Heap.lt_size e) hS0)⟩
  have kp : ∀ b u, H b = some u → (putR (upd H S (.lst (as.map V.ref))) as (cols rows m)) b = some u := fun b u e => by
    rw [off b (fun z => by rw [new b z] at e; cases e) (fun z => by rw [z, newS] at e; cases e)]
    exact e
  have eS : putR (upd H S (.lst (as.map V.ref))) as (cols rows m) S = some (.lst (as.map V.ref)) := by rw [putR_off as _ _ hSn, upd_same]
  refine ⟨putR (upd H S (.lst (as.map V.ref))) as (cols rows m), kp, newS, new, hSn, nd, eS, atP, ?_⟩
  refine I.call' (ch := []) rfl ⟨fun b o q _ _ _ => hk b o q, fun b o q _ _ _ => ⟨o.slots, hk b o q⟩, fun b o q n _ => ?_, fun b o q _ => ⟨o, hk b o q⟩, fun b xs q => kp b _ q, fun b o u q => kp b _ q, fun b ps q => ⟨#[], by rw [kp b _ q]; simp⟩⟩ (fun b u q => ?_) I.bare fun b z => by simp at z
  · obtain ⟨z1, z2⟩ := low b o q
    rw [off b z1 z2]
    exact n
  · by_cases hb : b ∈ as
    · obtain ⟨j, hj⟩ := List.mem_iff_getElem?.mp hb
      have e3 := atP j b hj
      have hjm : j < m := by
        rw [← hl]
        exact (List.getElem?_eq_some_iff.mp hj).1
      rw [e3] at q
      cases q
      exact ⟨by rw [List.length_map]; exact hz2, row ts j, kv j hjm, ⟨_, hG.tup j b hj, rfl, _, rfl⟩⟩
    · by_cases hb2 : b = S
      · rw [hb2] at q ⊢
        rw [eS] at q
        cases q
        refine ⟨by rw [List.length_map]; omega, acc.toList, c, by rw [hacc]; exact vals_refs as, ?_⟩
        rw [Array.toArray_toList]
        exact hS
      · rw [off b hb hb2] at q
        exact (I.hok b u q).stay (fun d v _ y => hk d v y) (fun d y => kp d _ y) fun d xs y => kp d _ y
end
def tListZip (K : PySem.W.Frag) (te : TE) : TE := fun σ H Q => te σ H fun x H1 => ∃ (p : Addr) (rs : List Addr) (rows : List (List V)) (m : Nat), x = V.ref p ∧ (SqT K H1 p (rs.map V.ref) ∨ SqL K H1 p (rs.map V.ref)) ∧ Paired (fun (r : Addr) (row : List V) => SqT K H1 r row ∧ row.length = m) rs rows ∧ ((rs = [] ∧ m = 0) ∨ (rs ≠ [] ∧ 0 < m)) ∧ m ≤ sizeLine ∧ rs.length ≤ sizeLine ∧
  ∀ (H' : Hp) (l : Addr) (as : List Addr), (∀ b o, H1 b = some o → H' b = some o) → H1 l = none → (∀ t ∈ as, H1 t = none) → l ∉ as → as.Nodup → H' l = some (.lst (as.map V.ref)) → as.length = m → (∀ (j : Nat) (a : Addr), as[j]? = some a → H' a = some (.tup (rows.map fun r => r.getD j .non))) → Q (.ref l) H'
section
variable {X : Cx} {e : Expr} {te : TE} {p p2 sp q pos : Pos}
theorem pe_listZip (hc : X.calm = true) (he : PE X e te) (hg : Gl X "list") (hm : X.mg "list" = none) (hv : bootBuiltins "list" = some (.type "list")) (hg2 : Gl X "zip") (hm2 : X.mg "zip" = none) (hv2 : bootBuiltins "zip" = some (.type "zip"))
    (hs : starEach [.Call (.Name "zip" p2) [.Starred e sp] [] q] X.env = (false, eval (.Call (.Name "zip" p2) [.Starred e sp] [] q) X.env) :: starEach [] X.env := by rfl) (hst : starEach [.Starred e sp] X.env = [(true, eval e X.env)] := by rfl) :
    PE X (.Call (.Name "list" p) [.Call (.Name "zip" p2) [.Starred e sp] [] q] [] pos) (tListZip X.K te) := by
  refine ⟨fun pins s σ H Q I h => ?_⟩
  refine wpAny_Call_Name_kw (ld_blt I hg hm hv ?_)
  refine PyProof.Rows.callWith_type1 ?_ hs rfl
  rw [hs]
  show wpAny _ _ (spliced ((false, eval (.Call (.Name "zip" p2) [.Starred e sp] [] q) X.env) :: backTo pos (starEach [] X.env))) _ _ s
  refine Calls.spliced_cons ?_
  refine wpAny_Call_Name_kw (ld_blt I hg2 hm2 hv2 ?_)
  rw [hst]
  refine PySem.W.ks_call (P := fun _ => True) rfl (fun _ _ => ⟨.machine, .inr (.inl rfl), PySem.W.Looks.of_pure rfl⟩) (PySem.W.ks_lone (thn (he.run pins s σ H _ I h) fun v s1 ⟨y, H1, I1, ry, a, rs, rows, m, ey, hx, hp, hmm, hz, hz2, qq⟩ => ?_))
  subst ey
  obtain rfl : v = Value.ref a := ry
  refine StX.star_any I1 hx fun us s2 I2 rv => ⟨trivial, ?_⟩
  rw [vals_refs_inv rv]
  obtain ⟨ts, t1, t2, t3, t4⟩ := mk_ts I2 m hp s2.heap.objs.size
  have tl : ts.length = rs.length := by rw [← List.length_map (f := (·.1)), t1, List.length_range']
  refine call_zip hz2 (fun l hl => ?_) fun h' hzz hTI hTO hits hsize hkeep => ?_
  · obtain ⟨j, hj⟩ := List.mem_iff_getElem?.mp hl
    have hjl : j < ts.length := by
      rw [tl]
      exact (List.getElem?_eq_some_iff.mp hj).1
    obtain ⟨_, b⟩ := t2 j _ (List.getElem?_eq_getElem hjl)
    rw [hj] at b
    cases b
    exact ⟨_, (t3 _ (List.getElem_mem hjl)).1⟩
  · refine Calls.spliced_nil ?_
    have refs : (ts.map fun t => Value.ref t.1) = rfs s2.heap.objs.size rs.length := by
      rw [rfs_range, ← t1, List.map_map]
      rfl
    have old : ∀ t ∈ ts, t.2.1 < s2.heap.objs.size := fun t ht => by
      obtain ⟨o, ho, _⟩ := (t3 t ht).1
      exact Heap.lt_size ho
    have hat : AtI h' ts 0 := fun t ht => by
      obtain ⟨j, hj⟩ := List.mem_iff_getElem?.mp ht
      obtain ⟨a1, a2⟩ := t2 j t hj
      have b := hits j _ a2
      rw [← a1] at b
      refine ⟨⟨_, b, rfl, rfl⟩, ?_⟩
      obtain ⟨o, ho, r⟩ := (t3 t ht).1
      exact ⟨o, hkeep _ _ ho, r⟩
    have st : ZSt h' (s2.heap.objs.size + rs.length + 2) (s2.heap.objs.size + rs.length) (s2.heap.objs.size + rs.length + 1) ts 0 := by
      refine ⟨by rw [IsArr, refs]; exact hTI, hat, .inl ⟨rfl, (fun e => Nat.ne_of_lt (Nat.lt_succ_self _) e), hzz, ⟨_, hTO, by rw [List.size_toArray, List.length_replicate, tl]⟩, fun t ht e => ?_⟩⟩
      have := old t ht
      rw [e] at this
      exact absurd this (by show ¬ ((s2.heap.objs.size + rs.length + 1 : Nat) < s2.heap.objs.size); omega)
    have hmm2 : (ts = [] ∧ m = 0) ∨ (ts ≠ [] ∧ 0 < m) := by
      rcases hmm with ⟨q1, q2⟩ | ⟨q1, q2⟩
      · left
        exact ⟨List.length_eq_zero_iff.mp (by rw [tl, q1]; rfl), q2⟩
      · right
        exact ⟨fun z => q1 (List.length_eq_zero_iff.mp (by rw [← tl, z]; rfl)), q2⟩
    refine call_list_zip (s := { s2 with heap := h' }) (S := s2.heap.objs.size + rs.length + 3) hsize (I2.ok.hd hc) hmm2 (fun t ht => (t3 t ht).2) hz (by rw [tl]; exact hz2) (by rw [t1]; exact List.nodup_range') st hzz ⟨_, hTO⟩ fun h'' acc c as hk hS hl hG hacc => ?_
    have hk2 : ∀ b o, s2.heap.get? b = some o → h''.get? b = some o := fun b o e => by
      have hb := Heap.lt_size e
      have hb' : (b : Nat) < s2.heap.objs.size := hb
      refine hk b o (fun z => ?_) (fun z => ?_) (fun z => ?_) (hkeep b o e)
      · exact off_nat _ _ _ 2 hb z
      · exact off_nat _ _ _ 1 hb z
      · rw [t1] at z
        exact Nat.not_lt.mpr (List.mem_range'_1.mp z).1 hb
    have rl : rows.length = rs.length := (Paired.length hp).symm
    obtain ⟨H', k1, k2, k3, k4, k5, k6, k7, J⟩ := cols_laid I2 (S := s2.heap.objs.size + rs.length + 3) (by show (s2.heap.objs.size : Nat) ≤ _; omega) hz (by rw [rl]; exact hz2) t4 hk2 hS hl hG hacc
    exact ⟨.ref _, H', J, rfl, qq H' _ as k1 k2 k3 k4 k5 k6 hl k7⟩
end
end ZN
set_option Elab.async false
set_option linter.all false
set_option maxRecDepth 100000
namespace R1
open PySem PySem.Spec PyProof.Rows L2
/-! ### the order of lists of ints -/
theorem lex_irrefl : ∀ ns : List Int, HT.lexLt ns ns = false
  | [] => rfl
  | x :: r => by rw [HT.lexLt_cons, if_pos rfl]; exact lex_irrefl r
theorem lex_asym : ∀ ns ms : List Int, HT.lexLt ns ms = true → HT.lexLt ms ns = false
  | [], [], h => by cases h
  | [], _ :: _, _ => rfl
  | _ :: _, [], h => by cases h
  | x :: r, y :: q, h => by
    rw [HT.lexLt_cons] at h ⊢
    by_cases e : x = y
    · rw [if_pos e] at h
      rw [if_pos e.symm]
      exact lex_asym r q h
    · rw [if_neg e] at h
      rw [if_neg (fun z => e z.symm)]
      have := of_decide_eq_true h
      exact decide_eq_false (by omega)
theorem lex_tr : ∀ x y z : List Int, HT.lexLt x y = false → HT.lexLt z x = false → HT.lexLt z y = false
  | [], [], z, _, h => h
  | [], _ :: _, _, h, _ => by cases h
  | _ :: _, _, [], _, h => by cases h
  | _ :: _, [], _ :: _, _, _ => rfl
  | x :: r, y :: q, z :: s, h1, h2 => by
    rw [HT.lexLt_cons] at h1 h2 ⊢
    by_cases e1 : x = y
    · rw [if_pos e1] at h1
      by_cases e2 : z = x
      · rw [if_pos e2] at h2
        rw [if_pos (e2.trans e1)]
        exact lex_tr r q s h1 h2
      · rw [if_neg e2] at h2
        have := of_decide_eq_false h2
        rw [if_neg (by omega)]
        exact decide_eq_false (by omega)
    · rw [if_neg e1] at h1
      have a1 := of_decide_eq_false h1
      by_cases e2 : z = x
      · rw [if_neg (by omega)]
        exact decide_eq_false (by omega)
      · rw [if_neg e2] at h2
        have a2 := of_decide_eq_false h2
        rw [if_neg (by omega)]
        exact decide_eq_false (by omega)

theorem swo_lexK {α : Type} (k : α → List Int) : SrtO.Swo fun v u => HT.lexLt (k v) (k u) :=
  ⟨fun x y h => lex_asym _ _ h, fun x y z h1 h2 => lex_tr _ _ _ h1 h2⟩
section
variable {prog : Program} {w : World} {A : Around} {E : Value → Shared → Prop} {s : Shared}
theorem kat_ints {Q : Bool → Shared → Prop} : ∀ (i : Nat) {vs us : List Value} {ns ms : List Int}, IntsAre vs ns → IntsAre us ms → Q (HT.lexLt ns ms) s → PySem.W.KatLex prog w A true (decide (ns.length < ms.length)) Q (vs.zip us) i s
  | i, _, _, [], [], .nil, .nil, q => q
  | i, _, _, [], m :: ms, .nil, .cons _ _ _, q => by
    have e : decide (([] : List Int).length < (m :: ms).length) = true := decide_eq_true (by simp)
    rw [e]
    exact q
  | i, _, _, _ :: _, [], .cons _ _ _, .nil, q => by
    rw [decide_eq_false (by simp)]
    exact q
  | i, _, _, n :: ns, m :: ms, .cons _ t r, .cons _ t' r', q => by
    refine PySem.W.kat_cons (SeqAt.EqAt.int_int _ _ _ _ prog w _ _ ?_)
    rw [HT.lexLt_cons] at q
    refine PySem.W.kat_go (fun e1 => ?_) (fun e1 => ?_)
    · have ex : n = m := by simpa using e1
      rw [if_pos ex] at q
      have z := kat_ints (Q := Q) (i + 1) r r' q
      refine PySem.W.kat_yes ?_
      have e2 : decide ((n :: ns).length < (m :: ms).length) = decide (ns.length < ms.length) := by simp
      rw [e2]
      exact z
    · have ex : ¬ n = m := by simpa using e1
      rw [if_neg ex] at q
      exact PySem.W.kat_no (TS.oneLt_ints _ q)
theorem firsts {h : Heap} : ∀ vs : List Value, (∀ v ∈ vs, ∃ ns, TS.TupInts h v ns ∧ ns ≠ []) → ∃ fs, PySem.W.KatTups h vs fs ∧ fs.length = vs.length ∧ ∀ f, f ∈ fs → ∃ n t, f = Value.int n t
  | [], _ => ⟨[], PySem.W.KatTups.nil, rfl, fun f hf => by simp at hf⟩
  | v :: vs, x => by
    obtain ⟨fs, k, hl, hi⟩ := firsts vs fun u hu => x u (List.mem_cons_of_mem _ hu)
    obtain ⟨ns, ⟨a, xs, rfl, ⟨o, ho, hc, n, hdt⟩, i⟩, hn⟩ := x v (List.mem_cons_self ..)
    obtain ⟨y, ys, e⟩ : ∃ y ys, xs.toList = y :: ys := by
      cases q : xs.toList with
      | nil =>
        rw [q] at i
        cases i
        exact absurd rfl hn
      | cons y ys => exact ⟨y, ys, rfl⟩
    obtain ⟨m, t, hy⟩ := i.all y (by rw [e]; exact List.mem_cons_self ..)
    refine ⟨y :: fs, PySem.W.KatTups.cons ho hc hdt ?_ k, by simp [hl], ?_⟩
    · have z := congrArg (fun l : List Value => l[0]?) e
      simpa using z
    · intro f hf
      rcases List.mem_cons.mp hf with rfl | hf
      · exact ⟨m, t, hy⟩
      · exact hi f hf
theorem tup_cmp {vs : List Value} {k : Value → List Int} (hp : ∀ v ∈ vs, TS.TupInts s.heap v (k v)) : SrtO.Cmp prog w A s (tuples' true) (fun p => p.1 ∈ vs) (SrtO.lt2 fun v u => HT.lexLt (k v) (k u)) := by
  intro p q hm hm'
  obtain ⟨a, xs, e1, ⟨o, ho, hc, n, hdt⟩, i⟩ := hp _ hm
  obtain ⟨a', ys, e2, ⟨o', ho', hc', n', hdt'⟩, i'⟩ := hp _ hm'
  show wpAny (model prog w) A (keyLt' (tuples' true) p.1 q.1) (fun r s' => s' = s ∧ r = HT.lexLt (k p.1) (k q.1)) (fun _ _ => False) s
  have z := kat_ints (prog := prog) (w := w) (A := A) (s := s) (Q := fun r s' => s' = s ∧ r = HT.lexLt (k p.1) (k q.1)) 0 i i' ⟨rfl, rfl⟩
  rw [e1, e2] at z ⊢
  refine PySem.W.kat_lt ho hdt ho' hdt' ?_
  have l1 := i.length
  have l2 := i'.length
  rw [Array.length_toList] at l1 l2
  rw [e1] at l1
  rw [e2] at l2
  rw [l1, l2]
  exact z
theorem tups_sortable {a : Addr} {vs : List Value} {k : Value → List Int} (h0 : 0 < vs.length) (hp : ∀ v ∈ vs, TS.TupInts s.heap v (k v) ∧ k v ≠ []) (ha : ∀ o, s.heap.get? a = some o → o.cls ≠ .type "tuple") : SrtO.SortableO prog w A s a vs fun v u => HT.lexLt (k v) (k u) := by
  intro h' keep
  have hp' : ∀ v ∈ vs, TS.TupInts h' v (k v) := fun v hm => (hp v hm).1.keeps fun b o e c => keep b o (fun z => by subst z; exact ha o e c) e
  obtain ⟨fs, h1, h2, h3⟩ := firsts vs fun v hm => ⟨_, hp' v hm, (hp v hm).2⟩
  refine ⟨tuples' true, fun Q E hq => ?_, tup_cmp hp'⟩
  refine PySem.W.kat_kind (T := .type "int") h1 (by omega) (fun f hm => ?_) (by rfl) ?_
  · obtain ⟨x, t, rfl⟩ := h3 f hm
    exact PySem.W.Looks.now
  · have e : (Value.type "int" != Value.type "tuple") = true := by first | decide +kernel | rfl | decide
    rw [e]
    exact hq
end
/-! ### sorted(d), the keys of d tuples of ints -/
/-- a dict whose keys are tuples of ints -/
abbrev dI (kvs : List (List Int × V)) : HO := .dT (kvs.map fun p => (p.1.map Sum.inl, p.2))
def rSortedDT : List V → Hp → VK → Prop := fun vs H Q => ∃ (a : Addr) (kvs : List (List Int × V)), vs = [V.ref a] ∧ Rd H a (dI kvs) ∧ (∀ p ∈ kvs, p.1 ≠ []) ∧
  ∀ (ks : List (Addr × List Int)) (p : Addr), (ks.map (·.2)).Perm (kvs.map (·.1)) → ks.Pairwise (fun x y => HT.lexLt y.2 x.2 = false) → (∀ q ∈ ks, H q.1 = some (.tup (q.2.map V.int))) → H p = none →
    Q (.ref p) (upd H p (.lst (ks.map fun q => V.ref q.1)))
section
variable {X : Cx}
theorem keyIs_int {i : Int} {v : Value} (h : keyIs (.inl i) v = true) : ∃ t, v = .int i t := by
  rcases keyIs_shape h with ⟨j, t, e, ev⟩ | ⟨z, t, e, ev⟩
  · cases e
    exact ⟨t, ev⟩
  · cases e
theorem map_kV (ns : List Int) : (ns.map Sum.inl : List Key).map kV = ns.map V.int := by
  rw [List.map_map]
  rfl
theorem perm_lift {α β : Type} {f : α → β} {l₁ l₂ : List β} (h : l₁.Perm l₂) : ∀ L : List α, L.map f = l₂ → ∃ L' : List α, L'.Perm L ∧ L'.map f = l₁ := by
  induction h with
  | nil =>
    intro L e
    exact ⟨L, .refl _, e⟩
  | cons x _ ih =>
    intro L e
    cases L with
    | nil => cases e
    | cons y L =>
      obtain ⟨e1, e2⟩ := List.cons.inj e
      obtain ⟨L', p, em⟩ := ih L e2
      exact ⟨y :: L', p.cons y, by rw [List.map_cons, em, e1]⟩
  | swap x y l =>
    intro L e
    match L, e with
    | u :: v :: L, e =>
      obtain ⟨e1, e2⟩ := List.cons.inj e
      obtain ⟨e3, e4⟩ := List.cons.inj e2
      exact ⟨v :: u :: L, .swap _ _ _, by rw [List.map_cons, List.map_cons, e1, e3, e4]⟩
  | trans _ _ ih1 ih2 =>
    intro L e
    obtain ⟨L1, p1, e1⟩ := ih2 L e
    obtain ⟨L2, p2, e2⟩ := ih1 L1 e1
    exact ⟨L2, p2.trans p1, e2⟩
theorem rows_of {H : Hp} : ∀ {kvs : List (List Int × V)} {xs : List (List Key × Addr × Value)},
    Paired (fun (p : List Key × V) (q : List Key × Addr × Value) => p.1 = q.1 ∧ H q.2.1 = some (HO.tup (p.1.map kV)) ∧ L2.RelV p.2 q.2.2) (kvs.map fun p => ((p.1.map Sum.inl : List Key), p.2)) xs →
    ∃ L0 : List (Addr × List Int), L0.map (·.2) = kvs.map (·.1) ∧ xs.map (fun x => Value.ref x.2.1) = L0.map (fun q => Value.ref q.1) ∧ ∀ q ∈ L0, H q.1 = some (.tup (q.2.map V.int))
  | [], _, .nil => ⟨[], rfl, rfl, fun q h => by cases h⟩
  | p :: kvs, x :: xs, .cons r t => by
    obtain ⟨L0, e1, e2, e3⟩ := rows_of t
    refine ⟨(x.2.1, p.1) :: L0, by rw [List.map_cons, List.map_cons, e1], by rw [List.map_cons, List.map_cons, e2], fun q hq => ?_⟩
    rcases List.mem_cons.mp hq with rfl | hq
    · have := r.2.1
      rw [map_kV] at this
      exact this
    · exact e3 q hq
theorem cr_sortedDT (hc : X.calm = true) : CallR X (.builtin "sorted") rSortedDT := by
  intro pins s σ H vs us Q I r h
  obtain ⟨a, kvs, rfl, hd, hk, q⟩ := h
  obtain ⟨u, rfl, rx⟩ := vals1 r
  cases rx
  obtain ⟨z, hs, xs, pr, o, es, ep, ho, hx, hdt, he, hn⟩ := (show ObjOk X.prog X.w H s.heap a (dI kvs) from hd.ok I.hok)
  have l1 : es.size = xs.length := size_of_entries he
  have l2 : (kvs.map fun p => ((p.1.map Sum.inl : List Key), p.2)).length = xs.length := Paired.length pr
  rw [List.length_map] at l2 z
  refine Calls.call_function_entry PyProof.Rows.kind_sorted PyProof.Rows.plain_sorted PyProof.Rows.entry_sorted (PyProof.Rows.args_sorted1 _) ?_
  unfold Builtin.«sorted»
  refine wpAny_bind (m := checkCount "sorted" 1 1 _) (wpAny_pure ?_)
  refine wpAny_bind (PySem.W.kdu_collect (A := X.A.in1) (kdl_raw hs hx hdt) (I.ok.hd hc) ho (by omega) fun h' tk acc hk' hacc => ?_)
  have ea : acc.toList = xs.map fun x => Value.ref x.2.1 := by
    have hl : acc.toList.length = xs.length := by rw [Array.length_toList, hacc.1]; exact l1
    apply List.ext_getElem?
    intro j
    rw [List.getElem?_map]
    cases hj : acc.toList[j]? with
    | none =>
      have h1 := List.getElem?_eq_none_iff.mp hj
      rw [List.getElem?_eq_none (by omega)]
      all_goals rfl
    | some v =>
      obtain ⟨en, hen, hv⟩ := hacc.2 j v (by rw [← Array.getElem?_toList]; exact hj)
      have qe := entry_at he j
      rw [hen] at qe
      cases hb : xs[j]? with
      | none =>
        rw [hb] at qe
        exact nomatch (show some en = none from qe)
      | some b =>
        rw [hb] at qe
        have e2 : en = entryOfKey (tupleKind (mixKind X.prog X.w)) b := Option.some.inj qe
        rw [hv, e2]
        all_goals rfl
  have I1 : Inv X pins σ H { s with heap := h', toks := tk } := I.kept hk'
  obtain ⟨L0, m1, m2, m3⟩ := rows_of pr
  rw [m2] at ea
  have hvl : acc.toList.length ≤ sizeLine := by
    rw [ea, List.length_map]
    have := congrArg List.length m1
    rw [List.length_map, List.length_map] at this
    omega
  refine wpAny_bind (wpAny_newList ?_ hvl)
  have hoL : (h'.push (seqObj "list" acc.toList.toArray 0)).get? h'.objs.size = some (seqObj "list" acc.toList.toArray 0) := Heap.get?_push_size _ rfl
  have I2 : Inv X pins σ H { s with heap := h'.push (seqObj "list" acc.toList.toArray 0), toks := tk } := I1.kept fun b o e => Heap.get?_push_of_some _ e
  show wpAny _ _ _ _ _ { s with heap := h'.push (seqObj "list" acc.toList.toArray 0), toks := tk }
  have tk2 : ∀ q ∈ L0, TS.TupInts (h'.push (seqObj "list" acc.toList.toArray 0)) (.ref q.1) q.2 := fun q hq => tupI_raw I2 (.inl (.inl (m3 q hq)))
  have hne : ∀ q ∈ L0, q.2 ≠ [] := fun q hq => by
    have : q.2 ∈ kvs.map (·.1) := by
      rw [← m1]
      exact List.mem_map.mpr ⟨q, hq, rfl⟩
    obtain ⟨p, hp, e⟩ := List.mem_map.mp this
    rw [← e]
    exact hk p hp
  refine wpAny_bind (wpAny_holding (wpAny_call_entry PyProof.Rows.slot_list_sort ⟨_, hoL, rfl⟩ PyProof.Rows.entry_list_sort
    (SrtO.list_sort_ord (s := { s with heap := h'.push (seqObj "list" acc.toList.toArray 0), toks := tk }) (swo_lexK (TS.intsOf (h'.push (seqObj "list" acc.toList.toArray 0)))) hoL hvl
      (fun h2 => tups_sortable (by omega) (fun v hv => ?_) fun o e => ?_) fun out hs1 hb => ⟨_, rfl, ?_⟩) (PyProof.Rows.args_list_sort _)))
  · rw [ea] at hv
    obtain ⟨q, hq, e⟩ := List.mem_map.mp hv
    subst e
    have t := tk2 q hq
    rw [t.ints]
    exact ⟨t, hne q hq⟩
  · have e' : some o = some (seqObj "list" acc.toList.toArray 0) := e.symm.trans hoL
    cases e'
    intro c
    exact absurd (Value.type.inj c) (by decide)
  · obtain ⟨L', p1, e1⟩ := perm_lift (f := fun q : Addr × List Int => Value.ref q.1) hb.perm L0 ea.symm
    obtain ⟨e', he'⟩ := PyProof.Rows.sortedHeap_at (vs := acc.toList) (out := out.toArray) hoL
    have hlen : (L'.map fun q => V.ref q.1).length ≤ sizeLine := by
      rw [List.length_map, p1.length_eq]
      rw [ea, List.length_map] at hvl
      exact hvl
    have rv : Vals (L'.map fun q => V.ref q.1) out := by
      rw [← e1]
      clear e1 p1 hlen
      induction L' with
      | nil => exact .nil
      | cons q L ih => exact .cons rfl ih
    refine wpAny_pure ⟨_, rfl, .ref h'.objs.size, upd H h'.objs.size (.lst (L'.map fun q => V.ref q.1)), I1.laid (t' := tk) (fun b u e => ?_) (Nat.le_refl _)
      (show ObjOk X.prog X.w _ _ _ (.lst (L'.map fun q => V.ref q.1)) from ⟨hlen, out, e', rv, he'⟩), rfl, q L' _ ?_ ?_ (fun q hq => m3 q (p1.mem_iff.mp hq)) (I1.hok.fresh (Nat.le_refl _))⟩
    · have hb : b < h'.objs.size := Heap.lt_size e
      rw [PyProof.Rows.sortedHeap_old (Nat.ne_of_lt hb) (by rw [size_push']; exact Nat.lt_succ_of_lt hb)]
      exact Heap.get?_push_of_some _ e
    · rw [← m1]
      exact p1.map _
    · rw [← e1] at hs1
      refine List.Pairwise.imp_of_mem (fun {x y} hx hy h => ?_) (List.pairwise_map.mp hs1)
      have h : HT.lexLt (TS.intsOf (h'.push (seqObj "list" acc.toList.toArray 0)) (Value.ref y.1)) (TS.intsOf (h'.push (seqObj "list" acc.toList.toArray 0)) (Value.ref x.1)) = false := h
      rw [(tk2 x (p1.mem_iff.mp hx)).ints, (tk2 y (p1.mem_iff.mp hy)).ints] at h
      exact h
end
end R1
set_option Elab.async false
set_option linter.all false
set_option maxRecDepth 100000
namespace R1
open PySem PySem.Spec PyProof.Rows L2
/-! ### d != {} -/
section
variable {prog : Program} {w : World} {A : Around} {E : Value → Shared → Prop} {s : Shared}
theorem samePairs0 {nm : String} {a b : Addr} {oa ob : Obj} {es es' : Array DictEntry} {ep ep' : Nat} {Q : Bool → Shared → Prop} (ha : (a == sysModules) = false) (hb : (b == sysModules) = false)
    (hoa : s.heap.get? a = some oa) (hda : oa.data = .dict es ep) (hob : s.heap.get? b = some ob) (hdb : ob.data = .dict es' ep') (h0 : es'.size = 0) (h : Q (decide (es.size = 0)) s) :
    wpAny (model prog w) A (Builtin.Dict.samePairs nm a b) Q E s := by
  unfold Builtin.Dict.samePairs Builtin.Dict.showsAll
  rw [if_neg (show ¬ (a == sysModules) = true by rw [ha]; exact Bool.false_ne_true), if_neg (show ¬ (b == sysModules) = true by rw [hb]; exact Bool.false_ne_true)]
  refine wpAny_bind (wpAny_pure (wpAny_bind (wpAny_pure ?_)))
  refine wpAny_bind (wpAny_dictEntries hoa hda ?_)
  dsimp only
  refine wpAny_bind (wpAny_dictEntries hob hdb ?_)
  by_cases hsz : es.size = es'.size
  case neg =>
    rw [if_pos (by simpa using hsz)]
    rw [decide_eq_false (by omega)] at h
    exact wpAny_bind (wpAny_rule (wpAny_pure h))
  case pos =>
    rw [decide_eq_true (by omega)] at h
    rw [if_neg (by rw [hsz]; simp)]
    refine wpAny_bind (wpAny_dictEpoch hoa hda ?_)
    refine wpAny_bind ?_
    rw [Std.Legacy.Range.forIn_eq_forIn_range']
    have e0 : es.size = 0 := by omega
    simp only [Std.Legacy.Range.size, Nat.sub_zero, Nat.add_sub_cancel, Nat.div_one, e0, List.range'_zero]
    exact wpAny_pure (wpAny_pure h)
theorem dicts_ne0 {a b : Addr} {oa ob : Obj} {es es' : Array DictEntry} {ep ep' : Nat} {Q : Value → Shared → Prop} (ha : (a == sysModules) = false) (hb : (b == sysModules) = false)
    (hoa : s.heap.get? a = some oa) (xa : oa.ExactDict) (hda : oa.data = .dict es ep) (hob : s.heap.get? b = some ob) (xb : ob.ExactDict) (hdb : ob.data = .dict es' ep') (h0 : es'.size = 0) (hu : A.units < cLine) (h : Q (.bool (!decide (es.size = 0))) s) :
    wpAny (model prog w) A (compareOp .NotEq (.ref a) (.ref b)) Q E s := by
  have ta : s.TypeIs (.ref a) "dict" := ⟨oa, hoa, xa.1⟩
  have tb : s.TypeIs (.ref b) "dict" := ⟨ob, hob, xb.1⟩
  refine wpAny_richCompare_same_room (op := .NotEq) ta tb PySem.F.slot_dict_ne (wpAny_call_entry PySem.F.slot_dict_ne ta PySem.F.entry_dict_ne ?_ (PySem.F.args_dict_ne_2 _ _)) hu
  show wpAny _ _ (Builtin.Dict.dictSlotArgs "__ne__" ⟨[.ref a, .ref b], []⟩ >>= _) _ _ s
  refine wpAny_bind ?_
  unfold Builtin.Dict.dictSlotArgs
  refine wpAny_bind (wpAny_notOrdered_dict ta ?_)
  show wpAny _ _ (pure (Value.ref a, Value.ref b)) _ _ s
  refine wpAny_pure ?_
  refine wpAny_bind (wpAny_isInstance (T := "dict") tb PySem.F.sub_dict_dict ?_)
  simp only [Bool.not_true, Bool.false_eq_true, if_false]
  refine wpAny_bind (wpAny_pure (wpAny_bind (wpAny_pure ?_)))
  refine wpAny_bind (samePairs0 ha hb hoa hda hob hdb h0 ?_)
  refine wpAny_pure ⟨_, rfl, ?_, ?_⟩
  · exact fun x => nomatch x
  · simpa using h
end
/-- d != {} -/
def rNeD0 : R2 := fun x y H Q => ∃ (a b : Addr) (kvs : List (List Key × V)), x = .ref a ∧ y = .ref b ∧ H a = some (.dT kvs) ∧ H b = some (.dT []) ∧ Q (.bl (!decide (kvs.length = 0))) H
section
variable {X : Cx}
theorem op_neD0 (hu : X.A.units < cLine) : OpR X (compareOp .NotEq) rNeD0 := by
  intro pins s σ H x y v u Q I rx ry h
  obtain ⟨a, b, kvs, rfl, rfl, ea, eb, q⟩ := h
  obtain rfl : v = Value.ref a := rx
  obtain rfl : u = Value.ref b := ry
  obtain ⟨_, ya, va, ra, oa, es, ep, ho, hx, hd, he, _⟩ := (show ObjOk X.prog X.w H s.heap a (.dT kvs) from I.hok a _ ea)
  obtain ⟨_, yb, vb, rb, ob, es', ep', ho', hx', hd', he', _⟩ := (show ObjOk X.prog X.w H s.heap b (.dT []) from I.hok b _ eb)
  have l1 : es.size = va.length := size_of_entries he
  have l2 : es'.size = vb.length := size_of_entries he'
  have l3 : kvs.length = va.length := Paired.length ra
  have l4 : ([] : List (List Key × V)).length = vb.length := Paired.length rb
  refine dicts_ne0 ya yb ho hx hd ho' hx' hd' (by rw [l2, ← l4]; rfl) hu ⟨.bl _, H, I, rfl, ?_⟩
  rw [l1, ← l3]
  exact q
/-! ### t >= u of tuples of ints -/
theorem lexAt_shift (e r : Nat → Bool) (z : Bool) : ∀ (k i : Nat), Ob.lexAt e r z (i + 1) k = Ob.lexAt (fun j => e (j + 1)) (fun j => r (j + 1)) z i k
  | 0, _ => rfl
  | k + 1, i => by
    rw [Ob.lexAt_succ, Ob.lexAt_succ, lexAt_shift e r z k (i + 1)]
theorem lexGe : ∀ ns ms : List Int, Ob.lexAt (fun j => decide (ns.getD j 0 = ms.getD j 0)) (fun j => decide (ms.getD j 0 ≤ ns.getD j 0)) (decide (ns.length ≥ ms.length)) 0 (min ns.length ms.length) = !HT.lexLt ns ms
  | [], [] => rfl
  | [], y :: q => rfl
  | x :: r, [] => rfl
  | x :: r, y :: q => by
    have ih := lexGe r q
    have em : min (x :: r).length (y :: q).length = min r.length q.length + 1 := by
      rw [List.length_cons, List.length_cons]
      omega
    have el : decide ((x :: r).length ≥ (y :: q).length) = decide (r.length ≥ q.length) := by
      rw [List.length_cons, List.length_cons]
      simp
    rw [em, el, Ob.lexAt_succ, HT.lexLt_cons]
    simp only [List.getD_cons_zero]
    by_cases e : x = y
    · rw [if_pos (decide_eq_true e), if_pos e, lexAt_shift]
      simp only [List.getD_cons_succ]
      exact ih
    · rw [if_neg (by rw [decide_eq_false e]; exact Bool.false_ne_true), if_neg e]
      by_cases h : x < y
      · rw [decide_eq_true h, decide_eq_false (by omega)]
        rfl
      · rw [decide_eq_false h, decide_eq_true (by omega)]
        rfl
def rGeT (K : PySem.W.Frag) : R2 := fun x y H Q => ∃ (a b : Addr) (ns ms : List Int), x = .ref a ∧ y = .ref b ∧ SqT K H a (ns.map V.int) ∧ SqT K H b (ms.map V.int) ∧ Q (.bl (!HT.lexLt ns ms)) H
theorem op_geT (hu : X.A.units < cLine) : OpR X (compareOp .GtE) (rGeT X.K) := by
  intro pins s σ H x y v u Q I rx ry h
  obtain ⟨a, b, ns, ms, rfl, rfl, ha, hb, q⟩ := h
  cases rx
  cases ry
  obtain ⟨its, r1, p1, _⟩ := I.tuple ha
  obtain ⟨its2, r2, p2, _⟩ := I.tuple hb
  have i1 : IntsAre its ns := Vals.ints r1
  have i2 : IntsAre its2 ms := Vals.ints r2
  have e1 : its.toArray.size = ns.length := by rw [List.size_toArray]; exact i1.length
  have e2 : its2.toArray.size = ms.length := by rw [List.size_toArray]; exact i2.length
  have at1 : ∀ j (h1 : j < its.toArray.size), ∃ t, its.toArray[j] = .int (ns.getD j 0) t := fun j h1 => PyProof.Rows.IntsAre.int_at i1 _ _ (by simp at h1; simp [h1])
  have at2 : ∀ j (h1 : j < its2.toArray.size), ∃ t, its2.toArray[j] = .int (ms.getD j 0) t := fun j h1 => PyProof.Rows.IntsAre.int_at i2 _ _ (by simp at h1; simp [h1])
  have R := Ob.RcOp.tuples_ge (A := X.A) (s := s) (e := fun j => decide (ns.getD j 0 = ms.getD j 0)) (r := fun j => decide (ms.getD j 0 ≤ ns.getD j 0)) p1 p2 hu (fun j h1 h2 => by
    obtain ⟨t, et⟩ := at1 j h1
    obtain ⟨t', et'⟩ := at2 j h2
    rw [et, et']
    have z : (ns.getD j 0 == ms.getD j 0) = decide (ns.getD j 0 = ms.getD j 0) := by
      by_cases q : ns.getD j 0 = ms.getD j 0
      · rw [decide_eq_true q]; exact beq_iff_eq.mpr q
      · rw [decide_eq_false q]; exact beq_eq_false_iff_ne.mpr q
    rw [← z]
    exact SeqAt.EqAt.int_int _ _ _ _) (fun j h1 h2 _ => by
    obtain ⟨t, et⟩ := at1 j h1
    obtain ⟨t', et'⟩ := at2 j h2
    rw [et, et']
    exact Ob.RcOp.ge_int _ _ _ _)
  rw [e1, e2, lexGe] at R
  have z : wpAny (model X.prog X.w) X.A (compareOp .GtE (.ref a) (.ref b)) (EP X pins σ Q) X.xe s := R X.prog X.w X.xe (EP X pins σ Q) ⟨.bl _, H, I, rfl, q⟩
  exact z
end
end R1
set_option Elab.async false
set_option linter.all false
set_option maxRecDepth 100000
namespace R1
open PySem PySem.Spec PyProof.Rows L2
open AutoSeq1 (wpAny_loadPart')
/-! ### enumerate(tuple) -/
theorem meets_enumerate_newT (l : Addr) (items : Array Value) (n : Nat) (dct : Option Addr) (sl : Array (Option Value)) :
    Meets (Builtin.«enumerate.__new__» ⟨[.type "enumerate", .ref l], []⟩) (fun _ R s => s.heap.get? l = some { cls := .type "tuple", dict := dct, data := .seq items n, slots := sl } ∧
      R (.ok (.ret (.ref (s.heap.push { cls := .type "tuple_iterator", data := .fields #[.ref l, .int 0 0] }).objs.size)))
        { s with heap := (s.heap.push { cls := .type "tuple_iterator", data := .fields #[.ref l, .int 0 0] }).push { cls := .type "enumerate", data := .fields #[.none, .bool false, .ref s.heap.objs.size, rawInt 0, .none, .none] } }) :=
  .of_wp fun prog w A R s h => by
    obtain ⟨hp, g, d, tk, os⟩ := s; obtain ⟨hl, h⟩ := h
    have hsub := sub_enumerate
    have hL : Heap.IsTuple (Shared.heap ⟨hp, g, d, tk, os⟩) l items := ⟨_, hl, rfl, n, rfl⟩
    wp_walk using wpAny_loadPart' hl
    refine wpAny_stack_any fun st => wpAny_pure ?_
    split
    · rename_i c _ _ _ _ _
      cases (c == Value.type "enumerate")
      · wp_walk using wpAny_loadPart' hl, wpAny_pyIter_tuple hL
        exact ⟨_, rfl, h⟩
      · wp_walk using wpAny_loadPart' hl, wpAny_pyIter_tuple hL
        exact ⟨_, rfl, h⟩
    · wp_walk using wpAny_loadPart' hl, wpAny_pyIter_tuple hL
      exact ⟨_, rfl, h⟩
theorem call_enumerate_tuple {prog : Program} {w : World} {A : Around} {E : Value → Shared → Prop} {s : Shared} {l : Addr} {items : Array Value} {Q : Value → Shared → Prop} (hL : s.heap.IsTuple l items)
    (h : ∀ h', IsEnum h' (s.heap.objs.size + 1) s.heap.objs.size 0 .none → h'.IsTupleIter s.heap.objs.size l 0 → h'.objs.size = s.heap.objs.size + 2 →
      (∀ b o, s.heap.get? b = some o → h'.get? b = some o) → Q (.ref (s.heap.objs.size + 1)) { s with heap := h' }) :
    wpAny (model prog w) A (call (.type "enumerate") [.ref l]) Q E s := by
  obtain ⟨⟨c, dct, dt, sl⟩, hl, hc, n, hd⟩ := hL
  replace hc : c = .type "tuple" := hc
  replace hd : dt = .seq items n := hd
  subst hc hd
  refine callType_new F.called_enumerate (by decide) (F.typeCall_enumerate_1 _) (F.newCall_enumerate_1 _) (fun obj => F.args_object_init_2 obj _) F.entry_enumerate_new
    (meets_enumerate_newT l items n dct sl) ⟨hl, ?_⟩
  have hz : (s.heap.push { cls := .type "tuple_iterator", data := .fields #[.ref l, .int 0 0] }).objs.size = s.heap.objs.size + 1 := Heap.size_push ..
  show _ ∧ _
  rw [hz]
  have he : IsEnum ((s.heap.push { cls := .type "tuple_iterator", data := .fields #[.ref l, .int 0 0] }).push
      { cls := .type "enumerate", data := .fields #[.none, .bool false, .ref s.heap.objs.size, rawInt 0, .none, .none] }) (s.heap.objs.size + 1) s.heap.objs.size 0 .none := by
    have := Heap.get?_push_size (s.heap.push { cls := .type "tuple_iterator", data := .fields #[.ref l, .int 0 0] })
      (o := { cls := .type "enumerate", data := .fields #[.none, .bool false, .ref s.heap.objs.size, rawInt 0, .none, .none] }) rfl
    rw [hz] at this; exact this
  refine ⟨⟨_, he, rfl⟩, h _ he ⟨_, Heap.get?_push_of_some _ (Heap.get?_push_size _ rfl), rfl, rfl⟩ (by rw [Heap.size_push, hz]) fun b o x => Heap.get?_push_of_some _ (Heap.get?_push_of_some _ x)⟩
/-- the tuple at a, each item in a new pair -/
def IteT (K : PySem.W.Frag) (a : Addr) : It :=
  ⟨fun i H => ∃ (xs : List V) (x : V), SqT K H a xs ∧ xs[i]? = some x, fun i H v H' => ∃ T x, v = .ref T ∧ H T = none ∧ H' = upd H T (.tup [.int (i : Nat), x]) ∧ ∀ xs, SqT K H a xs → xs[i]? = some x, fun i H => ∃ xs : List V, SqT K H a xs ∧ xs.length ≤ i⟩
theorem apart {h : Heap} {a b c : Addr} {items : Array Value} {i : Nat} (p : IsTup h a items) (q : h.IsTupleIter b c i) : a ≠ b := by
  rintro rfl
  obtain ⟨o, ho, hc, _⟩ := p
  obtain ⟨o', ho', hc', _⟩ := q
  rw [ho] at ho'
  cases ho'
  rw [hc] at hc'
  exact absurd (Value.type.inj hc') (by decide)
theorem apartE {h : Heap} {a b it : Addr} {items : Array Value} {i : Int} {old : Value} (p : IsTup h a items) (q : IsEnum h b it i old) : a ≠ b := by
  rintro rfl
  obtain ⟨o, ho, hc, _⟩ := p
  have ho' : h.get? a = some _ := q
  rw [ho] at ho'
  have e := Option.some.inj ho'
  rw [e] at hc
  exact absurd (Value.type.inj hc) (by decide)
theorem turn_enumT {P : Program} {w : World} {K : PySem.W.Frag} {elts : List Expr} {kk : Nat} {tpos : Pos} (a e it : Addr) :
    Turn P w K (.Tuple elts kk tpos) (IteT K a) [e, it] e (fun i h => (∃ old, IsEnum h e it ((i : Nat) : Int) old) ∧ h.IsTupleIter it a i ∧ e ≠ it) where
  mem := by simp
  obj := fun i h st b hb => by
    obtain ⟨⟨old, he⟩, ⟨o, ho, hc, hd⟩, _⟩ := st
    have e' : b = e ∨ b = it := by simpa using hb
    rcases e' with z | z
    · rw [z]; exact ⟨_, he, fun v q => nomatch q⟩
    · rw [z]; exact ⟨o, ho, fun v q => by rw [hd] at q; cases q⟩
  keep := fun i h h' st k => let ⟨⟨old, he⟩, hi, hne⟩ := st; ⟨⟨old, k e (by simp) _ he⟩, hi.at fun o q => k it (by simp) o q, hne⟩
  item := by
    intro X hP hw hK hc i pins s σ H E I hf st hg
    subst hP hw hK
    obtain ⟨⟨old, he⟩, hit, hne⟩ := st
    obtain ⟨xs, x, hq, hx⟩ := hg
    obtain ⟨its, rv, p, hz⟩ := I.tuple hq
    obtain ⟨u, hu, ru⟩ := rv.get hx
    have hel : e < s.heap.objs.size := Heap.lt_size he
    have hil : it < s.heap.objs.size := by obtain ⟨_, q, _⟩ := hit; exact Heap.lt_size q
    have nai : a ≠ it := apart p hit
    have nae : a ≠ e := apartE p he
    have hlt : i < its.toArray.size := by
      rw [List.size_toArray]
      exact (List.getElem?_eq_some_iff.mp hu).1
    have D := Draws.tuple (prog := X.prog) (w := X.w) (A := X.A.in1) (I.ok.hd hc) it a nai its.toArray
    refine wpAny_pyNext_enum_itemD D he ⟨hit, show s.heap.IsTuple a its.toArray from p⟩ hlt hne (by simp; exact ⟨hne, nae.symm⟩) fun y h' tk hP ho hst' hT hsz hk => ?_
    have ey : y = u := by
      have := hP.symm.trans (show its.toArray[i]? = some u by simpa using hu)
      exact Option.some.inj this
    subst ey
    refine ⟨_, rfl, wpAny_letOwnedTupleGo_enum (s := { s with heap := h', toks := tk + 1 }) ho fun h'' he' sb => ?_⟩
    have hT2 : h''.get? s.heap.objs.size = some { cls := .type "tuple", data := .seq #[.int i tk, y] } := (sb.2 _ (Nat.ne_of_gt hel)).trans hT
    have new : ObjOk X.prog X.w (upd H s.heap.objs.size (.tup [.int (i : Nat), x])) h'' s.heap.objs.size (.tup [.int (i : Nat), x]) :=
      ⟨by show 2 ≤ sizeLine; decide, [.int i tk, y], .cons ⟨_, rfl⟩ (.cons ru .nil), ⟨_, hT2, rfl, _, rfl⟩⟩
    have I1 : Inv X pins σ (upd H s.heap.objs.size (.tup [.int (i : Nat), x])) { s with heap := h'', toks := tk + 1 } :=
      I.turnedNew (ch := [e, it]) (fun b ob hb q => (sb.2 b (fun z => hb (by simp [z]))).trans (hk b ob (fun z => hb (by simp [z])) (fun z => hb (by simp [z])) q)) hf (Nat.le_refl _) new
    refine ⟨.ref s.heap.objs.size, _, I1, rfl, ⟨_, x, rfl, I.hok.fresh (Nat.le_refl _), rfl, fun ys hy => by rw [I.tuple_inj hy hq]; exact hx⟩, ⟨⟨y, ?_⟩, hst'.1.at fun o q => (sb.2 it (Ne.symm hne)).trans q, hne⟩, fun b hb => ?_⟩
    · have e1 : ((i + 1 : Nat) : Int) = (i : Int) + 1 := by omega
      rw [e1]; exact he'
    · have hb' : b < s.heap.objs.size := by
        have e' : b = e ∨ b = it := by simpa using hb
        rcases e' with z | z
        · rw [z]; exact hel
        · rw [z]; exact hil
      rw [upd_ne (Nat.ne_of_lt hb')]
      exact (hf b hb).1
  done := by
    intro X hP hw hK hc i pins s σ H E I hf st hg
    subst hP hw hK
    obtain ⟨⟨old, he⟩, hit, hne⟩ := st
    obtain ⟨xs, hq, hx⟩ := hg
    obtain ⟨its, rv, p, hz⟩ := I.tuple hq
    obtain ⟨f0, f1, f2, f3, f4, f5⟩ := hf it (by simp)
    have hl := rv.length
    have hT : s.TypeIs (.ref e) "enumerate" := ⟨_, he, rfl⟩
    unfold pyNext
    refine wpAny_bind (wpAny_attempt (wpAny_callSpecial?_slot (name := Str.ofString "__next__") hT F.slot_enumerate_next
      (wpAny_call_entry F.slot_enumerate_next hT F.entry_enumerate_next ?_ (F.args_enumerate_next_1 _))))
    show wpAny _ _ (field (.ref e) 2 >>= _) _ _ _
    refine wpAny_bind (wpAny_field he rfl (x := .ref it) rfl ?_)
    refine wpAny_bind (wpAny_nextOf_tuple_end (I.ok.hd hc) hit (show s.heap.IsTuple a its.toArray from p) (Array.getElem?_eq_none (by rw [List.size_toArray]; omega)) fun h' x he' hx' => ?_)
    obtain ⟨o, ho, hc'⟩ := hx'
    refine wpAny_bind (wpAny_isInstance (T := "StopIteration") (b := true) ⟨o, ho, hc'⟩ isSubtype_stop ?_)
    exact wpAny_pure ⟨rfl, I.turned (t' := s.toks) (fun b o hb q => he' b o hb q) f0 f1 f3 f4 f5⟩
  self := fun A i s Q E st h => let ⟨⟨_, he⟩, _⟩ := st; wpAny_pyIter_enum he h
def iEnumT (K : PySem.W.Frag) (ta : TA) : TI := fun σ H R => ta σ H fun vs H1 => ∃ a xs, vs = [.ref a] ∧ SqT K H1 a xs ∧ R (IteT K a) H1
theorem pi_enumT {X : Cx} {e : Expr} {ta : TA} {p pos tpos : Pos} {elts : List Expr} {kk : Nat} (hg : Gl X "enumerate") (hm : X.mg "enumerate" = none) (ha : PA X [e] ta) (hs : starEach [e] X.env = [(false, eval e X.env)] := by rfl) :
    PI X (.Tuple elts kk tpos) (.Call (.Name "enumerate" p) [e] [] pos) (iEnumT X.K ta) := by
  refine ⟨fun pins s σ H R I h => ?_⟩
  refine Call_ (ld_blt I hg hm boot_enumerate (PyProof.Rows.callWith_type1 (thn (ha.run pos pins s σ H _ I h) fun us s1 ⟨vs, H1, I1, r1, q1⟩ => ?_) hs rfl))
  obtain ⟨a, xs, ex, hq, q⟩ := q1
  subst ex
  cases r1 with
  | cons r rr =>
    cases rr
    cases r
    obtain ⟨its, rv, p', hz⟩ := I1.tuple hq
    refine call_enumerate_tuple (show s1.heap.IsTuple a its.toArray from p') fun h' he hit hsz hk => wpAny_pyIter_enum he ?_
    have I2 : Inv X pins σ H1 { s1 with heap := h' } := I1.kept (t' := s1.toks) hk
    refine ⟨s1.heap.objs.size + 1, [s1.heap.objs.size + 1, s1.heap.objs.size], _, _, H1, rfl, I2, turn_enumT a (s1.heap.objs.size + 1) s1.heap.objs.size, ⟨⟨.none, he⟩, hit, Nat.succ_ne_self _⟩, fun b hb => ?_, q⟩
    have e' : b = s1.heap.objs.size + 1 ∨ b = s1.heap.objs.size := by simpa using hb
    have hle : s1.heap.objs.size ≤ b := by
      rcases e' with z | z
      · rw [z]; exact Nat.le_add_right _ _
      · rw [z]; exact Nat.le_refl _
    exact I1.fpOk hle (I1.hok.fresh hle)
theorem walk_enumT {K : PySem.W.Frag} {a : Addr} {xs : List V} : Walk (IteT K a) xs.length (fun H => SqT K H a xs) (YPair (fun i => some (.int (i : Nat))) (fun i => xs[i]?)) := by
  refine ⟨fun i _ hi q => ⟨xs, xs[i], q, by simp [hi]⟩, fun _ q => ⟨xs, q, Nat.le_refl _⟩, fun i H v H' _ q y => ?_⟩
  obtain ⟨T, x, h1, h2, h3, h4⟩ := y
  exact ⟨T, .int (i : Nat), x, h1, h2, h3, rfl, h4 xs q⟩
end R1
set_option Elab.async false
set_option linter.all false
set_option maxRecDepth 100000
namespace R1
open PySem PySem.Spec PyProof.Rows L2
open AutoSeq1 (wpAny_loadPart')
set_option maxHeartbeats 4000000 in
theorem tuple_mul1 (l : Addr) (items : Array Value) (n : Nat) (dd : Option Addr) (sl : Array (Option Value)) (u : Tok) :
    Meets (Builtin.«tuple.__mul__» ⟨[.ref l, .int 1 u], []⟩) (fun _ R s => s.heap.get? l = some { cls := .type "tuple", dict := dd, data := .seq items n, slots := sl } ∧ R (.ok (.ret (Value.ref l))) s) :=
  .of_wp fun prog w A R s h => by
    obtain ⟨hp, g, d, tk, os⟩ := s
    obtain ⟨hl, h⟩ := h
    have f1 := AutoSeq1.idx_int
    have c0 : (decide ((1 : Int) < -(2 ^ 63)) || decide ((1 : Int) ≥ 2 ^ 63)) = false := by decide
    have c1 : (items.isEmpty || (1 : Int) == 1) = true := by rw [Bool.or_eq_true]; exact .inr rfl
    wp_walk using wpAny_loadPart' hl
    exact ⟨_, rfl, h⟩
set_option maxHeartbeats 4000000 in
theorem tuple_mul0 (l : Addr) (items : Array Value) (n : Nat) (dd : Option Addr) (sl : Array (Option Value)) (u : Tok) (c : items.isEmpty = false) :
    Meets (Builtin.«tuple.__mul__» ⟨[.ref l, .int 0 u], []⟩) (fun _ R s => s.heap.get? l = some { cls := .type "tuple", dict := dd, data := .seq items n, slots := sl } ∧
      R (.ok (.ret (Value.ref s.heap.objs.size))) { s with heap := s.heap.push { cls := Value.type "tuple", data := Data.seq #[] }, toks := s.toks }) :=
  .of_wp fun prog w A R s h => by
    obtain ⟨hp, g, d, tk, os⟩ := s
    obtain ⟨hl, h⟩ := h
    have f1 := AutoSeq1.idx_int
    have c0 : (decide ((0 : Int) < -(2 ^ 63)) || decide ((0 : Int) ≥ 2 ^ 63)) = false := by decide
    have c1 : (items.isEmpty || (0 : Int) == 1) = false := by rw [c]; rfl
    have c2 : (decide ((0 : Int) ≤ 0) || items.isEmpty) = true := by rw [Bool.or_eq_true]; exact .inl rfl
    wp_walk using wpAny_loadPart' hl
    exact ⟨_, rfl, h⟩
/-- t * k, k 0 or 1 -/
def rRepT01 (K : PySem.W.Frag) : R2 := fun x y H Q => ∃ l k xs, x = .ref l ∧ y = .int k ∧ SqT K H l xs ∧ xs ≠ [] ∧ (k = 0 ∨ k = 1) ∧ (k = 1 → Q (.ref l) H) ∧ (k = 0 → ∀ p, H p = none → Q (.ref p) (upd H p (.tup [])))
theorem op_repT01 {X : Cx} : OpR X (binaryOp .Mult) (rRepT01 X.K) := by
  intro pins s σ H x y v u Q I rx ry h
  obtain ⟨l, k, xs, rfl, rfl, hT, hne, hk, q1, q0⟩ := h
  cases rx
  obtain ⟨t, rfl⟩ := ry
  obtain ⟨its, r, ⟨⟨cls, dd, data, sl⟩, ho, hc, n, hd⟩, hs⟩ := I.tuple hT
  simp only at hc hd
  subst hc hd
  have hle : its.length = xs.length := r.length.symm
  have hn : its ≠ [] := fun e => hne (by
    rw [e] at hle
    exact List.eq_nil_of_length_eq_zero hle.symm)
  have hi : its.toArray.isEmpty = false := by
    cases its with
    | nil => exact absurd rfl hn
    | cons a b => rfl
  refine wpAny_binaryOp_repeat_ref (T := "tuple") (U := "int") (by decide) ⟨_, ho, rfl⟩ (fun s' => typeIs_int s' k t) noFill_tuple_mul F.fills_int_mul F.slot_int_rmul repeat_tuple F.slot_int_index.lookup
    (call_meets F.slot_int_rmul (typeIs_int s k t) F.entry_int_rmul (F.args_int_rmul_2 _ _) (int_rmul_tuple k t l its.toArray n dd sl)
      ⟨ho, rfl, ⟨_, ho, rfl⟩, ?_⟩)
  rcases hk with rfl | rfl
  · refine call_meets F.slot_tuple_mul ⟨_, ho, rfl⟩ F.entry_tuple_mul (F.args_tuple_mul_2 _ _) (tuple_mul0 l its.toArray n dd sl t hi) ⟨ho, ?_⟩
    refine ⟨.ref s.heap.objs.size, _, I.laid (t' := s.toks) (o := .tup []) (fun b ob q => Heap.get?_push_of_some _ q) (Nat.le_refl _) ?_, rfl, q0 rfl _ (I.hok.fresh (Nat.le_refl _))⟩
    exact ⟨Nat.zero_le _, [], .nil, IsTup.new _ _⟩
  · refine call_meets F.slot_tuple_mul ⟨_, ho, rfl⟩ F.entry_tuple_mul (F.args_tuple_mul_2 _ _) (tuple_mul1 l its.toArray n dd sl t) ⟨ho, ?_⟩
    exact ⟨.ref l, H, I, rfl, q1 rfl⟩
end R1
set_option Elab.async false
set_option linter.all false
set_option maxRecDepth 100000
set_option maxHeartbeats 2000000
namespace R1
open PySem PySem.Spec PyProof.Rows L2
/-! ### sorted(xs) of pairs (tuple of ints, int) -/
theorem lex_app (c d : Int) : ∀ {ns ms : List Int}, ns.length = ms.length → HT.lexLt (ns ++ [c]) (ms ++ [d]) = if ns = ms then decide (c < d) else HT.lexLt ns ms
  | [], [], _ => by
    show (if c = d then HT.lexLt [] [] else decide (c < d)) = _
    rw [if_pos rfl]
    split
    · rename_i e
      rw [HT.lexLt_nil_nil]
      simp [e]
    · rfl
  | [], _ :: _, h => by cases h
  | _ :: _, [], h => by cases h
  | n :: ns, m :: ms, h => by
    show (if n = m then HT.lexLt (ns ++ [c]) (ms ++ [d]) else decide (n < m)) = _
    rw [lex_app c d (Nat.succ.inj h), HT.lexLt_cons]
    by_cases e : n = m
    · subst e
      by_cases e2 : ns = ms
      · subst e2
        simp
      · simp [e2]
    · simp [e]
/-- a pair of a tuple of ints and an int -/
def PairTI (h : Heap) (v : Value) (k : List Int × Int) : Prop := ∃ a b t, v = .ref a ∧ IsTup h a #[.ref b, .int k.2 t] ∧ TS.TupInts h (.ref b) k.1
theorem PairTI.keeps {h h' : Heap} {v : Value} {k : List Int × Int} (x : PairTI h v k) (kp : ∀ b o, h.get? b = some o → o.cls = .type "tuple" → h'.get? b = some o) : PairTI h' v k := by
  obtain ⟨a, b, t, e, ⟨o, ho, hc, n, hd⟩, y⟩ := x
  exact ⟨a, b, t, e, ⟨o, kp _ _ ho hc, hc, n, hd⟩, y.keeps fun b o e c => kp b o e c⟩
def lexP (p q : List Int × Int) : Bool := HT.lexLt (p.1 ++ [p.2]) (q.1 ++ [q.2])
section
variable {prog : Program} {w : World} {A : Around} {E : Value → Shared → Prop} {s : Shared}
theorem tkey {h : Heap} {b : Addr} {ns : List Int} (x : TS.TupInts h (.ref b) ns) : IsTupleKey (intKind prog w) h ns b := by
  obtain ⟨a, xs, e, ⟨o, ho, hc, n, hd⟩, i⟩ := x
  cases e
  refine ⟨o, xs, n, ho, hc, hd, ?_⟩
  generalize xs.toList = l at i
  clear hd
  induction i with
  | nil => exact .nil
  | cons n t _ ih => exact .cons (by show Value.isInt n (.int n t) = true; simp [Value.isInt]) ih
theorem pti_cmp {vs : List Value} {k : Value → List Int × Int} {m : Nat} (hu : A.units < cLine) (hp : ∀ v ∈ vs, PairTI s.heap v (k v) ∧ (k v).1.length = m) : SrtO.Cmp prog w A s (tuples' false) (fun p => p.1 ∈ vs) (SrtO.lt2 fun v u => lexP (k v) (k u)) := by
  intro p q hm hm'
  obtain ⟨⟨a, b, t, e1, ⟨o, ho, hc, n, hdt⟩, i⟩, l1⟩ := hp _ hm
  obtain ⟨⟨a', b', t', e2, ⟨o', ho', hc', n', hdt'⟩, i'⟩, l2⟩ := hp _ hm'
  show wpAny (model prog w) A (keyLt' (tuples' false) p.1 q.1) (fun r s' => s' = s ∧ r = lexP (k p.1) (k q.1)) (fun _ _ => False) s
  have ex : lexP (k p.1) (k q.1) = if (k p.1).1 = (k q.1).1 then decide ((k p.1).2 < (k q.1).2) else HT.lexLt (k p.1).1 (k q.1).1 := lex_app _ _ (by rw [l1, l2])
  rw [ex]
  generalize k p.1 = kp at *
  generalize k q.1 = kq at *
  rw [e1, e2]
  refine PySem.W.kat_lt ho hdt ho' hdt' ?_
  show PySem.W.KatLex prog w A false false _ [(Value.ref b, Value.ref b'), (Value.int kp.2 t, Value.int kq.2 t')] 0 s
  refine PySem.W.kat_cons (wpAny_eqBool_tuple (knd := intKind prog w) hu (tkey i) (tkey i') (PySem.W.kat_go (fun e => ?_) fun e => ?_))
  · have e : kp.1 = kq.1 := of_decide_eq_true e
    rw [if_pos e]
    refine PySem.W.kat_yes (PySem.W.kat_cons (SeqAt.EqAt.int_int _ _ _ _ prog w _ _ (PySem.W.kat_go (fun e2 => ?_) fun e2 => ?_)))
    · have : kp.2 = kq.2 := by simpa using e2
      refine PySem.W.kat_yes (PySem.W.kat_nil ⟨rfl, ?_⟩)
      simp [this]
    · exact PySem.W.kat_no (TS.oneLt_ints _ ⟨rfl, rfl⟩)
  · have e : ¬ kp.1 = kq.1 := of_decide_eq_false e
    rw [if_neg e]
    obtain ⟨c, xs, ec, hT, ii⟩ := i
    obtain ⟨c', xs', ec', hT', ii'⟩ := i'
    cases ec
    cases ec'
    exact PySem.W.kat_no (PySem.W.kat_one _ _ (HT.lt_tupInts (Q := PySem.W.BoolBack _) hT hT' ii ii' hu ⟨rfl, rfl⟩))
theorem pfirsts {h : Heap} : ∀ vs : List Value, (∀ v ∈ vs, ∃ k, PairTI h v k) → ∃ fs, PySem.W.KatTups h vs fs ∧ fs.length = vs.length ∧ ∀ f, f ∈ fs → ∃ b o, f = Value.ref b ∧ h.get? b = some o ∧ o.cls = .type "tuple"
  | [], _ => ⟨[], PySem.W.KatTups.nil, rfl, fun f hf => by simp at hf⟩
  | v :: vs, x => by
    obtain ⟨fs, k, hl, hi⟩ := pfirsts vs fun u hu => x u (List.mem_cons_of_mem _ hu)
    obtain ⟨kk, a, b, t, rfl, ⟨o, ho, hc, n, hdt⟩, ⟨b', xs, e, ⟨o', ho', hc', _⟩, _⟩⟩ := x v (List.mem_cons_self ..)
    cases e
    refine ⟨.ref b :: fs, PySem.W.KatTups.cons ho hc hdt (by simp) k, by simp [hl], ?_⟩
    intro f hf
    rcases List.mem_cons.mp hf with rfl | hf
    · exact ⟨b, o', rfl, ho', hc'⟩
    · exact hi f hf
theorem pti_sortable {a : Addr} {vs : List Value} {k : Value → List Int × Int} {m : Nat} (hu : A.units < cLine) (h0 : 0 < vs.length) (hp : ∀ v ∈ vs, PairTI s.heap v (k v) ∧ (k v).1.length = m) (ha : ∀ o, s.heap.get? a = some o → o.cls ≠ .type "tuple") : SrtO.SortableO prog w A s a vs fun v u => lexP (k v) (k u) := by
  intro h' keep
  have hp' : ∀ v ∈ vs, PairTI h' v (k v) ∧ (k v).1.length = m := fun v hm => ⟨(hp v hm).1.keeps fun b o e c => keep b o (fun z => by subst z; exact ha o e c) e, (hp v hm).2⟩
  obtain ⟨fs, h1, h2, h3⟩ := pfirsts vs fun v hm => ⟨_, (hp' v hm).1⟩
  refine ⟨tuples' false, fun Q E hq => ?_, pti_cmp hu hp'⟩
  refine PySem.W.kat_kind (T := .type "tuple") h1 (by omega) (fun f hm => ?_) (by rfl) ?_
  · obtain ⟨b, o, rfl, ho, hc⟩ := h3 f hm
    rw [← hc]
    exact (PySem.W.Looks.ld ho).andThen .now
  · have e : (Value.type "tuple" != Value.type "tuple") = false := by first | decide +kernel | rfl | decide
    rw [e]
    exact hq
end
/-- a term as it stands: the pair, its tuple of powers, these, the coefficient -/
structure Trm where
  t : Addr
  p : Addr
  ns : List Int
  c : Int
def Trm.v (r : Trm) : V := .ref r.t
def Trm.d (r : Trm) : List Int × Int := (r.ns, r.c)
def RowOk (H : Hp) (r : Trm) : Prop := H r.t = some (.tup [.ref r.p, .int r.c]) ∧ H r.p = some (.tup (r.ns.map V.int))
def RowsOk (H : Hp) (L : List Trm) : Prop := ∀ r ∈ L, RowOk H r
def KeepT (H H' : Hp) : Prop := ∀ b xs, H b = some (.tup xs) → H' b = some (.tup xs)
theorem RowsOk.keep {H H' : Hp} {L : List Trm} (h : RowsOk H L) (k : KeepT H H') : RowsOk H' L := fun r hr => ⟨k _ _ (h r hr).1, k _ _ (h r hr).2⟩
def keyOf (L : List Trm) (v : Value) : List Int × Int := match L.find? fun r => Value.ref r.t == v with
  | some r => r.d
  | none => ([], 0)
theorem keyOf_mem {H : Hp} {L : List Trm} (ho : RowsOk H L) {r : Trm} (hr : r ∈ L) : keyOf L (.ref r.t) = r.d := by
  unfold keyOf
  cases e : L.find? fun x => Value.ref x.t == Value.ref r.t with
  | none =>
    have := List.find?_eq_none.mp e r hr
    simp at this
  | some x =>
    have h1 := List.find?_some e
    have h2 := List.mem_of_find?_eq_some e
    have et : x.t = r.t := by
      have := eq_of_beq h1
      injection this
    obtain ⟨a1, a2⟩ := ho x h2
    obtain ⟨b1, b2⟩ := ho r hr
    rw [et, b1] at a1
    have e1 : r.p = x.p ∧ r.c = x.c := by
      have := Option.some.inj a1
      injection this with q
      injection q with q1 q2
      injection q1 with q1
      injection q2 with q2 _
      injection q2 with q2
      exact ⟨q1, q2⟩
    rw [← e1.1, b2] at a2
    have e2 : r.ns.map V.int = x.ns.map V.int := by
      have := Option.some.inj a2
      injection this
    have e3 : r.ns = x.ns := List.map_inj_right (fun a b h => by injection h) |>.mp e2
    simp [Trm.d, e3, e1.2]
def rSortedPT (K : PySem.W.Frag) : List V → Hp → VK → Prop := fun vs H Q => ∃ (a : Addr) (L : List Trm) (m : Nat), vs = [V.ref a] ∧ SqL K H a (L.map Trm.v) ∧ RowsOk H L ∧ (∀ r ∈ L, r.ns.length = m) ∧
  ∀ (L' : List Trm) (p : Addr), L'.Perm L → L'.Pairwise (fun x y => lexP y.d x.d = false) → H p = none → Q (.ref p) (upd H p (.lst (L'.map Trm.v)))
theorem hu2_of {A : Around} {k : Nat} (hr : Room k A) : A.units + 2 < cLine := Nat.lt_of_le_of_lt (Nat.add_le_add_left (by decide : 2 ≤ 64) _) hr.units
section
variable {X : Cx}
theorem rel_rows {H : Hp} : ∀ {L : List Trm} {us : List Value}, Vals (L.map Trm.v) us → us = L.map fun r => Value.ref r.t
  | [], _, .nil => rfl
  | r :: L, _, .cons h t => by
    cases h
    rw [rel_rows (H := H) t]
    rfl
theorem pti_raw {pins : List (Addr × Obj)} {σ : L2.St} {H : Hp} {s : Shared} (I : Inv X pins σ H s) {r : Trm} (h : RowOk H r) : PairTI s.heap (.ref r.t) r.d := by
  obtain ⟨h1, h2⟩ := h
  obtain ⟨its, rv, hT, _⟩ := I.tuple (.inl (.inl h1))
  cases rv with
  | cons r1 rr =>
    cases rr with
    | cons r2 rr =>
      cases rr
      cases r1
      obtain ⟨t, rfl⟩ := r2
      exact ⟨r.t, r.p, t, rfl, hT, tupI_raw I (.inl (.inl h2))⟩
theorem cr_sortedPT (hu : X.A.units + 2 < cLine) : CallR X (.builtin "sorted") (rSortedPT X.K) := by
  intro pins s σ H vs us Q I r h
  obtain ⟨a, L, m, rfl, hL, ho, hm, q⟩ := h
  obtain ⟨its, rv, hl, hz⟩ := I.list hL
  rw [Vals.ref1 r]
  have ei := rel_rows (H := H) rv
  subst ei
  have hz2 : L.length ≤ sizeLine := by simpa using hz
  refine SrtO.sorted_ord (ltv := fun v u => lexP (keyOf L v) (keyOf L u)) (swo_lexK (fun v => (keyOf L v).1 ++ [(keyOf L v).2])) hl.isList (by rw [List.length_map]; exact hz2) (fun h2 h₁ a' ha' kp => ?_) fun out hs hb => ?_
  · refine pti_sortable (m := m) (s := { s with heap := h₁ }) hu (by omega) (fun v hv => ?_) fun o e => ?_
    · obtain ⟨x, hx, rfl⟩ := List.mem_map.mp hv
      rw [keyOf_mem ho hx]
      exact ⟨(pti_raw I (ho x hx)).keeps fun b o e _ => (kp b o e).2, hm x hx⟩
    · have e' : some o = some (seqObj "list" (L.map fun r => Value.ref r.t).toArray 0) := e.symm.trans ha'
      cases e'
      intro c
      exact absurd (Value.type.inj c) (by decide)
  · obtain ⟨L', p1, e1⟩ := perm_lift (f := fun r : Trm => Value.ref r.t) hb.perm L rfl
    obtain ⟨ep, he'⟩ := PyProof.Rows.sortedAll_at s.heap (L.map fun r => Value.ref r.t) out.toArray
    have hlen : (L'.map Trm.v).length ≤ sizeLine := by rw [List.length_map, p1.length_eq]; exact hz2
    have hv : Vals (L'.map Trm.v) out := by
      rw [← e1]
      clear e1 p1 hlen he' ep
      induction L' with
      | nil => exact .nil
      | cons r L' ih => exact .cons rfl ih
    refine ⟨.ref _, upd H (s.heap.objs.size + 1) (.lst (L'.map Trm.v)), I.laid (t' := s.toks) (fun _ _ => PyProof.Rows.sortedAll_old) (Nat.le_succ _) ⟨hlen, out, ep, hv, he'⟩, rfl, q L' _ p1 ?_ (I.hok.fresh (Nat.le_succ _))⟩
    rw [← e1] at hs
    have hs2 := (List.pairwise_map (f := fun r : Trm => Value.ref r.t)).mp hs
    refine hs2.imp_of_mem fun {x y} hx hy h => ?_
    have h' : lexP (keyOf L (.ref y.t)) (keyOf L (.ref x.t)) = false := h
    rw [keyOf_mem ho (p1.mem_iff.mp hx), keyOf_mem ho (p1.mem_iff.mp hy)] at h'
    exact h'
end
end R1
set_option Elab.async false
set_option linter.all false
set_option maxRecDepth 100000
set_option maxHeartbeats 2000000
namespace R1
open PySem PySem.Spec PyProof.Rows L2
/-! ### min(t), t a tuple of ints -/
section
variable {prog : Program} {w : World} {A : Around} {E : Value → Shared → Prop} {s : Shared} {l : Addr} {xs : Array (Int × Tok)}
theorem iter_intTup {Q : Value → Shared → Prop} (hl : s.heap.IsTuple l (intItems xs))
    (h : ∀ s₂ : Shared, s₂ = { s with heap := s.heap.push { cls := .type "tuple_iterator", data := .fields #[.ref l, .int 0 0] } } →
      (s₂.heap.IsTupleIter s.heap.objs.size l 0 ∧ s₂.heap.IsTuple l (intItems xs)) → (∀ b ∈ [s.heap.objs.size, l], b < s₂.heap.objs.size) → l ≠ s.heap.objs.size → Q (.ref s.heap.objs.size) s₂) :
    wpAny (model prog w) A (pyIter (.ref l)) Q E s := by
  have hlt : l < s.heap.objs.size := by obtain ⟨_, e, _⟩ := hl; exact Heap.lt_size e
  refine wpAny_pyIter_tuple hl (h _ rfl ⟨⟨_, Heap.get?_push_size _ rfl, rfl, rfl⟩, hl.push _⟩ (fun b hb => ?_) (Nat.ne_of_lt hlt))
  show b < (s.heap.push _).objs.size
  rw [Heap.size_push]
  rcases List.mem_cons.mp hb with rfl | hb
  · exact Nat.lt_succ_self _
  · rcases List.mem_cons.mp hb with rfl | hb
    · exact Nat.lt_succ_of_lt hlt
    · cases hb
theorem old_keptT {h' : Heap} (hk : ∀ b o, b ∉ [s.heap.objs.size] → (s.heap.push { cls := .type "tuple_iterator", data := .fields #[.ref l, .int 0 0] }).get? b = some o → h'.get? b = some o) :
    ∀ b o, s.heap.get? b = some o → h'.get? b = some o := fun b o e => by
  refine hk b o (fun hm => ?_) (Heap.get?_push_of_some _ e)
  rcases List.mem_cons.mp hm with e1 | hm
  · exact absurd (e1 ▸ Heap.lt_size e) (Nat.lt_irrefl _)
  · cases hm
theorem min_intTup {Q : Value → Shared → Prop} (hh : A.handled = none) (hl : s.heap.IsTuple l (intItems xs)) (hne : 0 < xs.size)
    (h : ∀ v h' tk, (intItems xs)[argBest (fun i j => decide (numAt xs i < numAt xs j)) (xs.size - 1)]? = some v → (∀ b o, s.heap.get? b = some o → h'.get? b = some o) → Q v { s with heap := h', toks := tk }) :
    wpAny (model prog w) A (call (.builtin "min") [.ref l]) Q E s := by
  refine call_min_walk (iter_intTup hl fun s₂ e st hfp hlI => ?_)
  subst e
  refine ⟨_, _, _, _, _, _, _, rfl, Walks.tuple (A := A.in1) hh _ l hlI (intItems xs), st, hfp, by simpa [intItems] using hne, CmpOf.ints_lt (numAt xs) (fun _ _ => intItems_at), fun v h' tk hP hk => ?_⟩
  exact h v h' tk (by simpa [intItems] using hP) (old_keptT hk)
theorem min_rawT {its : List Value} {ns : List Int} {Q : Value → Shared → Prop} (hh : A.handled = none) (hl : s.heap.IsTuple l its.toArray) (hi : IntsAre its ns) (hne : 0 < ns.length)
    (h : ∀ h' tk M t', (∀ b o, s.heap.get? b = some o → h'.get? b = some o) → M ∈ ns → (∀ a, a ∈ ns → M ≤ a) → Q (.int M t') { s with heap := h', toks := tk }) : wpAny (model prog w) A (call (.builtin "min") [.ref l]) Q E s := by
  obtain ⟨xs, e⟩ := hi.allInts.items
  have hn : numsOf (intItems xs).toList = ns := by rw [← e]; exact hi.numsOf
  rw [nums_intItems] at hn
  subst hn
  rw [e] at hl
  have hsz : 0 < xs.size := by simpa using hne
  refine min_intTup hh hl hsz fun v h' tk hv hk => ?_
  obtain ⟨t, rfl⟩ := intItems_at hv
  obtain ⟨h1, h2⟩ := argBest_lt (numAt xs) (xs.size - 1)
  refine h h' tk _ t hk ?_ fun a ha => ?_
  · rw [numAt_eq]; exact PySem.getD_mem (by rw [List.length_map, Array.length_toList]; omega)
  · obtain ⟨j, hj, rfl⟩ := mem_getD ha
    rw [List.length_map, Array.length_toList] at hj
    rw [← numAt_eq]; exact h2 j (by omega)
end
def rMinT (K : PySem.W.Frag) : List V → Hp → VK → Prop := fun vs H Q => ∃ (a : Addr) (ns : List Int), vs = [V.ref a] ∧ SqT K H a (ns.map V.int) ∧ 0 < ns.length ∧ ∀ m, m ∈ ns → (∀ y, y ∈ ns → m ≤ y) → Q (.int m) H
theorem cr_minT {X : Cx} (hc : X.calm = true) : CallR X (.builtin "min") (rMinT X.K) := by
  intro pins s σ H vs us Q I r h
  obtain ⟨a, ns, rfl, hs, hne, q⟩ := h
  obtain ⟨its, rv, hl, _⟩ := I.tuple hs
  rw [Vals.ref1 r]
  exact min_rawT (I.ok.hd hc) hl rv.ints hne fun h' tk m t' hk h1 h2 => ⟨.int _, H, I.kept hk, ⟨_, rfl⟩, q m h1 h2⟩
/-! ### zip(t, l) -/
abbrev zH1 (h : Heap) (l1 : Addr) : Heap := h.push { cls := .type "tuple_iterator", data := .fields #[.ref l1, .int 0 0] }
abbrev zH2 (h : Heap) (l1 l2 : Addr) : Heap := (zH1 h l1).push { cls := .type "list_iterator", data := .fields #[.ref l2, .int 0 0] }
abbrev zH3 (h : Heap) (l1 l2 : Addr) : Heap := (zH2 h l1 l2).push { cls := .type "tuple", data := .seq #[.ref h.objs.size, .ref (zH1 h l1).objs.size] }
abbrev zH4 (h : Heap) (l1 l2 : Addr) : Heap := (zH3 h l1 l2).push { cls := .type "tuple", data := .seq #[.none, .none] }
abbrev zH5 (h : Heap) (l1 l2 : Addr) : Heap := (zH4 h l1 l2).push { cls := .type "zip", data := .fields #[.none, .bool false, .bool false, .ref (zH2 h l1 l2).objs.size, .ref (zH3 h l1 l2).objs.size] }
theorem meets_zipTL_new (l1 l2 : Addr) (xs ys : Array Value) :
    Meets (Builtin.«zip.__new__» ⟨[.type "zip", .ref l1, .ref l2], []⟩) (fun _ R s => s.heap.IsTuple l1 xs ∧ s.heap.IsList l2 ys ∧
      R (.ok (.ret (.ref (zH4 s.heap l1 l2).objs.size))) { s with heap := zH5 s.heap l1 l2 }) :=
  .of_wp fun prog w A R s h => by
    obtain ⟨hp, g, d, tk, os⟩ := s; obtain ⟨hl1, hl2, h⟩ := h
    have hsub := sub_zip
    have hL1 : Heap.IsTuple (Shared.heap ⟨hp, g, d, tk, os⟩) l1 xs := hl1
    have hL2 : Heap.IsList (Shared.heap ⟨hp.push { cls := .type "tuple_iterator", data := .fields #[.ref l1, .int 0 0] }, g, d, tk, os⟩) l2 ys := Heap.IsList.push hl2 _
    wp_walk using wpAny_pyIter_tuple hL1, wpAny_pyIter_list hL2
    exact ⟨_, rfl, h⟩
section
variable {prog : Program} {w : World} {A : Around} {E : Value → Shared → Prop} {s : Shared}
theorem call_zipTL {l1 l2 : Addr} {xs ys : Array Value} {Q : Value → Shared → Prop} (hl1 : s.heap.IsTuple l1 xs) (hl2 : s.heap.IsList l2 ys)
    (h : ∀ h', IsZip h' (s.heap.objs.size + 4) (s.heap.objs.size + 2) (s.heap.objs.size + 3) .none → IsPair h' (s.heap.objs.size + 2) (.ref s.heap.objs.size) (.ref (s.heap.objs.size + 1)) →
      IsPair h' (s.heap.objs.size + 3) .none .none → h'.IsTupleIter s.heap.objs.size l1 0 → h'.IsListIter (s.heap.objs.size + 1) l2 0 → h'.objs.size = s.heap.objs.size + 5 →
      (∀ c o, s.heap.get? c = some o → h'.get? c = some o) → Q (.ref (s.heap.objs.size + 4)) { s with heap := h' }) :
    wpAny (model prog w) A (call (.type "zip") [.ref l1, .ref l2]) Q E s := by
  refine callType_new F.called_zip (by decide) (F.typeCall_zip_2 _ _) (F.newCall_zip_2 _ _) (fun obj => F.args_object_init_3 obj _ _) F.entry_zip_new
    (meets_zipTL_new l1 l2 xs ys) ⟨hl1, hl2, ?_⟩
  have z1 : (zH1 s.heap l1).objs.size = s.heap.objs.size + 1 := Heap.size_push ..
  have z2 : (zH2 s.heap l1 l2).objs.size = s.heap.objs.size + 2 := by rw [Heap.size_push, z1]
  have z3 : (zH3 s.heap l1 l2).objs.size = s.heap.objs.size + 3 := by rw [Heap.size_push, z2]
  have z4 : (zH4 s.heap l1 l2).objs.size = s.heap.objs.size + 4 := by rw [Heap.size_push, z3]
  have z5 : (zH5 s.heap l1 l2).objs.size = s.heap.objs.size + 5 := by rw [Heap.size_push, z4]
  have g5 : (zH5 s.heap l1 l2).get? (zH4 s.heap l1 l2).objs.size = some _ := Heap.get?_push_size _ rfl
  have g4 : (zH5 s.heap l1 l2).get? (zH3 s.heap l1 l2).objs.size = some _ := Heap.get?_push_of_some _ (Heap.get?_push_size _ rfl)
  have g3 : (zH5 s.heap l1 l2).get? (zH2 s.heap l1 l2).objs.size = some _ := Heap.get?_push_of_some _ (Heap.get?_push_of_some _ (Heap.get?_push_size _ rfl))
  have g2 : (zH5 s.heap l1 l2).get? (zH1 s.heap l1).objs.size = some _ := Heap.get?_push_of_some _ (Heap.get?_push_of_some _ (Heap.get?_push_of_some _ (Heap.get?_push_size _ rfl)))
  have g1 : (zH5 s.heap l1 l2).get? s.heap.objs.size = some _ := Heap.get?_push_of_some _ (Heap.get?_push_of_some _ (Heap.get?_push_of_some _ (Heap.get?_push_of_some _ (Heap.get?_push_size _ rfl))))
  show _ ∧ _
  rw [z2, z3, z4] at g5
  rw [z1, z2] at g3
  rw [z3] at g4
  rw [z1] at g2
  rw [z4]
  exact ⟨⟨_, g5, rfl⟩, h _ g5 g3 g4 ⟨_, g1, rfl, rfl⟩ ⟨_, g2, rfl, rfl⟩ z5 fun c o x =>
    Heap.get?_push_of_some _ (Heap.get?_push_of_some _ (Heap.get?_push_of_some _ (Heap.get?_push_of_some _ (Heap.get?_push_of_some _ x))))⟩
end
/-- the tuple at a and the list at b, the items in new pairs -/
def ItzM (K : PySem.W.Frag) (a b : Addr) : It :=
  ⟨fun i H => ∃ (xs ys : List V) (x y : V), SqT K H a xs ∧ SqL K H b ys ∧ xs[i]? = some x ∧ ys[i]? = some y,
    fun i H v H' => ∃ T x y, v = .ref T ∧ H T = none ∧ H' = upd H T (.tup [x, y]) ∧ (∀ xs, SqT K H a xs → xs[i]? = some x) ∧ ∀ ys, SqL K H b ys → ys[i]? = some y,
    fun i H => ∃ xs ys : List V, SqT K H a xs ∧ SqL K H b ys ∧ xs.length = i ∧ ys.length = i⟩
theorem sep_of {h : Heap} {z TI TO i1 i2 a b : Addr} (D : ZipApart z TI TO i1 i2 a b) : ZipSep2 z TI TO i1 i2 [i1, a] [i2, b] where
  TIz := D.TIz
  TOz := D.TOz
  TITO := D.TITO
  TIi1 := D.TIi1
  mem1 := by simp
  zf1 := by simp [D.i1z.symm, D.l1z.symm]
  Tf1 := by simp [D.TOi1, D.l1TO.symm]
  TIi2 := D.TIi2
  mem2 := by simp
  zf2 := by simp [D.i2z.symm, D.l2z.symm]
  Tf2 := by simp [D.TOi2, D.l2TO.symm]
  sep1_2 := by simp [D.i12, D.l2i1.symm]
  sep2_1 := by simp [D.i12.symm, D.l1i2.symm]
theorem draws_tuple {prog : Program} {w : World} {A : Around} (hh : A.handled = none) (it l : Addr) (hne : l ≠ it) (items : Array Value) :
    Draws prog w A it [it, l] items.size (fun i v => items[i]? = some v) (fun i h => h.IsTupleIter it l i ∧ h.IsTuple l items) where
  live := fun _ _ st => let ⟨o, ho, _⟩ := st.1; ⟨o, ho⟩
  frame := fun _ _ _ st hk => ⟨st.1.at fun o e => hk it (by simp) o e, st.2.at fun o e => hk l (by simp) o e⟩
  item := fun i s Q E hi st hQ => by
    refine RZ.nextOf_tuple_item st.1 st.2 (x := items[i]) (by simp [hi]) fun h' hit' hs' => ?_
    exact hQ _ h' s.toks (by simp [hi]) ⟨hit', st.2.extBut hs'.extBut hne⟩ hs'
  done := fun s Q E st hE => RZ.nextOf_tuple_end hh st.1 st.2 (by simp) hE
theorem turn_zipM {P : Program} {w : World} {K : PySem.W.Frag} {elts : List Expr} {kk : Nat} {tpos : Pos} {a b z TI TO i1 i2 : Addr} (D : ZipApart z TI TO i1 i2 a b) :
    Turn P w K (.Tuple elts kk tpos) (ItzM K a b) [z, TI, TO, i1, i2] z (fun i h => IsZip h z TI TO .none ∧ IsPair h TI (.ref i1) (.ref i2) ∧ (∃ x y, IsPair h TO x y) ∧ h.IsTupleIter i1 a i ∧ h.IsListIter i2 b i) where
  mem := by simp
  obj := fun i h st c hc => by
    obtain ⟨hz, hTI, ⟨x, y, hTO⟩, ⟨o1, e1, _, d1⟩, ⟨o2, e2, _, d2⟩⟩ := st
    have e' : c = z ∨ c = TI ∨ c = TO ∨ c = i1 ∨ c = i2 := by simpa using hc
    rcases e' with q | q | q | q | q
    · rw [q]; exact ⟨_, hz, fun v q => nomatch q⟩
    · rw [q]; exact ⟨_, hTI, fun v q => nomatch q⟩
    · rw [q]; exact ⟨_, hTO, fun v q => nomatch q⟩
    · rw [q]; exact ⟨o1, e1, fun v q => by rw [d1] at q; cases q⟩
    · rw [q]; exact ⟨o2, e2, fun v q => by rw [d2] at q; cases q⟩
  keep := fun i h h' st k => by
    obtain ⟨hz, hTI, ⟨x, y, hTO⟩, h1, h2⟩ := st
    exact ⟨k z (by simp) _ hz, k TI (by simp) _ hTI, ⟨x, y, k TO (by simp) _ hTO⟩, h1.at fun o q => k i1 (by simp) o q, h2.at fun o q => k i2 (by simp) o q⟩
  item := by
    intro X hP hw hK hc i pins s σ H E I hf st hg
    subst hP hw hK
    obtain ⟨hz, hTI, ⟨x0, y0, hTO⟩, h1, h2⟩ := st
    obtain ⟨xs, ys, x, y, hqx, hqy, hx, hy⟩ := hg
    obtain ⟨its, rv, p, _⟩ := I.tuple hqx
    obtain ⟨its2, rv2, p2, _⟩ := I.list hqy
    obtain ⟨u, hu, ru⟩ := rv.get hx
    obtain ⟨u2, hu2, ru2⟩ := rv2.get hy
    have hzl : z < s.heap.objs.size := Heap.lt_size hz
    have lt1 : i < its.toArray.size := by
      rw [List.size_toArray]
      exact (List.getElem?_eq_some_iff.mp hu).1
    have lt2 : i < its2.toArray.size := by
      rw [List.size_toArray]
      exact (List.getElem?_eq_some_iff.mp hu2).1
    refine wpAny_pyNext_zipD2_item (sep_of (h := s.heap) D) (draws_tuple (A := X.A.in1) (I.ok.hd hc) i1 a D.l1i1 its.toArray) (Draws.list (A := X.A.in1) (I.ok.hd hc) i2 b D.l2i2 its2.toArray) hz hTI hTO ⟨h1, p⟩ ⟨h2, p2.isList⟩ lt1 lt2 fun w1 w2 h' tk e1 e2 z' TO' s1' s2' hT hsz hk => ?_
    have e1' : w1 = u := by
      have : its[i]? = some w1 := by simpa using e1
      rw [hu] at this
      exact (Option.some.inj this).symm
    have e2' : w2 = u2 := by
      have : its2[i]? = some w2 := by simpa using e2
      rw [hu2] at this
      exact (Option.some.inj this).symm
    subst e1' e2'
    refine ⟨_, rfl, wpAny_letOwnedTupleGo_zip (s := { s with heap := h', toks := tk }) z' fun h'' z'' sb => ?_⟩
    have hT2 : h''.get? s.heap.objs.size = some { cls := .type "tuple", data := .seq #[w1, w2] } := (sb.2 _ (Nat.ne_of_gt hzl)).trans hT
    have new : ObjOk X.prog X.w (upd H s.heap.objs.size (.tup [x, y])) h'' s.heap.objs.size (.tup [x, y]) :=
      ⟨by show 2 ≤ sizeLine; decide, [w1, w2], .cons ru (.cons ru2 .nil), ⟨_, hT2, rfl, _, rfl⟩⟩
    have I1 : Inv X pins σ (upd H s.heap.objs.size (.tup [x, y])) { s with heap := h'', toks := tk } :=
      I.turnedNew (t' := tk) (ch := [z, TI, TO, i1, i2]) (fun c o hb q => (sb.2 c (fun q' => hb (by simp [q']))).trans (hk c o (fun q' => hb (by simp [q'])) (fun q' => hb (by simp [q'])) (fun q' => hb (by simp [q'])) (fun q' => hb (by simp [q'])) q)) hf (Nat.le_refl _) new
    refine ⟨.ref s.heap.objs.size, _, I1, rfl, ⟨_, x, y, rfl, I.hok.fresh (Nat.le_refl _), rfl, fun l hl => by rw [I.tuple_inj hl hqx]; exact hx, fun l hl => by rw [I.list_inj hl hqy]; exact hy⟩, ⟨z'', ?_, ⟨w1, w2, ?_⟩, ?_, ?_⟩, fun c hcm => ?_⟩
    · exact (sb.2 _ D.TIz).trans (hk _ _ D.TIz D.TITO D.TIi1 D.TIi2 hTI)
    · exact (sb.2 _ D.TOz).trans TO'
    · exact s1'.1.at fun o q => (sb.2 _ D.i1z).trans q
    · exact s2'.1.at fun o q => (sb.2 _ D.i2z).trans q
    · have hlt : c < s.heap.objs.size := by
        have e' : c = z ∨ c = TI ∨ c = TO ∨ c = i1 ∨ c = i2 := by simpa using hcm
        rcases e' with q | q | q | q | q
        · rw [q]; exact hzl
        · rw [q]; exact Heap.lt_size hTI
        · rw [q]; exact Heap.lt_size hTO
        · rw [q]; obtain ⟨_, e1, _⟩ := h1; exact Heap.lt_size e1
        · rw [q]; obtain ⟨_, e2, _⟩ := h2; exact Heap.lt_size e2
      rw [upd_ne (Nat.ne_of_lt hlt)]
      exact (hf c hcm).1
  done := by
    intro X hP hw hK hc i pins s σ H E I hf st hg
    subst hP hw hK
    obtain ⟨hz, hTI, ⟨x0, y0, hTO⟩, h1, h2⟩ := st
    obtain ⟨xs, ys, hqx, hqy, he1, he2⟩ := hg
    obtain ⟨its, rv, p, _⟩ := I.tuple hqx
    obtain ⟨its2, rv2, p2, _⟩ := I.list hqy
    have l1 := rv.length
    have l2 := rv2.length
    refine wpAny_pyNext_zipD2_end (sep_of (h := s.heap) D) (draws_tuple (A := X.A.in1) (I.ok.hd hc) i1 a D.l1i1 its.toArray) (Draws.list (A := X.A.in1) (I.ok.hd hc) i2 b D.l2i2 its2.toArray) hz hTI hTO ⟨h1, p⟩ ⟨h2, p2.isList⟩ (by rw [List.size_toArray]; omega) (by rw [List.size_toArray]; omega) (.inl (by rw [List.size_toArray]; omega)) fun h' tk hk => ⟨rfl, I.turnedL (t' := tk) (ch := [z, TI, TO, i1, i2]) (fun c o hb q =>
      hk c o (fun q' => hb (by simp [q'])) (fun q' => hb (by simp [q'])) (fun q' => hb (by simp [q'])) (fun q' => hb (by simp [q'])) q) hf⟩
  self := fun A i s Q E st h => wpAny_pyIter_zip st.1 h
def iZipM (K : PySem.W.Frag) (ta : TA) : TI := fun σ H R => ta σ H fun vs H1 => ∃ a b xs ys, vs = [.ref a, .ref b] ∧ SqT K H1 a xs ∧ SqL K H1 b ys ∧ R (ItzM K a b) H1
theorem pi_zipM {X : Cx} {e e2 : Expr} {ta : TA} {p pos tpos : Pos} {elts : List Expr} {kk : Nat} (hg : Gl X "zip") (hm : X.mg "zip" = none) (ha : PA X [e, e2] ta)
    (hs : starEach [e, e2] X.env = (false, eval e X.env) :: starEach [e2] X.env := by rfl) (hpl : (backTo pos (starEach [e2] X.env)).any (·.1) = false := by rfl) :
    PI X (.Tuple elts kk tpos) (.Call (.Name "zip" p) [e, e2] [] pos) (iZipM X.K ta) := by
  refine ⟨fun pins s σ H R I h => ?_⟩
  refine Call_ (ld_blt I hg hm PyProof.Rows.boot_zip (PyProof.Rows.callWith_type1 (thn (ha.run pos pins s σ H _ I h) fun us s1 ⟨vs, H1, I1, r1, q1⟩ => ?_) hs hpl))
  obtain ⟨a, b, xs, ys, ex, hqx, hqy, q⟩ := q1
  subst ex
  cases r1 with
  | cons r rr =>
    cases rr with
    | cons r' rr =>
      cases rr
      cases r
      cases r'
      have fresh5 : ∀ c, c ∈ [s1.heap.objs.size + 4, s1.heap.objs.size + 2, s1.heap.objs.size + 3, s1.heap.objs.size, s1.heap.objs.size + 1] → FpOk X pins H1 c := fun c hcm => by
        have e' : c = s1.heap.objs.size + 4 ∨ c = s1.heap.objs.size + 2 ∨ c = s1.heap.objs.size + 3 ∨ c = s1.heap.objs.size ∨ c = s1.heap.objs.size + 1 := by simpa using hcm
        have hle : s1.heap.objs.size ≤ c := by
          rcases e' with z | z | z | z | z
          · rw [z]; exact Nat.le_add_right _ _
          · rw [z]; exact Nat.le_add_right _ _
          · rw [z]; exact Nat.le_add_right _ _
          · rw [z]; exact Nat.le_refl _
          · rw [z]; exact Nat.le_add_right _ _
        exact I1.fpOk hle (I1.hok.fresh hle)
      obtain ⟨its, rv, p1, _⟩ := I1.tuple hqx
      obtain ⟨its2, rv2, p2, _⟩ := I1.list hqy
      obtain ⟨o1, ho1, _⟩ := id p1
      refine call_zipTL (show s1.heap.IsTuple a its.toArray from p1) p2.isList fun h' hz hTI hTO h1 h2 hsz hk => wpAny_pyIter_zip hz ?_
      have I2 : Inv X pins σ H1 { s1 with heap := h' } := I1.kept (t' := s1.toks) hk
      exact ⟨s1.heap.objs.size + 4, [s1.heap.objs.size + 4, s1.heap.objs.size + 2, s1.heap.objs.size + 3, s1.heap.objs.size, s1.heap.objs.size + 1], _, _, H1, rfl, I2, turn_zipM (PySem.W.ktu_apart s1.heap.objs.size a b (Heap.lt_size ho1) p2.lt), ⟨hz, hTI, ⟨_, _, hTO⟩, h1, h2⟩, fresh5, q⟩
section
variable {K : PySem.W.Frag} {a b : Addr} {xs ys : List V}
theorem walk_zipM (hl : xs.length = ys.length) : Walk (ItzM K a b) xs.length (fun H => SqT K H a xs ∧ SqL K H b ys) (YPair (fun i => xs[i]?) (fun i => ys[i]?)) := by
  refine ⟨fun i _ hi q => ?_, fun _ q => ⟨xs, ys, q.1, q.2, rfl, hl.symm⟩, fun i H v H' _ q y => ?_⟩
  · have h2 : i < ys.length := by omega
    exact ⟨xs, ys, xs[i], ys[i], q.1, q.2, by simp [hi], by simp [h2]⟩
  · obtain ⟨T, x, z, h1, h2, h3, h4, h5⟩ := y
    exact ⟨T, x, z, h1, h2, h3, h4 xs q.1, h5 ys q.2⟩
theorem walk_zipT (hl : xs.length = ys.length) : Walk (RZ.ItzT K a b) xs.length (fun H => SqT K H a xs ∧ SqT K H b ys) (YPair (fun i => xs[i]?) (fun i => ys[i]?)) := by
  refine ⟨fun i _ hi q => ?_, fun _ q => ⟨xs, ys, q.1, q.2, .inl (Nat.le_refl _)⟩, fun i H v H' _ q y => ?_⟩
  · have h2 : i < ys.length := by omega
    exact ⟨xs, ys, xs[i], ys[i], q.1, q.2, by simp [hi], by simp [h2]⟩
  · obtain ⟨T, x, z, h1, h2, h3, h4, h5⟩ := y
    exact ⟨T, x, z, h1, h2, h3, h4 xs q.1, h5 ys q.2⟩
end
end R1
set_option Elab.async false
set_option linter.all false
set_option maxRecDepth 100000
namespace K05
open PySem PySem.Spec PyProof.Rows L2 R1
def okAt (m : Int) (L : List Trm) (k : Nat) : Prop := ∀ r, L[k]? = some r → (r.ns.length : Int) = m ∧ r.c ≠ 0 ∧ ∀ r', 0 < k → L[k - 1]? = some r' → HT.lexLt r'.ns r.ns = true
def Right (m : Int) (L : List Trm) : Prop := ∀ k, k < L.length → okAt m L k
abbrev nmIs : List Str := ["told", "many", "at", "powers", "coefficient"]
theorem scIs : FnScope nmIs ["told", "many"] (defScope sIs) := ⟨rfl, rfl, rfl, by decide +kernel, rfl, by decide +kernel, by decide +kernel⟩
theorem row_at {L : List Trm} {k : Nat} {r : Trm} (h : L[k]? = some r) : (L.map Trm.v)[k]? = some (V.ref r.t) := by
  rw [List.getElem?_map, h]
  rfl
/-! ### f(k = v, ..), nothing by position -/
theorem pe_callK0 {X : Cx} {CX : CXT} {k : Nat} {f : Addr} {fd : FuncData} {ps ks : List Str} {sp : Sp} {E : XK} {x : Str} {p pos : Pos} {kws : List Keyword} {tk : TA} {g : List Value → List Value → List Value} {gV : List V → List V → List V}
    (F : FnOk X.prog X.w X.K X.mg X.base CX k f fd ps sp) (hr : Room k X.A) (hg : Gl X x) (hm : X.mg x = some (.ref f)) (hk : PySem.W.keepIn X.K (.ref f) = true) (hb : KBinds X.K fd ps ks g gV) (hx : Passes CX X E)
    (hkw : PK X kws tk) (hall : (backToKw pos (keywordEach kws X.env)).all (·.1.isSome) = true := by rfl) (hks : (backToKw pos (keywordEach kws X.env)).filterMap (·.1) = ks := by rfl)
    (hdb : (x == ("__debug__" : Str)) = false := by decide) (hpl : ((backTo pos (starEach [] X.env)).any (·.1) || (backToKw pos (keywordEach kws X.env)).any (·.1.isNone)) = false := by rfl) :
    PE X (.Call (.Name x p) [] kws pos) (tCallK sp gV E tNil tk) := by
  refine ⟨fun pins s σ H Q I h => ?_⟩
  refine wpAny_Call_Name_kw (ld_glob I hg hm ?_ hdb)
  refine PySem.W.callWith_KW0 (h₀ := X.base) I.ok.mod.kin hk hall (thn (hkw.run pos pins s σ H _ I h) fun ws s2 ⟨zs, H2, I2, rz, q2⟩ => ⟨I2.kIn, ?_⟩) hpl
  rw [hks]
  exact run_fnk F hr hb hx I2 .nil rz q2
section
variable {P : Program} {w : World} {K : PySem.W.Frag} {mg : Str → Option Value} {base : Heap}
/-! ### is_sum -/
def spIs (K : PySem.W.Frag) : Sp := fun vs H Q _ => ∃ (t : Addr) (m : Int) (L : List Trm), vs = [.ref t, .int m] ∧ SqT K H t (L.map Trm.v) ∧ RowsOk H L ∧ L.length ≤ 1000 ∧ ∀ (b : Bool) H', Same H H' → (b = true ↔ Right m L) → Q (.bl b) H'
theorem sqt_same {H H' : Hp} {t : Addr} {xs : List V} (s : Same H H') (h : SqT K H t xs) : SqT K H' t xs := by
  rcases h with (h | ⟨o, h⟩) | h
  · exact .inl (.inl (s _ _ h))
  · exact .inl (.inr ⟨o, s _ _ h⟩)
  · exact .inr h
theorem same_keepT {H H' : Hp} (s : Same H H') : KeepT H H' := fun b xs e => s b _ e
theorem ok_is {f : Addr} {fd : FuncData} {k : Nat} (F : Fun K "is_sum" "is_sum" sIs f fd) (mn : mg "enumerate" = none) (me : mg "len" = none) : FnOk P w K mg base CX0 (k + 1) f fd ["told", "many"] (spIs K) := by
  refine F.ok scIs (fun vs H Q E h => ?_) (fun cdv A outer s H vs Q E hr h => ?_)
  · obtain ⟨l, m, L, rfl, _⟩ := h
    rfl
  · obtain ⟨t, m, L, rfl, hl, ho, hL, q⟩ := h
    have hu := hu_of hr
    refine ⟨_, pss_cons (ps_for PassesOwn.never rfl (pi_enumT (by rfl) mn (pa_cons (pv 0) pa_nil)) (pg_tup rfl (pgs_cons (pg_name (i := 2) scIs.nd rfl (.inl rfl)) (pgs_cons (pg_tup rfl (pgs_cons (pg_name (i := 3) scIs.nd rfl (.inl rfl)) (pgs_cons (pg_name (i := 4) scIs.nd rfl (.inl rfl)) pgs_nil))) pgs_nil)))
        (Evl.pss_cut (ps_if (PW.pt (pw_or (pt_cmpR op_ne (pe_callB call_len_seq (by rfl) me PySem.boot_len (pa_cons (pv 3) pa_nil)) (pv 1) (nomark _)) (pw_or1 (pt_cmpR op_eq (pv 4) pe_int (nomark _)))))
          (pss_one (ps_ret pe_bl)) pss_nil)
        (pss_one (ps_if (PW.pt (pw_and (pt_truth (pv 2) (by intro _; rfl)) (pw_and1 (pt_cmpR (op_geT (Nat.lt_of_succ_lt hu)) (pe_ix ix_tup (pe_ix ix_tup (pv 0) (pe_op op_sub (pv 2) pe_int) (fun _ _ => rfl)) pe_int (fun _ _ => rfl)) (pv 3) (nomark _)))))
          (pss_one (ps_ret pe_bl)) pss_nil))))
      (pss_one (ps_ret pe_bl)), ?_⟩
    refine ⟨.ref t, rfl, t, _, rfl, hl, for_it (walk_enumT (K := K) (a := t) (xs := L.map Trm.v)) (fun i σ H' => ∃ y2 y3 y4, σ = [some (.ref t), some (.int m), y2, y3, y4] ∧ Same H H' ∧ ∀ k, k < i → okAt m L k)
      ⟨none, none, none, rfl, Same.refl _, fun k h => by omega⟩ (fun i σ H' _ h => ?_) (fun i x σ H0 H' hi h hy => ?_) (fun σ H' h => ?_)⟩
    · obtain ⟨y2, y3, y4, rfl, sm, _⟩ := h
      exact sqt_same sm hl
    · obtain ⟨y2, y3, y4, rfl, sm0, hk⟩ := h
      obtain ⟨T, z1, z2, rfl, nT, rfl, e1, e2⟩ := hy
      cases e1
      rw [List.length_map] at hi
      obtain ⟨r, hr1⟩ : ∃ r, L[i]? = some r := ⟨L[i], List.getElem?_eq_getElem hi⟩
      cases (row_at hr1).symm.trans e2
      have sm : Same H (upd H0 T (.tup [.int (i : Nat), .ref r.t])) := sm0.trans (same_new nT)
      obtain ⟨o1, o2⟩ := (ho.keep (same_keepT sm)) r (List.mem_of_getElem? hr1)
      have hl' := sqt_same sm hl
      have bad : ¬ okAt m L i → Q (.bl false) (upd H0 T (.tup [.int (i : Nat), .ref r.t])) := fun hb => q false _ sm ⟨(fun h => by cases h), fun h => absurd (h i hi) hb⟩
      refine ⟨T, _, rfl, .inl (.inl upd_same), rfl, _, _, rfl, _, _, rfl, r.t, _, rfl, .inl (.inl o1), rfl, _, _, rfl, _, _, rfl, rfl, rfl, ?_⟩
      refine ⟨fun σ' H'' => σ' = [some (.ref t), some (.int m), some (.int (i : Nat)), some (.ref r.p), some (.int r.c)] ∧ H'' = upd H0 T (.tup [.int (i : Nat), .ref r.t]) ∧ (r.ns.length : Int) = m ∧ r.c ≠ 0, ?_, ?_⟩
      · refine ⟨.ref r.p, rfl, r.p, _, rfl, .inr (.inl (.inl o2)), .int m, rfl, rfl, _, rfl, ?_⟩
        rw [List.length_map]
        by_cases hm : (r.ns.length : Int) = m
        · refine ite2 (fun e => ?_) (fun _ => ?_)
          · exact absurd e (by simp [hm])
          · refine ⟨.int r.c, rfl, rfl, _, rfl, ?_⟩
            by_cases hc : r.c = 0
            · refine ite2 (fun _ => ?_) (fun e => absurd (decide_eq_true (by rw [hc])) e)
              exact bad fun h => (h r hr1).2.1 hc
            · refine ite2 (fun e => absurd (V.int.inj (of_decide_eq_true e)) hc) (fun _ => ?_)
              exact ⟨rfl, rfl, hm, hc⟩
        · refine ite2 (fun _ => ?_) (fun e => ?_)
          · exact bad fun h => hm (h r hr1).1
          · exact absurd (by simp [hm]) e
      · rintro σ' H'' ⟨rfl, rfl, hm, hc⟩
        refine ⟨.int (i : Nat), rfl, _, rfl, ite2 (fun e => ?_) (fun e => iteF ?_)⟩
        · have hi0 : 0 < i := by
            have : (i : Int) ≠ 0 := by simpa using e
            omega
          obtain ⟨r', hr2⟩ : ∃ r', L[i - 1]? = some r' := ⟨L[i - 1], List.getElem?_eq_getElem (by omega)⟩
          obtain ⟨p1, p2⟩ := (ho.keep (same_keepT sm)) r' (List.mem_of_getElem? hr2)
          have ei2 : (i : Int) - 1 = ((i - 1 : Nat) : Int) := by omega
          refine ⟨.ref t, rfl, .int (i : Nat), rfl, i, 1, rfl, rfl, t, _, _, .ref r'.t, rfl, rfl, hl', (by rw [ei2]; exact atI_nat (row_at hr2)), r'.t, _, 0, .ref r'.p, rfl, rfl, .inl (.inl p1), atI_nat (j := 0) rfl,
            .ref r.p, rfl, r'.p, r.p, r'.ns, r.ns, rfl, rfl, .inl (.inl p2), .inl (.inl o2), _, rfl, ?_⟩
          cases hlt : HT.lexLt r'.ns r.ns with
          | true =>
            refine iteF ⟨_, _, _, rfl, sm, fun k hk2 => ?_⟩
            rcases Nat.lt_succ_iff_lt_or_eq.mp hk2 with h | rfl
            · exact hk k h
            · intro r2 e2
              cases hr1.symm.trans e2
              exact ⟨hm, hc, fun r3 _ e3 => by cases hr2.symm.trans e3; exact hlt⟩
          | false =>
            refine iteT ?_
            refine bad fun h => ?_
            have := (h r hr1).2.2 r' hi0 hr2
            rw [hlt] at this
            cases this
        · have hi0 : i = 0 := by
            by_cases h : i = 0
            · exact h
            · exact absurd (by simpa using h) e
          refine ⟨_, _, _, rfl, sm, fun k hk2 => ?_⟩
          rcases Nat.lt_succ_iff_lt_or_eq.mp hk2 with h | rfl
          · exact hk k h
          · intro r2 e2
            cases hr1.symm.trans e2
            exact ⟨hm, hc, fun r3 h3 _ => by omega⟩
    · obtain ⟨y2, y3, y4, rfl, sm, hk⟩ := h
      rw [List.length_map] at hk
      exact q true _ sm ⟨fun _ => hk, fun _ => rfl⟩

/-! ### sums as data -/
/-- what is a sum of m letters -/
def Good (m : Nat) (D : List (List Int × Int)) : Prop := (∀ q ∈ D, q.1.length = m ∧ q.2 ≠ 0) ∧ D.Pairwise fun x y => HT.lexLt x.1 y.1 = true
theorem good_right {m : Nat} {L : List Trm} (h : Good m (L.map Trm.d)) : Right m L := fun k hk r hr => by
  obtain ⟨h1, h2⟩ := h
  obtain ⟨a1, a2⟩ := h1 r.d (List.mem_map_of_mem (List.mem_of_getElem? hr))
  refine ⟨by show ((r.d.1.length : Nat) : Int) = m; rw [a1], a2, fun r' h0 hr' => ?_⟩
  rw [List.pairwise_map] at h2
  obtain ⟨i1, e1⟩ := List.getElem?_eq_some_iff.mp hr
  obtain ⟨i2, e2⟩ := List.getElem?_eq_some_iff.mp hr'
  have := List.pairwise_iff_getElem.mp h2 (k - 1) k i2 i1 (by omega)
  rw [e1, e2] at this
  exact this
/-- a sum at an address -/
structure SumAt (H : Hp) (t : Addr) (L : List Trm) : Prop where
  at_ : H t = some (.tup (L.map Trm.v))
  rows : RowsOk H L
theorem SumAt.same {H H' : Hp} {t : Addr} {L : List Trm} (h : SumAt H t L) (s : Same H H') : SumAt H' t L := ⟨s _ _ h.at_, h.rows.keep (same_keepT s)⟩
theorem SumAt.sq {K : PySem.W.Frag} {H : Hp} {t : Addr} {L : List Trm} (h : SumAt H t L) : SqT K H t (L.map Trm.v) := .inl (.inl h.at_)
/-! ### check_sum -/
def spCheck : Sp := fun vs H Q _ => ∃ (t : Addr) (m : Int) (L : List Trm), vs = [.ref t, .int m] ∧ SumAt H t L ∧ L.length ≤ 1000 ∧ Right m L ∧ ∀ H', Same H H' → Q .non H'
abbrev nmCheck : List Str := ["told", "many"]
theorem scCheck : FnScope nmCheck ["told", "many"] (defScope sCheck) := ⟨rfl, rfl, rfl, by decide +kernel, rfl, by decide +kernel, by decide +kernel⟩
theorem ok_check {f fI : Addr} {fd fdI : FuncData} {k : Nat} (F : Fun K "check_sum" "check_sum" sCheck f fd) (FI : Fun K "is_sum" "is_sum" sIs fI fdI) (bI : Binds K fdI ["told", "many"] []) (gI : mg "is_sum" = some (.ref fI)) (mn : mg "enumerate" = none) (me : mg "len" = none) : FnOk P w K mg base CX0 (k + 2) f fd ["told", "many"] spCheck := by
  have GI : FnOk P w K mg base CX0 (k + 1) fI fdI ["told", "many"] (spIs K) := ok_is FI mn me
  refine F.ok scCheck (fun vs H Q E h => ?_) (fun cdv A outer s H vs Q E hr h => ?_)
  · obtain ⟨l, m, L, rfl, _⟩ := h
    rfl
  · obtain ⟨t, m, L, rfl, hS, hL, hR, q⟩ := h
    refine ⟨_, pss_one (ps_if (pt_not (pt_val (pe_call GI hr (by rfl) gI FI.kp bI .nil pass0 (pa_cons (pv 0) (pa_cons (pv 1) pa_nil))))) pss_never pss_nil), ?_⟩
    refine ⟨.ref t, rfl, .int m, rfl, t, m, L, rfl, hS.sq, hS.rows, hL, fun b H' s' hb => ?_⟩
    have : b = true := hb.mpr hR
    subst this
    exact ⟨true, rfl, iteF (q _ s')⟩
/-! ### letters_of -/
def spLettersOf (K : PySem.W.Frag) : Sp := fun vs H Q _ => ∃ (l t : Addr) (m : Nat) (L : List Trm), vs = [.ref l] ∧ SqL K H l [.ref t] ∧ SumAt H t L ∧ L.length ≤ 1000 ∧ 0 < m ∧ Good m (L.map Trm.d) ∧ ∀ H', Same H H' → Q (.int (if L.isEmpty then 0 else (m : Int))) H'
abbrev nmLettersOf : List Str := ["sums", "many", "told"]
theorem scLettersOf : FnScope nmLettersOf ["sums"] (defScope sLettersOf) := ⟨rfl, rfl, rfl, by decide +kernel, rfl, by decide +kernel, by decide +kernel⟩
theorem ok_lettersOf {f fC fI : Addr} {fd fdC fdI : FuncData} {k : Nat} (F : Fun K "letters_of" "letters_of" sLettersOf f fd) (FC : Fun K "check_sum" "check_sum" sCheck fC fdC) (bC : Binds K fdC ["told", "many"] []) (gC : mg "check_sum" = some (.ref fC))
    (FI : Fun K "is_sum" "is_sum" sIs fI fdI) (bI : Binds K fdI ["told", "many"] []) (gI : mg "is_sum" = some (.ref fI)) (mn : mg "enumerate" = none) (me : mg "len" = none) : FnOk P w K mg base CX0 (k + 3) f fd ["sums"] (spLettersOf K) := by
  have GC : FnOk P w K mg base CX0 (k + 2) fC fdC ["told", "many"] spCheck := ok_check FC FI bI gI mn me
  refine F.ok scLettersOf (fun vs H Q E h => ?_) (fun cdv A outer s H vs Q E hr h => ?_)
  · obtain ⟨l, t, m, L, rfl, _⟩ := h
    rfl
  · obtain ⟨l, t, m, L, rfl, hl, hS, hL, hm, hG, q⟩ := h
    refine ⟨_, pss_cons (ps_set (i := 1) scLettersOf.nd rfl (.inl rfl) pe_int)
      (pss_cons (ps_for PassesOwn.never rfl (pi_list (pv 0)) (pg_name (i := 2) scLettersOf.nd rfl (.inl rfl))
        (Evl.pss_cut (ps_if (PW.pt (pw_and (pt_truth (pv 2) (by intro _; rfl)) (pw_and1 (pt_not (pt_truth (pv 1) (by intro _; rfl))))))
          (pss_cons (ps_set (i := 1) scLettersOf.nd rfl (.inl rfl) (pe_callB call_len_seq (by rfl) me PySem.boot_len (pa_cons (pe_ix ix_tup (pe_ix ix_tup (pv 2) pe_int (fun _ _ => rfl)) pe_int (fun _ _ => rfl)) pa_nil)))
          (pss_one (ps_if (pt_not (pt_truth (pv 1) (by intro _; rfl))) pss_never pss_nil))) pss_nil)
        (pss_one (ps_expr (pe_call GC hr (by rfl) gC FC.kp bC .nil pass0 (pa_cons (pv 2) (pa_cons (pv 1) pa_nil)))))))
      (pss_one (ps_ret (pv 1)))), ?_⟩
    refine ⟨.ref l, rfl, l, rfl, ⟨_, hl⟩, for_list (xs := [V.ref t]) (fun i σ H' => ∃ y2, σ = [some (.ref l), some (.int (if i = 0 then 0 else if L.isEmpty then 0 else (m : Int))), y2] ∧ Same H H') ⟨none, rfl, Same.refl _⟩ (fun i σ H' _ h => ?_) (fun i x σ H' hx h => ?_) (fun σ H' h => ?_)⟩
    · obtain ⟨y2, rfl, sm⟩ := h
      exact sm.seq hl
    · obtain ⟨y2, rfl, sm⟩ := h
      have hi : i = 0 := by
        have := (List.getElem?_eq_some_iff.mp hx).1
        simp at this
        exact this
      subst hi
      cases (Option.some.inj hx : V.ref t = x)
      have hS' := hS.same sm
      refine ⟨fun σ' H'' => σ' = [some (.ref l), some (.int (if L.isEmpty then 0 else (m : Int))), some (.ref t)] ∧ H'' = H', ?_, ?_⟩
      · refine ⟨.ref t, rfl, !(L.map Trm.v).isEmpty, .inr (.inl ⟨_, hS'.sq, rfl⟩), ?_⟩
        cases L with
        | nil => exact iteF ⟨rfl, rfl⟩
        | cons r L =>
          refine iteT ⟨.int 0, rfl, false, rfl, ?_⟩
          obtain ⟨o1, o2⟩ := hS'.rows r List.mem_cons_self
          have hlen : r.ns.length = m := (hG.1 r.d List.mem_cons_self).1
          refine iteT ⟨.ref t, rfl, t, _, 0, .ref r.t, rfl, rfl, hS'.sq, atI_nat (j := 0) rfl, r.t, _, 0, .ref r.p, rfl, rfl, .inl (.inl o1), atI_nat (j := 0) rfl, r.p, _, rfl, .inr (.inl (.inl o2)), ?_⟩
          refine ⟨_, rfl, true, ?_, iteF ⟨?_, rfl⟩⟩
          · show true = (((r.ns.map V.int).length : Int) != 0)
            rw [List.length_map, hlen]
            simp
            omega
          · rw [List.length_map, hlen]
            rfl
      · rintro σ' H'' ⟨rfl, rfl⟩
        refine ⟨.ref t, rfl, _, rfl, t, _, L, rfl, hS', hL, ?_, fun H2 s2 => ⟨_, rfl, sm.trans s2⟩⟩
        cases L with
        | nil => exact fun k hk => absurd hk (Nat.not_lt_zero _)
        | cons r L => exact good_right hG
    · obtain ⟨y2, rfl, sm⟩ := h
      exact ⟨_, rfl, q _ sm⟩
end
end K05
set_option Elab.async false
set_option linter.all false
set_option maxRecDepth 100000
namespace K05
open PySem PySem.Spec PyProof.Rows L2 R1 ZN
/-- how many letters stand in a sum: 0 in the sum 0 -/
def cnt (m : Nat) (L : List Trm) : Nat := if L.isEmpty then 0 else m
/-- the j-th powers of the terms -/
def col (D : List (List Int × Int)) (j : Nat) : List Int := D.map fun q => q.1.getD j 0
section
variable {P : Program} {w : World} {K : PySem.W.Frag} {mg : Str → Option Value} {base : Heap}
/-! ### lines_of -/
def spLines : Sp := fun vs H Q _ => ∃ (t : Addr) (m : Nat) (L : List Trm), vs = [.ref t] ∧ SumAt H t L ∧ L.length ≤ 1000 ∧ 0 < m ∧ m ≤ 1000 ∧ (∀ r ∈ L, r.ns.length = m) ∧
  ∀ H' (l : Addr) (as : List Addr), Same H H' → H' l = some (.lst (as.map V.ref)) → as.length = cnt m L → (∀ (j : Nat) (a : Addr), as[j]? = some a → H' a = some (.tup ((col (L.map Trm.d) j).map V.int))) → Q (.ref l) H'
abbrev nmLines : List Str := ["told", "rows", "powers", "_"]
theorem scLines : FnScope nmLines ["told"] (defScope sLines) := ⟨rfl, rfl, rfl, by decide +kernel, rfl, by decide +kernel, by decide +kernel⟩
theorem paired_rows {H : Hp} {m : Nat} : ∀ {L : List Trm}, RowsOk H L → (∀ r ∈ L, r.ns.length = m) → Paired (fun (r : Addr) (row : List V) => SqT K H r row ∧ row.length = m) (L.map Trm.p) (L.map fun r => r.ns.map V.int)
  | [], _, _ => .nil
  | r :: L, ho, hm => .cons ⟨.inl (.inl (ho r List.mem_cons_self).2), by rw [List.length_map]; exact hm r List.mem_cons_self⟩ (paired_rows (fun x hx => ho x (List.mem_cons_of_mem _ hx)) fun x hx => hm x (List.mem_cons_of_mem _ hx))
theorem small1k {n : Nat} (h : n ≤ 1000) : n ≤ sizeLine := by
  rw [sizeLine_eq]
  omega
theorem ok_lines {f : Addr} {fd : FuncData} {k : Nat} (F : Fun K "lines_of" "lines_of" sLines f fd) (ml : mg "list" = none) (mz : mg "zip" = none) : FnOk P w K mg base CX0 (k + 1) f fd ["told"] spLines := by
  refine F.ok scLines (fun vs H Q E h => ?_) (fun cdv A outer s H vs Q E hr h => ?_)
  · obtain ⟨t, m, L, rfl, _⟩ := h
    rfl
  · obtain ⟨t, m, L, rfl, hS, hL, hm0, hm1, hm, q⟩ := h
    refine ⟨_, pss_cons (ps_setLc (i := 1) (own := [("powers", 2), ("_", 3)]) (g := gTup K 2 (gCons (gName 2) (gCons (gName 3) gNil))) (by rfl) scLines.nd rfl rfl (sw_true rfl rfl rfl (by decide +kernel)) (pi_tup (pv 0)) (blkOk_by (own := [("powers", 2), ("_", 3)]) (N := nmLines) (sc := defScope sLines) (by decide +kernel))
          (fun _ _ _ _ _ => pg_tup rfl (pgs_cons (pg_name (i := 2) scLines.nd rfl (.inl rfl)) (pgs_cons (pg_name (i := 3) scLines.nd rfl (.inl rfl)) pgs_nil))) (fun _ _ _ _ _ => pts_nil) (fun _ _ _ _ _ => pv 2))
      (pss_one (ps_ret (pe_listZip (by rfl) (pv 1) (by rfl) ml (by decide +kernel) (by rfl) mz (by decide +kernel)))), ?_⟩
    refine ⟨.ref t, rfl, t, rfl, ⟨_, hS.sq⟩, fun D nD => ?_⟩
    refine lc_tup (xs := L.map Trm.v) (fun j H' => H' D = some (.lst ((L.take j).map fun r => V.ref r.p)) ∧ ∀ b o, b ≠ D → H b = some o → H' b = some o) ⟨upd_same, fun b o hb e => by rw [upd_ne hb]; exact e⟩ (fun i H' _ h => ?_) (fun i x H' hx h => ?_) (fun H' h => ?_)
    · exact .inl (.inl (h.2 t _ (ne_of_none hS.at_ nD) hS.at_))
    · obtain ⟨hD, kp⟩ := h
      rw [List.getElem?_map] at hx
      obtain ⟨r, hr1, rfl⟩ := Option.map_eq_some_iff.mp hx
      obtain ⟨o1, o2⟩ := hS.rows r (List.mem_of_getElem? hr1)
      have hlt := (List.getElem?_eq_some_iff.mp hr1).1
      refine ⟨r.t, _, rfl, .inl (.inl (kp _ _ (ne_of_none o1 nD) o1)), rfl, _, _, rfl, _, _, rfl, rfl, rfl, .ref r.p, rfl, _, hD, ?_, ?_, fun b o hb e => ?_⟩
      · rw [List.length_map, List.length_take, sizeLine_eq]
        omega
      · rw [upd_same, List.take_add_one, hr1, List.map_append]
        rfl
      · rw [upd_ne hb]
        exact kp b o hb e
    · obtain ⟨hD, kp⟩ := h
      rw [List.length_map, List.take_length] at hD
      have sm : Same H H' := fun b o e => kp b o (ne_of_none e nD) e
      refine ⟨.ref D, rfl, D, L.map Trm.p, _, cnt m L, rfl, .inr (.inl (.inl (by rw [hD, List.map_map]; rfl))), paired_rows (m := cnt m L) (hS.rows.keep (same_keepT sm)) (fun r hr => ?_), ?_, ?_, ?_, fun H2 l as k1 k2 k3 k4 k5 k6 k7 k8 => ?_⟩
      · rw [hm r hr]
        unfold cnt
        cases L with
        | nil => cases hr
        | cons _ _ => rfl
      · unfold cnt
        cases L with
        | nil => exact .inl ⟨rfl, rfl⟩
        | cons _ _ => exact .inr ⟨by simp, hm0⟩
      · unfold cnt
        split
        · exact Nat.zero_le _
        · exact small1k hm1
      · rw [List.length_map]
        exact small1k hL
      · refine q H2 l as (fun b o e => k1 b o (sm b o e)) k6 k7 fun j a ha => ?_
        rw [k8 j a ha]
        congr 2
        rw [List.map_map, col, List.map_map, List.map_map]
        refine List.map_congr_left fun r hr => ?_
        have hj : j < r.ns.length := by
          have h1 := (List.getElem?_eq_some_iff.mp ha).1
          rw [k7] at h1
          rw [hm r hr]
          unfold cnt at h1
          split at h1 <;> omega
        show (r.ns.map V.int).getD j .non = V.int (r.ns.getD j 0)
        rw [List.getD_eq_getElem?_getD, List.getD_eq_getElem?_getD, List.getElem?_map, List.getElem?_eq_getElem hj]
        rfl
/-! ### least_of -/
def IsLeast (D : List (List Int × Int)) (n : Nat) (ms : List Int) : Prop := ms.length = n ∧ ∀ j, j < n → ∃ v, ms[j]? = some v ∧ v ∈ col D j ∧ ∀ y ∈ col D j, v ≤ y
theorem IsLeast.unique {D : List (List Int × Int)} {n : Nat} {ms ns : List Int} (x : IsLeast D n ms) (y : IsLeast D n ns) : ms = ns := by
  obtain ⟨l1, h1⟩ := x
  obtain ⟨l2, h2⟩ := y
  apply List.ext_getElem?
  intro j
  by_cases hj : j < n
  · obtain ⟨v, e1, m1, b1⟩ := h1 j hj
    obtain ⟨u, e2, m2, b2⟩ := h2 j hj
    have := b1 u m2
    have := b2 v m1
    rw [e1, e2]
    congr 1
    omega
  · rw [List.getElem?_eq_none (by omega), List.getElem?_eq_none (by omega)]
def spLeast : Sp := fun vs H Q _ => ∃ (t : Addr) (m : Nat) (L : List Trm), vs = [.ref t] ∧ SumAt H t L ∧ L.length ≤ 1000 ∧ 0 < m ∧ m ≤ 1000 ∧ (∀ r ∈ L, r.ns.length = m) ∧
  ∀ H' (p : Addr) (ms : List Int), Same H H' → H p = none → H' p = some (.tup (ms.map V.int)) → IsLeast (L.map Trm.d) (cnt m L) ms → Q (.ref p) H'
abbrev nmLeast : List Str := ["told", "line"]
theorem scLeast : FnScope nmLeast ["told"] (defScope sLeast) := ⟨rfl, rfl, rfl, by decide +kernel, rfl, by decide +kernel, by decide +kernel⟩
theorem ok_least {f fL : Addr} {fd fdL : FuncData} {k : Nat} (F : Fun K "least_of" "least_of" sLeast f fd) (FL : Fun K "lines_of" "lines_of" sLines fL fdL) (bL : Binds K fdL ["told"] []) (gL : mg "lines_of" = some (.ref fL)) (ml : mg "list" = none) (mz : mg "zip" = none) (mn : mg "min" = none) (mt : mg "tuple" = none) :
    FnOk P w K mg base CX0 (k + 2) f fd ["told"] spLeast := by
  have GL : FnOk P w K mg base CX0 (k + 1) fL fdL ["told"] spLines := ok_lines FL ml mz
  refine F.ok scLeast (fun vs H Q E h => ?_) (fun cdv A outer s H vs Q E hr h => ?_)
  · obtain ⟨t, m, L, rfl, _⟩ := h
    rfl
  · obtain ⟨t, m, L, rfl, hS, hL, hm0, hm1, hm, q⟩ := h
    refine ⟨_, pss_one (ps_ret (pe_callTy call_tuple_of (by rfl) mt (by decide +kernel) (pa_cons (pe_lc (own := [("line", 1)]) (g := gName 1) (by rfl) scLeast.nd (pi_list (pe_call GL hr (by rfl) gL FL.kp bL .nil pass0 (pa_cons (pv 0) pa_nil))) (blkOk_by (own := [("line", 1)]) (N := nmLeast) (sc := defScope sLeast) (by decide +kernel))
          (fun _ _ _ _ _ => pg_name (i := 1) scLeast.nd rfl (.inl rfl)) (fun _ _ _ _ _ => pts_nil) (fun _ _ _ _ _ => pe_callB (r := rMinT K) (cr_minT (by rfl)) (by rfl) mn (by decide +kernel) (pa_cons (pv 1) pa_nil))) pa_nil))), ?_⟩
    refine ⟨.ref t, rfl, t, m, L, rfl, hS, hL, hm0, hm1, hm, fun H1 l as s1 hl hn hc => ?_⟩
    refine ⟨l, rfl, ⟨_, sqlOf hl⟩, fun D nD => ?_⟩
    have lD : l ≠ D := ne_of_none hl nD
    refine lc_list (xs := as.map V.ref) (fun j H' => ∃ ms : List Int, H' D = some (.lst (ms.map V.int)) ∧ IsLeast (L.map Trm.d) j ms ∧ ∀ b o, b ≠ D → H1 b = some o → H' b = some o) ⟨[], upd_same, ⟨rfl, fun j hj => absurd hj (Nat.not_lt_zero _)⟩, fun b o hb e => by rw [upd_ne hb]; exact e⟩ (fun i H' _ h => ?_) (fun i x H' hx h => ?_) (fun H' h => ?_)
    · obtain ⟨ms, _, _, kp⟩ := h
      exact sqlOf (kp l _ lD hl)
    · obtain ⟨ms, hD, ⟨e1, e2⟩, kp⟩ := h
      rw [List.getElem?_map] at hx
      obtain ⟨a, ha, rfl⟩ := Option.map_eq_some_iff.mp hx
      have hi := (List.getElem?_eq_some_iff.mp ha).1
      have hne : 0 < L.length := by
        cases L with
        | nil =>
          rw [hn] at hi
          exact absurd hi (Nat.not_lt_zero _)
        | cons _ _ => simp
      have hca := hc i a ha
      refine ⟨rfl, .ref a, rfl, a, _, rfl, .inl (.inl (kp a _ (ne_of_none hca nD) hca)), (by simpa [col] using hne), fun v h1 h2 => ?_⟩
      have hms : ms.length ≤ 1000 := by
        rw [e1]
        rw [hn] at hi
        unfold cnt at hi
        split at hi <;> omega
      refine ⟨_, hD, (by rw [List.length_map, sizeLine_eq]; omega), ms ++ [v], (by rw [upd_same, List.map_append]; rfl), ⟨by rw [List.length_append, e1]; rfl, fun j hj => ?_⟩, fun b o hb e => by rw [upd_ne hb]; exact kp b o hb e⟩
      rcases Nat.lt_succ_iff_lt_or_eq.mp hj with hj | rfl
      · obtain ⟨u, f1, f2⟩ := e2 j hj
        exact ⟨u, by rw [List.getElem?_append_left (by omega)]; exact f1, f2⟩
      · exact ⟨v, by rw [List.getElem?_append_right (by omega), e1]; simp, h1, h2⟩
    · obtain ⟨ms, hD, hI, kp⟩ := h
      rw [List.length_map, hn] at hI
      have sm : Same H1 H' := fun b o e => kp b o (ne_of_none e nD) e
      refine ⟨D, _, rfl, .inl ⟨sqlOf hD, fun p np => ?_⟩⟩
      exact q _ p ms ((s1.trans sm).trans (same_new np)) ((s1.trans sm).free np) upd_same hI
/-! ### least_powers -/
def spLeastP : Sp := fun vs H Q _ => ∃ (t : Addr) (m : Nat) (L : List Trm), vs = [.ref t] ∧ SumAt H t L ∧ L.length ≤ 1000 ∧ 0 < m ∧ m ≤ 1000 ∧ Good m (L.map Trm.d) ∧
  ∀ H' (p : Addr) (ms : List Int), Same H H' → H p = none → H' p = some (.tup (ms.map V.int)) → IsLeast (L.map Trm.d) (cnt m L) ms → Q (.ref p) H'
abbrev nmLeastP : List Str := ["one"]
theorem scLeastP : FnScope nmLeastP ["one"] (defScope sLeastP) := ⟨rfl, rfl, rfl, by decide +kernel, rfl, by decide +kernel, by decide +kernel⟩
theorem Good.len {m : Nat} {L : List Trm} (h : Good m (L.map Trm.d)) : ∀ r ∈ L, r.ns.length = m := fun r hr => (h.1 r.d (List.mem_map_of_mem hr)).1
theorem one1 {a : V} : [a].length ≤ sizeLine := by
  rw [sizeLine_eq]
  show 1 ≤ 16777216
  decide
/-- where the program's defs stand -/
structure Prog (K : PySem.W.Frag) (mg : Str → Option Value) (fI fC fO fN fL : Addr) (dI dC dO dN dL : FuncData) : Prop where
  Is : Fun K "is_sum" "is_sum" sIs fI dI
  Ch : Fun K "check_sum" "check_sum" sCheck fC dC
  Lo : Fun K "letters_of" "letters_of" sLettersOf fO dO
  Li : Fun K "lines_of" "lines_of" sLines fN dN
  Le : Fun K "least_of" "least_of" sLeast fL dL
  bIs : Binds K dI ["told", "many"] []
  bCh : Binds K dC ["told", "many"] []
  bLo : Binds K dO ["sums"] []
  bLi : Binds K dN ["told"] []
  bLe : Binds K dL ["told"] []
  gIs : mg "is_sum" = some (.ref fI)
  gCh : mg "check_sum" = some (.ref fC)
  gLo : mg "letters_of" = some (.ref fO)
  gLi : mg "lines_of" = some (.ref fN)
  gLe : mg "least_of" = some (.ref fL)
  enumerate : mg "enumerate" = none
  len : mg "len" = none
  list : mg "list" = none
  zip : mg "zip" = none
  min : mg "min" = none
  tuple : mg "tuple" = none
section
variable {fI fC fO fN fL : Addr} {dI dC dO dN dL : FuncData}
theorem Prog.lo {k : Nat} (D : Prog K mg fI fC fO fN fL dI dC dO dN dL) : FnOk P w K mg base CX0 (k + 3) fO dO ["sums"] (spLettersOf K) := ok_lettersOf D.Lo D.Ch D.bCh D.gCh D.Is D.bIs D.gIs D.enumerate D.len
theorem Prog.le {k : Nat} (D : Prog K mg fI fC fO fN fL dI dC dO dN dL) : FnOk P w K mg base CX0 (k + 2) fL dL ["told"] spLeast := ok_least D.Le D.Li D.bLi D.gLi D.list D.zip D.min D.tuple
theorem ok_leastP {f : Addr} {fd : FuncData} {k : Nat} (F : Fun K "least_powers" "least_powers" sLeastP f fd) (D : Prog K mg fI fC fO fN fL dI dC dO dN dL) : FnOk P w K mg base CX0 (k + 4) f fd ["one"] spLeastP := by
  have GO : FnOk P w K mg base CX0 (k + 3) fO dO ["sums"] (spLettersOf K) := D.lo
  have GE : FnOk P w K mg base CX0 (k + 2) fL dL ["told"] spLeast := D.le
  refine F.ok scLeastP (fun vs H Q E h => ?_) (fun cdv A outer s H vs Q E hr h => ?_)
  · obtain ⟨t, m, L, rfl, _⟩ := h
    rfl
  · obtain ⟨t, m, L, rfl, hS, hL, hm0, hm1, hG, q⟩ := h
    have r2 := hr.mono (show k + 2 ≤ k + 3 by omega)
    refine ⟨_, pss_cons (ps_expr (pe_call GO hr (by rfl) D.gLo D.Lo.kp D.bLo .nil pass0 (pa_cons (pe_lst (pa_cons (pv 0) pa_nil)) pa_nil)))
      (pss_one (ps_ret (pe_call GE r2 (by rfl) D.gLe D.Le.kp D.bLe .nil pass0 (pa_cons (pv 0) pa_nil)))), ?_⟩
    refine ⟨.ref t, rfl, one1, fun l nl => ?_⟩
    have s1 : Same H (upd H l (.lst [.ref t])) := same_new nl
    refine ⟨l, t, m, L, rfl, sqlOf upd_same, hS.same s1, hL, hm0, hG, fun H2 s2 => ?_⟩
    have s12 := s1.trans s2
    refine ⟨.ref t, rfl, t, m, L, rfl, hS.same s12, hL, hm0, hm1, hG.len, fun H3 p ms s3 np hp hI => ?_⟩
    exact q H3 p ms (s12.trans s3) (s12.free np) hp hI
end
end
end K05
set_option Elab.async false
set_option linter.all false
set_option maxRecDepth 100000
namespace K05
open PySem PySem.Spec PyProof.Rows L2 R1 ZN
/-- a term with ms taken from its powers -/
def less (ms : List Int) (q : List Int × Int) : List Int × Int := (List.zipWith (fun a b => a + -1 * b) q.1 ms, q.2)
theorem rows_app {H : Hp} {L M : List Trm} (h : RowsOk H L) (h' : RowsOk H M) : RowsOk H (L ++ M) := fun r hr => by
  rcases List.mem_append.mp hr with hr | hr
  · exact h r hr
  · exact h' r hr
theorem zip_take {f : Int → Int → Int} {xs ys : List Int} {i : Nat} {x y : Int} (hx : xs[i]? = some x) (hy : ys[i]? = some y) : (List.zipWith f xs ys).take (i + 1) = (List.zipWith f xs ys).take i ++ [f x y] := by
  rw [List.take_add_one, List.getElem?_zipWith, hx, hy]
  rfl
theorem size2' {a b : V} : [a, b].length ≤ sizeLine := by
  rw [sizeLine_eq]
  show 2 ≤ 16777216
  decide
/-- a row of a comprehension's list, one more -/
theorem rows_step {H4 : Hp} {D t p : Addr} {ns : List Int} {c : Int} {L : List Trm} (hD : H4 D = some (.lst (L.map Trm.v))) (ho : RowsOk H4 L) (h1 : H4 t = some (.tup [.ref p, .int c])) (h2 : H4 p = some (.tup (ns.map V.int))) :
    upd H4 D (.lst (L.map Trm.v ++ [.ref t])) D = some (.lst ((L ++ [(⟨t, p, ns, c⟩ : Trm)]).map Trm.v)) ∧ RowsOk (upd H4 D (.lst (L.map Trm.v ++ [.ref t]))) (L ++ [(⟨t, p, ns, c⟩ : Trm)]) := by
  have kt : KeepT H4 (upd H4 D (.lst (L.map Trm.v ++ [.ref t]))) := fun b xs e => by
    rw [upd_ne (ne_of e hD (by intro z; cases z))]
    exact e
  refine ⟨by rw [upd_same, List.map_append]; rfl, rows_app (ho.keep kt) fun r hr => ?_⟩
  rw [List.mem_singleton.mp hr]
  exact ⟨kt _ _ h1, kt _ _ h2⟩
section
variable {P : Program} {w : World} {K : PySem.W.Frag} {mg : Str → Option Value} {base : Heap}
def spMoved : Sp := fun vs H Q _ => ∃ (t p : Addr) (ms : List Int) (L : List Trm), vs = [.ref t, .ref p, .int (-1)] ∧ SumAt H t L ∧ L.length ≤ 1000 ∧ H p = some (.tup (ms.map V.int)) ∧ ms.length ≤ 1000 ∧ (∀ r ∈ L, r.ns.length = ms.length) ∧
  ∀ H' (t' : Addr) (L' : List Trm), Same H H' → H t' = none → SumAt H' t' L' → L'.map Trm.d = (L.map Trm.d).map (less ms) → Q (.ref t') H'
abbrev nmMoved : List Str := ["told", "powers", "sign", "own", "coefficient", "one", "other"]
theorem scMoved : FnScope nmMoved ["told", "powers", "sign"] (defScope sMoved) := ⟨rfl, rfl, rfl, by decide +kernel, rfl, by decide +kernel, by decide +kernel⟩
theorem ok_moved {f : Addr} {fd : FuncData} {k : Nat} (F : Fun K "moved" "moved" sMoved f fd) (mt : mg "tuple" = none) (mz : mg "zip" = none) : FnOk P w K mg base CX0 (k + 1) f fd ["told", "powers", "sign"] spMoved := by
  refine F.ok scMoved (fun vs H Q E h => ?_) (fun cdv A outer s H vs Q E hr h => ?_)
  · obtain ⟨t, m, L, _, rfl, _⟩ := h
    rfl
  · obtain ⟨t, p, ms, L, rfl, hS, hL, hp, hms, hlen, q⟩ := h
    refine ⟨_, pss_one (ps_ret (pe_callTy call_tuple_of (by rfl) mt (by decide +kernel) (pa_cons (pe_lc (own := [("own", 3), ("coefficient", 4)]) (g := gTup K 2 (gCons (gName 3) (gCons (gName 4) gNil))) (by rfl) scMoved.nd (pi_tup (pv 0)) (blkOk_by (own := [("own", 3), ("coefficient", 4)]) (N := nmMoved) (sc := defScope sMoved) (by decide +kernel))
          (fun _ _ _ _ _ => pg_tup rfl (pgs_cons (pg_name (i := 3) scMoved.nd rfl (.inl rfl)) (pgs_cons (pg_name (i := 4) scMoved.nd rfl (.inl rfl)) pgs_nil))) (fun _ _ _ _ _ => pts_nil)
          (fun _ _ _ _ _ => pe_tup (pa_cons (pe_callTy (r := fun xs H Q => ∃ p ys, xs = [.ref p] ∧ ((SqL K H p ys ∧ ∀ l, H l = none → Q (.ref l) (upd H l (.tup ys))) ∨ (SqT K H p ys ∧ Q (.ref p) H))) call_tuple_of (by rfl) mt (by decide +kernel) (pa_cons (pe_lc (wi := RZ.iZipA K (tCons (tVar 3) (tCons (tVar 1) tNil))) (own := [("one", 5), ("other", 6)]) (g := gTup K 2 (gCons (gName 5) (gCons (gName 6) gNil))) (by rfl) scMoved.nd (RZ.pi_zipA (by rfl) mz (pa_cons (pv 3) (pa_cons (pv 1) pa_nil))) (blkOk_by (own := [("one", 5), ("other", 6)]) (N := nmMoved) (by rfl))
              (fun _ _ _ _ _ => pg_tup rfl (pgs_cons (pg_name (i := 5) scMoved.nd rfl (.inl rfl)) (pgs_cons (pg_name (i := 6) scMoved.nd rfl (.inl rfl)) pgs_nil))) (fun _ _ _ _ _ => pts_nil)
              (fun _ _ _ _ _ => pe_op op_add (pv 5) (pe_op op_mul (pv 2) (pv 6)))) pa_nil)) (pa_cons (pv 4) pa_nil)))) pa_nil))), ?_⟩
    refine ⟨.ref t, rfl, t, rfl, ⟨_, hS.sq⟩, fun D nD => ?_⟩
    refine lc_tup (xs := L.map Trm.v) (fun j H' => ∃ L' : List Trm, H' D = some (.lst (L'.map Trm.v)) ∧ RowsOk H' L' ∧ L'.map Trm.d = ((L.take j).map Trm.d).map (less ms) ∧ ∀ b o, b ≠ D → H b = some o → H' b = some o) ⟨[], upd_same, (fun r h => by cases h), by simp, fun b o hb e => by rw [upd_ne hb]; exact e⟩ (fun i H' _ h => ?_) (fun i x H1 hx h => ?_) (fun H1 h => ?_)
    · obtain ⟨_, _, _, _, kp⟩ := h
      exact .inl (.inl (kp t _ (ne_of_none hS.at_ nD) hS.at_))
    · obtain ⟨L', hD, ho, ed, kp⟩ := h
      rw [List.getElem?_map] at hx
      obtain ⟨r, hr1, rfl⟩ := Option.map_eq_some_iff.mp hx
      obtain ⟨o1, o2⟩ := hS.rows r (List.mem_of_getElem? hr1)
      have hlt := (List.getElem?_eq_some_iff.mp hr1).1
      have hrl := hlen r (List.mem_of_getElem? hr1)
      have up : ∀ {b o}, H b = some o → H1 b = some o := fun {b o} e => kp b o (ne_of_none e nD) e
      refine ⟨r.t, _, rfl, .inl (.inl (up o1)), rfl, _, _, rfl, _, _, rfl, rfl, rfl, .ref r.p, rfl, .ref p, rfl, r.p, p, _, _, rfl, .inr ⟨.inl (.inl (up o2)), .inl (.inl (up hp)), fun D2 nD2 => ?_⟩⟩
      refine lc_it (walk_zipT (xs := r.ns.map V.int) (ys := ms.map V.int) (by rw [List.length_map, List.length_map, hrl])) (fun j H' => H' D2 = some (.lst (((List.zipWith (fun a b => a + -1 * b) r.ns ms).take j).map V.int)) ∧ ∀ b o, b ≠ D2 → H1 b = some o → H' b = some o) ⟨upd_same, fun b o hb e => by rw [upd_ne hb]; exact e⟩ (fun j H' _ h => ?_) (fun j x H2 H' hj h hy => ?_) (fun H2 h => ?_)
      · exact ⟨.inl (.inl (h.2 _ _ (ne_of_none (up o2) nD2) (up o2))), .inl (.inl (h.2 _ _ (ne_of_none (up hp) nD2) (up hp)))⟩
      · obtain ⟨hD2, kp2⟩ := h
        obtain ⟨T, x1, x2, rfl, nT, rfl, e1, e2⟩ := hy
        dsimp only at e1 e2
        rw [List.getElem?_map] at e1 e2
        obtain ⟨n1, f1, rfl⟩ := Option.map_eq_some_iff.mp e1
        obtain ⟨n2, f2, rfl⟩ := Option.map_eq_some_iff.mp e2
        have hj1 := (List.getElem?_eq_some_iff.mp f1).1
        have TD : D2 ≠ T := ne_of_none hD2 nT
        refine ⟨T, _, rfl, .inl (.inl upd_same), rfl, _, _, rfl, _, _, rfl, rfl, rfl, .int n1, rfl, .int (-1), rfl, .int n2, rfl, -1, n2, rfl, rfl, .inl ⟨by decide, by decide⟩, n1, -1 * n2, rfl, rfl, _, (by rw [upd_ne TD]; exact hD2), ?_, ?_, fun b o hb e => ?_⟩
        · rw [List.length_map, List.length_take, List.length_zipWith, sizeLine_eq]
          omega
        · rw [upd_same, zip_take f1 f2, List.map_append]
          rfl
        · rw [upd_ne hb]
          exact same_new nT _ _ (kp2 b o hb e)
      · obtain ⟨hD2, kp2⟩ := h
        rw [List.length_map, List.take_of_length_le (by rw [List.length_zipWith]; omega)] at hD2
        have up2 : ∀ {b o}, H1 b = some o → H2 b = some o := fun {b o} e => kp2 b o (ne_of_none e nD2) e
        refine ⟨D2, _, rfl, .inl ⟨sqlOf hD2, fun p2 np2 => ?_⟩⟩
        refine ⟨.int r.c, rfl, size2', fun t2 nt2 => ?_⟩
        have h4 : ∀ {b o}, H1 b = some o → upd (upd H2 p2 (.tup ((List.zipWith (fun a b => a + -1 * b) r.ns ms).map V.int))) t2 (.tup [.ref p2, .int r.c]) b = some o := fun {b o} e => same_new nt2 _ _ (same_new np2 _ _ (up2 e))
        obtain ⟨g1, g2⟩ := rows_step (D := D) (t := t2) (p := p2) (ns := List.zipWith (fun a b => a + -1 * b) r.ns ms) (c := r.c) (h4 hD) (ho.keep fun b xs e => h4 e) upd_same (same_new nt2 _ _ upd_same)
        have ll : L'.length = i := by
          have := congrArg List.length ed
          simp at this
          omega
        refine ⟨_, h4 hD, (by rw [List.length_map, sizeLine_eq]; omega), _, g1, g2, ?_, fun b o hb e => ?_⟩
        · rw [List.map_append, ed, List.take_add_one, hr1, List.map_append, List.map_append]
          rfl
        · rw [upd_ne hb]
          exact h4 (kp b o hb e)
    · obtain ⟨L', hD, ho, ed, kp⟩ := h
      rw [List.length_map, List.take_length] at ed
      have sm : Same H H1 := fun b o e => kp b o (ne_of_none e nD) e
      refine ⟨D, _, rfl, .inl ⟨sqlOf hD, fun t' nt' => ?_⟩⟩
      exact q _ t' L' (sm.trans (same_new nt')) (sm.free nt') ⟨upd_same, ho.keep (same_keepT (same_new nt'))⟩ ed
/-! ### freed -/
theorem less_len {ms : List Int} {q : List Int × Int} (h : q.1.length = ms.length) : (less ms q).1.length = ms.length := by
  show (List.zipWith _ _ _).length = _
  rw [List.length_zipWith]
  omega
theorem less_lex : ∀ {ms xs ys : List Int}, xs.length = ms.length → ys.length = ms.length → HT.lexLt (List.zipWith (fun a b => a + -1 * b) xs ms) (List.zipWith (fun a b => a + -1 * b) ys ms) = HT.lexLt xs ys
  | [], [], [], _, _ => rfl
  | [], _ :: _, _, h, _ => by cases h
  | [], [], _ :: _, _, h => by cases h
  | _ :: _, [], _, h, _ => by cases h
  | _ :: _, _ :: _, [], _, h => by cases h
  | m :: ms, x :: xs, y :: ys, h1, h2 => by
    show (if x + -1 * m = y + -1 * m then HT.lexLt (List.zipWith (fun a b => a + -1 * b) xs ms) (List.zipWith (fun a b => a + -1 * b) ys ms) else decide (x + -1 * m < y + -1 * m)) = (if x = y then HT.lexLt xs ys else decide (x < y))
    rw [less_lex (Nat.succ.inj h1) (Nat.succ.inj h2)]
    by_cases e : x = y
    · subst e
      rw [if_pos rfl, if_pos rfl]
    · rw [if_neg (by omega), if_neg e]
      by_cases e2 : x < y
      · rw [decide_eq_true e2, decide_eq_true (by omega)]
      · rw [decide_eq_false e2, decide_eq_false (by omega)]
theorem Good.less {m : Nat} {D : List (List Int × Int)} {ms : List Int} (h : Good m D) (hm : ms.length = m) : Good m (D.map (less ms)) := by
  refine ⟨fun q hq => ?_, ?_⟩
  · obtain ⟨p, hp, rfl⟩ := List.mem_map.mp hq
    obtain ⟨h1, h2⟩ := h.1 p hp
    exact ⟨by rw [less_len (by omega)]; exact hm, h2⟩
  · rw [List.pairwise_map]
    refine h.2.imp_of_mem fun {x y} hx hy e => ?_
    show HT.lexLt (List.zipWith _ _ _) (List.zipWith _ _ _) = true
    rw [less_lex (by rw [(h.1 x hx).1, hm]) (by rw [(h.1 y hy).1, hm])]
    exact e
section
variable {fI fC fO fN fL : Addr} {dI dC dO dN dL : FuncData}
def spFreed : Sp := fun vs H Q _ => ∃ (t : Addr) (m : Nat) (L : List Trm), vs = [.ref t] ∧ SumAt H t L ∧ L.length ≤ 1000 ∧ 0 < m ∧ m ≤ 1000 ∧ Good m (L.map Trm.d) ∧
  ∀ H' (t' : Addr) (ms : List Int) (L' : List Trm), Same H H' → H t' = none → SumAt H' t' L' → IsLeast (L.map Trm.d) (cnt m L) ms → L'.map Trm.d = (L.map Trm.d).map (less ms) → Q (.ref t') H'
abbrev nmFreed : List Str := ["one"]
theorem scFreed : FnScope nmFreed ["one"] (defScope sFreed) := ⟨rfl, rfl, rfl, by decide +kernel, rfl, by decide +kernel, by decide +kernel⟩
theorem ok_freed {f fM : Addr} {fd fdM : FuncData} {k : Nat} (F : Fun K "freed" "freed" sFreed f fd) (FM : Fun K "moved" "moved" sMoved fM fdM) (bM : Binds K fdM ["told", "powers", "sign"] []) (gM : mg "moved" = some (.ref fM)) (D : Prog K mg fI fC fO fN fL dI dC dO dN dL) : FnOk P w K mg base CX0 (k + 4) f fd ["one"] spFreed := by
  have GO : FnOk P w K mg base CX0 (k + 3) fO dO ["sums"] (spLettersOf K) := D.lo
  have GE : FnOk P w K mg base CX0 (k + 2) fL dL ["told"] spLeast := D.le
  have GM : FnOk P w K mg base CX0 (k + 1) fM fdM ["told", "powers", "sign"] spMoved := ok_moved FM D.tuple D.zip
  refine F.ok scFreed (fun vs H Q E h => ?_) (fun cdv A outer s H vs Q E hr h => ?_)
  · obtain ⟨t, m, L, rfl, _⟩ := h
    rfl
  · obtain ⟨t, m, L, rfl, hS, hL, hm0, hm1, hG, q⟩ := h
    have r2 := hr.mono (show k + 2 ≤ k + 3 by omega)
    have r1 := hr.mono (show k + 1 ≤ k + 3 by omega)
    refine ⟨_, pss_cons (ps_expr (pe_call GO hr (by rfl) D.gLo D.Lo.kp D.bLo .nil pass0 (pa_cons (pe_lst (pa_cons (pv 0) pa_nil)) pa_nil)))
      (pss_one (ps_ret (pe_call GM r1 (by rfl) gM FM.kp bM .nil pass0 (pa_cons (pv 0) (pa_cons (pe_call GE r2 (by rfl) D.gLe D.Le.kp D.bLe .nil pass0 (pa_cons (pv 0) pa_nil)) (pa_cons (pe_un un_neg pe_int) pa_nil)))))), ?_⟩
    refine ⟨.ref t, rfl, one1, fun l nl => ?_⟩
    have s1 : Same H (upd H l (.lst [.ref t])) := same_new nl
    refine ⟨l, t, m, L, rfl, sqlOf upd_same, hS.same s1, hL, hm0, hG, fun H2 s2 => ?_⟩
    have s12 := s1.trans s2
    refine ⟨.ref t, rfl, .ref t, rfl, t, m, L, rfl, hS.same s12, hL, hm0, hm1, hG.len, fun H3 p ms s3 np hp hI => ?_⟩
    have s13 := s12.trans s3
    have hml : ms.length ≤ 1000 := by
      rw [hI.1]
      unfold cnt
      split <;> omega
    refine ⟨1, rfl, t, p, ms, L, rfl, hS.same s13, hL, hp, hml, fun r hr => ?_, fun H4 t' L' s4 nt' hS' ed => ?_⟩
    · rw [hG.len r hr, hI.1]
      unfold cnt
      cases L with
      | nil => cases hr
      | cons _ _ => rfl
    · exact q H4 t' ms L' (s13.trans s4) (s13.free nt') hS' hI ed
end
end
end K05
set_option Elab.async false
set_option linter.all false
set_option maxRecDepth 100000
namespace K05
open PySem PySem.Spec PyProof.Rows L2 R1 ZN
/-! ### dicts of terms, as data -/
abbrev Ts := List (List Int × Int)
def enc (q : List Int × Int) : List Key × V := (q.1.map Sum.inl, V.int q.2)
abbrev dZ (D : Ts) : HO := .dT (D.map enc)
def getO (D : Ts) (k : List Int) : Option Int := (D.find? fun q => decide (q.1 = k)).map (·.2)
def setD (D : Ts) (k : List Int) (v : Int) : Ts := if (D.any fun q => decide (q.1 = k)) = true then D.map (fun q => if q.1 = k then (q.1, v) else q) else D ++ [(k, v)]
theorem inl_inj {a b : List Int} : (a.map Sum.inl : List Key) = b.map Sum.inl ↔ a = b := by
  constructor
  · exact fun h => (List.map_inj_right (fun x y h => by injection h)).mp h
  · exact fun h => by rw [h]
theorem valV_enc (k : List Int) : ∀ D : Ts, valV (D.map enc) (k.map Sum.inl) = (getO D k).map V.int
  | [] => rfl
  | q :: D => by
    by_cases e : q.1 = k
    · rw [List.map_cons, valV_pos (show (enc q).1 = k.map Sum.inl by rw [← e]; rfl)]
      simp [getO, List.find?_cons, e, enc]
    · rw [List.map_cons, valV_neg (show ¬ (enc q).1 = k.map Sum.inl from fun z => e (inl_inj.mp z)), valV_enc k D]
      simp [getO, List.find?_cons, e]
theorem putK_enc (k : List Int) (v : Int) (D : Ts) : putK (D.map enc) (k.map Sum.inl) (.int v) = (setD D k v).map enc := by
  have h1 : ((D.map enc).any fun kv => decide (kv.1 = k.map Sum.inl)) = (D.any fun q => decide (q.1 = k)) := by
    rw [List.any_map]
    congr 1
    funext q
    show decide ((q.1.map Sum.inl : List Key) = k.map Sum.inl) = decide (q.1 = k)
    exact decide_eq_decide.mpr inl_inj
  unfold putK setD
  rw [h1]
  split
  · rw [List.map_map, List.map_map]
    refine List.map_congr_left fun q _ => ?_
    show (if (q.1.map Sum.inl : List Key) = k.map Sum.inl then ((q.1.map Sum.inl : List Key), V.int v) else enc q) = enc (if q.1 = k then (q.1, v) else q)
    by_cases e : q.1 = k
    · rw [if_pos (inl_inj.mpr e), if_pos e]
      rfl
    · rw [if_neg (fun z => e (inl_inj.mp z)), if_neg e]
  · rw [List.map_append]
    rfl
theorem setD_mem {D : Ts} {k : List Int} {v : Int} {q : List Int × Int} (h : q ∈ setD D k v) : (q ∈ D ∧ q.1 ≠ k) ∨ q = (k, v) := by
  unfold setD at h
  split at h
  · obtain ⟨p, hp, e⟩ := List.mem_map.mp h
    split at e
    · rename_i e2
      exact .inr (by rw [← e, e2])
    · rename_i e2
      exact .inl (e ▸ ⟨hp, e2⟩)
  · rename_i hn
    rcases List.mem_append.mp h with h | h
    · refine .inl ⟨h, fun e => hn ?_⟩
      exact List.any_eq_true.mpr ⟨q, h, decide_eq_true e⟩
    · exact .inr (List.mem_singleton.mp h)
theorem setD_len (D : Ts) (k : List Int) (v : Int) : (setD D k v).length ≤ D.length + 1 := by
  unfold setD
  split
  · rw [List.length_map]
    omega
  · rw [List.length_append]
    exact Nat.le_refl _
def NodupK (D : Ts) : Prop := (D.map (·.1)).Nodup
theorem setD_nodup {D : Ts} (k : List Int) (v : Int) (h : NodupK D) : NodupK (setD D k v) := by
  unfold NodupK setD
  split
  · rw [List.map_map]
    have : ((·.1) ∘ fun q : List Int × Int => if q.1 = k then (q.1, v) else q) = (·.1) := by
      funext q
      show (if q.1 = k then (q.1, v) else q).1 = q.1
      split <;> rfl
    rw [this]
    exact h
  · rename_i hn
    rw [List.map_append, List.nodup_append]
    refine ⟨h, by simp, fun a ha b hb e => hn ?_⟩
    obtain ⟨q, hq, rfl⟩ := List.mem_map.mp ha
    have : b = k := by simpa using hb
    exact List.any_eq_true.mpr ⟨q, hq, decide_eq_true (by rw [e, this])⟩
theorem getO_mem {k : List Int} {v : Int} : ∀ {D : Ts}, NodupK D → (getO D k = some v ↔ (k, v) ∈ D)
  | [], _ => by simp [getO]
  | q :: D, h => by
    have h' := List.nodup_cons.mp h
    by_cases e : q.1 = k
    · have : getO (q :: D) k = some q.2 := by simp [getO, List.find?_cons, e]
      rw [this]
      constructor
      · intro z
        have z := Option.some.inj z
        have : q = (k, v) := by rw [← e, ← z]
        rw [this]
        exact List.mem_cons_self
      · intro z
        rcases List.mem_cons.mp z with z | z
        · rw [← z]
        · exact absurd (List.mem_map.mpr ⟨_, z, e.symm⟩) h'.1
    · have : getO (q :: D) k = getO D k := by simp [getO, List.find?_cons, e]
      rw [this, getO_mem h'.2]
      constructor
      · exact fun z => List.mem_cons_of_mem _ z
      · intro z
        rcases List.mem_cons.mp z with z | z
        · exact absurd (by rw [← z]) e
        · exact z
theorem getO_any (k : List Int) : ∀ D : Ts, (D.any fun q => decide (q.1 = k)) = (getO D k).isSome
  | [] => rfl
  | q :: D => by
    rw [List.any_cons]
    by_cases e : q.1 = k
    · simp [getO, List.find?_cons, e]
    · rw [decide_eq_false e, Bool.false_or, getO_any k D]
      simp [getO, List.find?_cons, e]
theorem getO_set (D : Ts) (k j : List Int) (v : Int) : getO (setD D k v) j = if j = k then some v else getO D j := by
  have h := valV_put (D.map enc) (k.map Sum.inl) (j.map Sum.inl) (.int v)
  rw [putK_enc, valV_enc, valV_enc] at h
  by_cases e : j = k
  · rw [if_pos (inl_inj.mpr e)] at h
    rw [if_pos e]
    cases q : getO (setD D k v) j with
    | none => rw [q] at h; cases h
    | some x =>
      rw [q] at h
      have := Option.some.inj h
      injection this with this
      rw [this]
  · rw [if_neg (fun z => e (inl_inj.mp z))] at h
    rw [if_neg e]
    cases q : getO (setD D k v) j with
    | none =>
      rw [q] at h
      cases q2 : getO D j with
      | none => rfl
      | some x => rw [q2] at h; cases h
    | some x =>
      rw [q] at h
      cases q2 : getO D j with
      | none => rw [q2] at h; cases h
      | some y =>
        rw [q2] at h
        have := Option.some.inj h
        injection this with this
        rw [this]
/-- the coefficient at powers, 0 where none stands -/
def val (D : Ts) (k : List Int) : Int := (getO D k).getD 0
def addD (D : Ts) (k : List Int) (c : Int) : Ts := setD D k (val D k + c)
theorem val_add (D : Ts) (k j : List Int) (c : Int) : val (addD D k c) j = val D j + if j = k then c else 0 := by
  unfold val addD
  rw [getO_set]
  by_cases e : j = k
  · subst e
    simp [val]
  · simp [e]
/-- all terms of W, their powers by z, added -/
def gather (z : List Int → List Int) : Ts → Ts → Ts
  | A, [] => A
  | A, q :: W => gather z (addD A (z q.1) q.2) W
def tot (z : List Int → List Int) (j : List Int) : Ts → Int
  | [] => 0
  | q :: W => (if j = z q.1 then q.2 else 0) + tot z j W
theorem val_gather (z : List Int → List Int) (j : List Int) : ∀ (W A : Ts), val (gather z A W) j = val A j + tot z j W
  | [], A => by simp [gather, tot]
  | q :: W, A => by
    rw [gather, val_gather z j W, val_add, tot]
    omega
theorem tot_perm (z : List Int → List Int) (j : List Int) {V W : Ts} (h : V.Perm W) : tot z j V = tot z j W := by
  induction h with
  | nil => rfl
  | cons x _ ih => simp only [tot, ih]
  | swap x y l => simp only [tot]; omega
  | trans _ _ h1 h2 => rw [h1, h2]
theorem gather_snoc (z : List Int → List Int) (q : List Int × Int) : ∀ (W A : Ts), gather z A (W ++ [q]) = addD (gather z A W) (z q.1) q.2
  | [], A => rfl
  | p :: W, A => by
    show gather z (addD A (z p.1) p.2) (W ++ [q]) = _
    rw [gather_snoc z q W]
    rfl
theorem gather_nodup (z : List Int → List Int) : ∀ (W A : Ts), NodupK A → NodupK (gather z A W)
  | [], _, h => h
  | q :: W, A, h => gather_nodup z W _ (setD_nodup _ _ h)
theorem gather_len (z : List Int → List Int) : ∀ (W A : Ts), (gather z A W).length ≤ A.length + W.length
  | [], _ => Nat.le_refl _
  | q :: W, A => by
    have := gather_len z W (addD A (z q.1) q.2)
    have h2 := setD_len A (z q.1) (val A (z q.1) + q.2)
    rw [gather]
    show _ ≤ A.length + (W.length + 1)
    unfold addD at this
    unfold addD
    omega
theorem gather_keys {z : List Int → List Int} {m : Nat} : ∀ (W A : Ts), (∀ q ∈ A, q.1.length = m) → (∀ q ∈ W, (z q.1).length = m) → ∀ q ∈ gather z A W, q.1.length = m
  | [], _, h, _ => h
  | p :: W, A, h, h2 => gather_keys W _ (fun q hq => by
      rcases setD_mem hq with ⟨hq, _⟩ | rfl
      · exact h q hq
      · exact h2 p List.mem_cons_self) fun q hq => h2 q (List.mem_cons_of_mem _ hq)
/-! ### the sum that a dict stands for -/
structure Norm (D E : Ts) : Prop where
  sorted : E.Pairwise fun x y => HT.lexLt x.1 y.1 = true
  mem : ∀ q, q ∈ E ↔ q ∈ D ∧ q.2 ≠ 0
theorem lex_ne {a b : List Int} (h : HT.lexLt a b = true) : a ≠ b := fun e => by
  subst e
  rw [lex_irrefl] at h
  cases h
theorem sorted_ext : ∀ {E F : Ts}, E.Pairwise (fun x y => HT.lexLt x.1 y.1 = true) → F.Pairwise (fun x y => HT.lexLt x.1 y.1 = true) → (∀ q, q ∈ E ↔ q ∈ F) → E = F
  | [], [], _, _, _ => rfl
  | [], q :: F, _, _, h => absurd ((h q).mpr List.mem_cons_self) (by simp)
  | q :: E, [], _, _, h => absurd ((h q).mp List.mem_cons_self) (by simp)
  | p :: E, q :: F, h1, h2, h => by
    obtain ⟨a1, a2⟩ := List.pairwise_cons.mp h1
    obtain ⟨b1, b2⟩ := List.pairwise_cons.mp h2
    have e : p = q := by
      rcases List.mem_cons.mp ((h p).mp List.mem_cons_self) with e | hp
      · exact e
      · rcases List.mem_cons.mp ((h q).mpr List.mem_cons_self) with e | hq
        · exact e.symm
        · have x1 := b1 p hp
          have x2 := lex_asym _ _ (a1 q hq)
          rw [x1] at x2
          cases x2
    subst e
    congr 1
    refine sorted_ext a2 b2 fun r => ⟨fun hr => ?_, fun hr => ?_⟩
    · rcases List.mem_cons.mp ((h r).mp (List.mem_cons_of_mem _ hr)) with e | hr'
      · exact absurd (by rw [e]) (lex_ne (a1 r hr))
      · exact hr'
    · rcases List.mem_cons.mp ((h r).mpr (List.mem_cons_of_mem _ hr)) with e | hr'
      · exact absurd (by rw [e]) (lex_ne (b1 r hr))
      · exact hr'
theorem val_mem {D : Ts} (h : NodupK D) (q : List Int × Int) : (q ∈ D ∧ q.2 ≠ 0) ↔ (val D q.1 = q.2 ∧ q.2 ≠ 0) := by
  unfold val
  constructor
  · rintro ⟨h1, h2⟩
    rw [(getO_mem h).mpr h1]
    exact ⟨rfl, h2⟩
  · rintro ⟨h1, h2⟩
    cases e : getO D q.1 with
    | none =>
      rw [e] at h1
      exact absurd h1.symm h2
    | some x =>
      rw [e] at h1
      have h1 : x = q.2 := h1
      subst h1
      exact ⟨(getO_mem h).mp e, h2⟩
theorem Norm.unique {A B E F : Ts} (hA : NodupK A) (hB : NodupK B) (h : ∀ k, val A k = val B k) (x : Norm A E) (y : Norm B F) : E = F :=
  sorted_ext x.sorted y.sorted fun q => by rw [x.mem, y.mem, val_mem hA, val_mem hB, h]
theorem lex_total : ∀ {a b : List Int}, a.length = b.length → HT.lexLt a b = false → HT.lexLt b a = false → a = b
  | [], [], _, _, _ => rfl
  | [], _ :: _, h, _, _ => by cases h
  | _ :: _, [], h, _, _ => by cases h
  | x :: a, y :: b, h, h1, h2 => by
    rw [HT.lexLt_cons] at h1 h2
    by_cases e : x = y
    · subst e
      rw [if_pos rfl] at h1 h2
      rw [lex_total (Nat.succ.inj h) h1 h2]
    · rw [if_neg e] at h1
      rw [if_neg (fun z => e z.symm)] at h2
      have h1 := of_decide_eq_false h1
      have h2 := of_decide_eq_false h2
      omega
theorem Norm.good {D E : Ts} {m : Nat} (x : Norm D E) (h : ∀ q ∈ D, q.1.length = m) : Good m E := ⟨fun q hq => by
  obtain ⟨a, b⟩ := (x.mem q).mp hq
  exact ⟨h q a, b⟩, x.sorted⟩
/-- the terms of a dict, those of 0 left out, sorted -/
theorem norm_of {D E : Ts} {m : Nat} (hD : NodupK D) (hm : ∀ q ∈ D, q.1.length = m) (hp : E.Perm (D.filter fun q => decide (q.2 ≠ 0))) (hs : E.Pairwise fun x y => HT.lexLt y.1 x.1 = false) : Norm D E := by
  have mem : ∀ q, q ∈ E ↔ q ∈ D ∧ q.2 ≠ 0 := fun q => by
    rw [hp.mem_iff, List.mem_filter, decide_eq_true_eq]
  have nd : (E.map (·.1)).Nodup := (hp.map _).nodup_iff.mpr (List.Nodup.sublist (List.Sublist.map _ List.filter_sublist) hD)
  refine ⟨?_, mem⟩
  have nd2 : E.Pairwise fun x y => x.1 ≠ y.1 := List.pairwise_map.mp nd
  refine (hs.and nd2).imp_of_mem fun {x y} hx hy h => ?_
  cases e : HT.lexLt x.1 y.1 with
  | true => rfl
  | false => exact absurd (lex_total (by rw [hm x ((mem x).mp hx).1, hm y ((mem y).mp hy).1]) e h.1) h.2
end K05
set_option Elab.async false
set_option linter.all false
set_option maxRecDepth 100000
namespace K05
open PySem PySem.Spec PyProof.Rows L2 R1 ZN
/-- all but what stands at D is as it was -/
def But (D : Addr) (H H' : Hp) : Prop := ∀ b o, b ≠ D → H b = some o → H' b = some o
theorem But.start {D : Addr} {H : Hp} {o : HO} : But D H (upd H D o) := fun b u hb e => by
  rw [upd_ne hb]
  exact e
theorem But.step {D : Addr} {H H1 H2 : Hp} {o : HO} (h : But D H H1) (s : Same H1 H2) : But D H (upd H2 D o) := fun b u hb e => by
  rw [upd_ne hb]
  exact s _ _ (h b u hb e)
theorem But.same {D : Addr} {H H' : Hp} (h : But D H H') (n : H D = none) : Same H H' := fun b o e => h b o (ne_of_none e n) e
theorem But.at_ {D b : Addr} {H H' : Hp} {o : HO} (h : But D H H') (n : H D = none) (e : H b = some o) : H' b = some o := h b o (ne_of_none e n) e
def nz (q : List Int × Int) : Bool := decide (q.2 ≠ 0)
theorem filter_step {D : Ts} {i : Nat} {q : List Int × Int} (h : D[i]? = some q) : (D.take (i + 1)).filter nz = (D.take i).filter nz ++ if q.2 = 0 then [] else [q] := by
  rw [List.take_add_one, h, List.filter_append]
  congr 1
  show List.filter nz [q] = _
  by_cases e : q.2 = 0
  · rw [if_pos e]
    simp [nz, e]
  · rw [if_neg e]
    simp [nz, e]
theorem lexP_lt {p q : List Int × Int} (hl : p.1.length = q.1.length) (h : lexP p q = false) : HT.lexLt p.1 q.1 = false := by
  unfold lexP at h
  rw [lex_app _ _ hl] at h
  by_cases e : p.1 = q.1
  · rw [e, lex_irrefl]
  · rw [if_neg e] at h
    exact h
theorem rows_len {L : List Trm} {D : Ts} (h : L.map Trm.d = D) : L.length = D.length := by rw [← h, List.length_map]
def tTru (K : PySem.W.Frag) (te : TE) : TT := fun σ H Q => te σ H fun x H' => ∃ k, TruV K x H' k ∧ Q k H'
section
variable {P : Program} {w : World} {K : PySem.W.Frag} {mg : Str → Option Value} {base : Heap}
/-- a dict of terms of m letters at d -/
structure DictAt (H : Hp) (d : Addr) (m : Nat) (D : Ts) : Prop where
  at_ : H d = some (dZ D)
  nodup : NodupK D
  len : ∀ q ∈ D, q.1.length = m
theorem DictAt.same {H H' : Hp} {d : Addr} {m : Nat} {D : Ts} (h : DictAt H d m D) (s : Same H H') : DictAt H' d m D := ⟨s _ _ h.at_, h.nodup, h.len⟩
theorem DictAt.get {H : Hp} {d b : Addr} {m : Nat} {D : Ts} {k : List Int} (h : Rd H d (dZ D)) (hb : H b = some (.tup (k.map V.int))) : DGet H d (.ref b) ((getO D k).map V.int) :=
  .inr ⟨D.map enc, k.map Sum.inl, b, h, rfl, by rw [map_kV]; exact hb, (valV_enc k D).symm⟩
def spNorm : Sp := fun vs H Q _ => ∃ (d : Addr) (m : Nat) (D : Ts), vs = [.ref d] ∧ DictAt H d m D ∧ D.length ≤ 1000 ∧
  ∀ H' (t : Addr) (L : List Trm), Same H H' → H t = none → SumAt H' t L → Norm D (L.map Trm.d) → L.length ≤ D.length → Q (.ref t) H'
abbrev nmSumOf : List Str := ["terms", "powers"]
theorem scSumOf : FnScope nmSumOf ["terms"] (defScope sSumOf) := ⟨rfl, rfl, rfl, by decide +kernel, rfl, by decide +kernel, by decide +kernel⟩
theorem ok_sumOf {f : Addr} {fd : FuncData} {k : Nat} (F : Fun K "sum_of_terms" "sum_of_terms" sSumOf f fd) (mt : mg "tuple" = none) (ms : mg "sorted" = none) : FnOk P w K mg base CX0 (k + 1) f fd ["terms"] spNorm := by
  refine F.ok scSumOf (fun vs H Q E h => ?_) (fun cdv A outer s H vs Q E hr h => ?_)
  · obtain ⟨d, m, D, rfl, _⟩ := h
    rfl
  · obtain ⟨d, m, T, rfl, hT, hTl, q⟩ := h
    have hu := hu_of hr
    refine ⟨_, pss_one (ps_ret (pe_callTy call_tuple_of (by rfl) mt (by decide +kernel) (pa_cons (pe_callB (cr_sortedPT (hu2_of hr)) (by rfl) ms (by decide +kernel) (pa_cons (pe_lock (pe_lc (wi := iKeys (tVar 0)) (own := [("powers", 1)]) (g := gName 1) (tt := tTru K (tDGet (tVar 0) (tVar 1))) (by rfl) scSumOf.nd (pi_keys (pv 0)) (blkOk_by (own := [("powers", 1)]) (N := nmSumOf) (sc := defScope sSumOf) (by decide +kernel))
        (fun _ _ _ _ _ => pg_name (i := 1) scSumOf.nd rfl (.inl rfl)) (fun _ _ _ _ _ => pts_one (pt_truth (pe_dget hu (pv 0) (pv 1) (fun _ _ => rfl)) (by intro _; rfl)))
        (fun _ _ _ _ _ => pe_tup (pa_cons (pv 1) (pa_cons (pe_dget hu (pv 0) (pv 1) (fun _ _ => rfl)) pa_nil))))) pa_nil)) pa_nil))), ?_⟩
    refine ⟨d, _, hT.at_, trivial, fun od => ?_⟩
    have hd0 : upd H d (.frz od (dZ T)) d = some (.frz od (dZ T)) := upd_same
    refine ⟨.ref d, rfl, d, od, rfl, .inr ⟨_, upd_same, fun E nE => ?_⟩⟩
    have dE : d ≠ E := ne_of_none hd0 nE
    refine lc_it (walk_keysT (d := d) (o := od) (kvs := T.map enc)) (fun i H' => ∃ L : List Trm, H' E = some (.lst (L.map Trm.v)) ∧ RowsOk H' L ∧ L.map Trm.d = (T.take i).filter nz ∧ But E (upd H d (.frz od (dZ T))) H') ⟨[], upd_same, (fun r h => by cases h), by simp, But.start⟩ (fun i H' _ h => ?_) (fun i x H' H1 hi h hy => ?_) (fun H1 h => ?_)
    · obtain ⟨_, _, _, _, kp⟩ := h
      exact kp.at_ nE hd0
    · obtain ⟨L, hE, ho, ed, kp⟩ := h
      obtain ⟨rfl, k, v, b, e1, rfl, hb⟩ := hy
      rw [List.getElem?_map] at e1
      obtain ⟨q1, f1, f2⟩ := Option.map_eq_some_iff.mp e1
      have hbk : H1 b = some (.tup (q1.1.map V.int)) := by
        rw [hb, ← map_kV]
        have : k = q1.1.map Sum.inl := by rw [enc] at f2; injection f2 with f2 _; exact f2.symm
        rw [this]
      have hg : DGet H1 d (.ref b) (some (.int q1.2)) := by
        have := DictAt.get (D := T) (k := q1.1) (m := m) (.inr ⟨od, kp.at_ nE hd0⟩) hbk
        rw [(getO_mem hT.nodup).mpr (List.mem_of_getElem? f1)] at this
        exact this
      refine ⟨rfl, .ref d, rfl, .ref b, rfl, d, .int q1.2, rfl, hg, _, rfl, ?_⟩
      by_cases hz : q1.2 = 0
      · rw [hz]
        exact iteF ⟨L, hE, ho, by rw [filter_step f1, if_pos hz, List.append_nil]; exact ed, kp⟩
      · have : (q1.2 != 0) = true := by simp [hz]
        rw [this]
        refine iteT ⟨.ref b, rfl, .ref d, rfl, .ref b, rfl, d, .int q1.2, rfl, hg, size2', fun t nt => ?_⟩
        have sm : Same H1 (upd H1 t (.tup [.ref b, .int q1.2])) := same_new nt
        obtain ⟨g1, g2⟩ := rows_step (D := E) (t := t) (p := b) (ns := q1.1) (c := q1.2) (sm _ _ hE) (ho.keep (same_keepT sm)) upd_same (sm _ _ hbk)
        refine ⟨_, sm _ _ hE, ?_, _, g1, g2, ?_, kp.step sm⟩
        · have := rows_len ed
          have h2 := List.length_filter_le nz (T.take i)
          rw [List.length_take] at h2
          rw [List.length_map, sizeLine_eq]
          omega
        · rw [filter_step f1, if_neg hz, List.map_append, ed]
          rfl
    · obtain ⟨L, hE, ho, ed, kp⟩ := h
      rw [List.length_map, List.take_length] at ed
      refine ⟨kp.at_ nE hd0, ?_⟩
      have sm : Same H (upd H1 d (dZ T)) := fun b o e => by
        by_cases eb : b = d
        · subst eb
          rw [hT.at_] at e
          cases e
          exact upd_same
        · rw [upd_ne eb]
          exact kp.at_ nE (by rw [upd_ne eb]; exact e)
      have nEH : H E = none := by
        rw [upd_ne dE.symm] at nE
        exact nE
      have kt : KeepT H1 (upd H1 d (dZ T)) := fun b xs e => by
        rw [upd_ne (ne_of e (kp.at_ nE hd0) (by intro z; cases z))]
        exact e
      have hlen : ∀ r ∈ L, r.ns.length = m := fun r hr => by
        have : r.d ∈ (T.filter nz) := by
          rw [← ed]
          exact List.mem_map_of_mem hr
        exact hT.len _ (List.mem_filter.mp this).1
      refine ⟨E, L, m, rfl, sqlOf (by rw [upd_ne dE.symm]; exact hE), ho.keep kt, hlen, fun L' p perm srt np => ?_⟩
      refine ⟨p, _, rfl, .inl ⟨sqlOf upd_same, fun t nt => ?_⟩⟩
      have sm2 := (sm.trans (same_new (o := .lst (L'.map Trm.v)) np))
      have sm3 := sm2.trans (same_new (o := .tup (L'.map Trm.v)) nt)
      have hpm : (L'.map Trm.d).Perm (T.filter fun q => decide (q.2 ≠ 0)) := by
        have := perm.map Trm.d
        rw [ed] at this
        exact this
      refine q _ t L' sm3 (sm2.free nt) ⟨upd_same, ?_⟩ ?_ ?_
      · have h1 : RowsOk (upd H1 d (dZ T)) L' := fun r hr => (ho.keep kt) r (perm.mem_iff.mp hr)
        exact (h1.keep (same_keepT (same_new np))).keep (same_keepT (same_new nt))
      · refine norm_of hT.nodup hT.len hpm ?_
        rw [List.pairwise_map]
        refine srt.imp_of_mem fun {x y} hx hy h => lexP_lt ?_ h
        show y.ns.length = x.ns.length
        rw [hlen y (perm.mem_iff.mp hy), hlen x (perm.mem_iff.mp hx)]
      · have h1 := hpm.length_eq
        have h2 := List.length_filter_le (fun q : List Int × Int => decide (q.2 ≠ 0)) T
        rw [List.length_map] at h1
        omega
end
end K05
set_option Elab.async false
set_option linter.all false
set_option maxRecDepth 100000
set_option maxHeartbeats 4000000
/-! a lambda with parameters and captured names, handed to a def that calls it -/
namespace LamQ
open PySem PySem.Spec PyProof.Rows L2 LamX NdefX
theorem cells_un {F : List Addr} {cl : List (Str × Addr)} {fr : List Str} {ws : List (Option V)} {H HZ : Hp} {h h1 : Heap} (C : CellsAt cl fr ws h H) (un : Un F [] H HZ h h1) : CellsAt cl fr ws h1 HZ := by
  have cellK : ∀ {c : Addr} {v : Option Value}, H c = none → h.IsCell c v → h1.IsCell c v := fun {c v} n ⟨o, ho, hd⟩ => by
    obtain ⟨sl, q⟩ := un.any ho n (by simp)
    exact ⟨_, q, hd⟩
  refine ⟨C.len, fun y c e => ?_, C.inj, fun i y e => ?_⟩
  · obtain ⟨n, v, z⟩ := C.all y c e
    refine ⟨?_, v, cellK n z⟩
    obtain ⟨o, ho, _⟩ := z
    exact un.free c o ho n (by simp)
  · obtain ⟨c, hc, hv⟩ := C.has i y e
    refine ⟨c, hc, fun v ev => ?_⟩
    obtain ⟨u, r, z⟩ := hv v ev
    exact ⟨u, r, cellK (C.all y c hc).1 z⟩
/-- the lambda's words, as a nested function's (its body is told apart) -/
abbrev lamF (q : Str) (params : Arguments) (scope : Scope) (cl : List (Str × Addr)) (c' : Addr) : NF := ⟨"<lambda>", q, params, [], scope, cl, c'⟩
section
variable {CX : CXT} {P : Program} {w : World} {K : PySem.W.Frag} {mg : Str → Option Value} {base : Heap} {N ps fr : List Str} {q : Str} {params : Arguments} {body : Expr} {scope : Scope} {cl : List (Str × Addr)} {pm ctv : Value} {f c' : Addr} {A : Around} {outer : List Env} {s : Shared} {H : Hp} {E : XK} {us : List Value} {vs : List V}
  {ws : List (Option V)} {k : Nat} {Q : VK} {te : TE}
theorem lam_run (S : NScope N ps fr scope) (hr : Room (k + 1) A) (e0 : Env0 P w K mg base A outer s H) (ho : s.heap.get? f = some (PySem.W.kla_obj "<lambda>" q params body scope cl pm c' ctv)) (hb : bindArgs (PySem.W.kla_fn "<lambda>" q params body scope cl pm (.ref c') ctv) ⟨us, []⟩ = pure (ps.zip us))
    (hc : H c' = some (CodeO c' q)) (C : CellsAt cl fr ws s.heap H) (r : Vals vs us) (hl : vs.length = ps.length)
    (hbody : Room k (A.deeper (envF (lamF q params scope cl c') f s.heap.objs.size)) → PE (ncx CX P w K mg base N (lamF q params scope cl c') f A outer s H E) body te) (hq : te (startF N vs ws) H Q) :
    codeAny (model P w) A (.call (.ref f) ⟨us, []⟩) (CR CX outer P w H s Q E) s := by
  have lim : s.heap.NoLimit := e0.mod.nolimit.keeps fun b o e => (e0.bs b o e).1
  refine PySem.W.kla_callFunE hr.depth ho rfl S.co S.gen rfl (codeO_at e0.hok hc) ?_
  rw [hb]
  refine wpAny_pure (wpAny_newFunctionEnv S.nocell (fun ⟨n, _⟩ hy => S.par n (List.of_mem_zip hy).1) (fun h₁ hns hsb => ⟨lim.fresh _ hsb, ?_⟩) S.kind)
  show codeAny _ _ (.expr body (envF (lamF q params scope cl c') f s.heap.objs.size)) _ _
  have kp : ∀ b o, s.heap.get? b = some o → h₁.get? b = some o := fun b o e => hsb.extBut b o (Nat.ne_of_lt (Heap.lt_size e)) (Heap.get?_push_of_some _ e)
  have I : Inv (ncx CX P w K mg base N (lamF q params scope cl c') f A outer s H E) [] (startF N vs ws) H { s with heap := h₁, toks := s.toks + (ps.zip us).length } := inv_startN (F := lamF q params scope cl c') S hr.hd e0 hl r C hns kp
  refine PySem.W.kla_codeExpr (wpAny_mono ((hbody (hr.deeper _)).run [] _ _ H Q I hq) (fun v s' hs => ?_) fun e s' hs => hs)
  obtain ⟨w', H', J, rv, q'⟩ := hs
  exact ⟨w', H', J.os, J.bare, J.base, J.hok, rv, q'⟩
end
section
variable {CX CXg : CXT} {P : Program} {w : World} {K : PySem.W.Frag} {mg : Str → Option Value} {base : Heap} {N ps fr : List Str} {q : Str} {params : Arguments} {body : Expr} {scope : Scope} {cl : List (Str × Addr)} {pm ctv : Value} {f c' : Addr} {A : Around} {outer : List Env} {s : Shared} {H : Hp} {E Eg : XK}
  {ws : List (Option V)} {k i : Nat} {te : TE} {Ng : List Str} {qg : Str} {sg : Scope} {g : Addr} {cdg : Value} {a : Str} {e : Expr} {es : List Expr} {t : TA} {p1 p2 : Pos}
/-- a(..) in the def that got the lambda -/
theorem pe_act1 (hf : s.heap.get? f = some (PySem.W.kla_obj "<lambda>" q params body scope cl pm c' ctv)) (hfn : H f = none) (hfr : f ∉ frs outer) (C : CellsAt cl fr ws s.heap H) (S : NScope N ps fr scope)
    (hbind : ∀ us : List Value, us.length = ps.length → bindArgs (PySem.W.kla_fn "<lambda>" q params body scope cl pm (.ref c') ctv) ⟨us, []⟩ = pure (ps.zip us))
    (hx : Passes CX (cxOf CXg P w K mg base Ng qg sg g cdg A outer s H Eg).nox E) (hr : Room (k + 1) (A.deeper (envOfC qg sg s.heap.objs.size g cdg)))
    (hbody : ∀ (A : Around) (outer : List Env) (s : Shared) (H : Hp), Room k (A.deeper (envF (lamF q params scope cl c') f s.heap.objs.size)) → PE (ncx CX P w K mg base N (lamF q params scope cl c') f A outer s H E) body te)
    (hN : Ng[i]? = some a) (hv : Vis sg a) (ha : PA (cxOf CXg P w K mg base Ng qg sg g cdg A outer s H Eg).nox (e :: es) t) (hd : (a == ("__debug__" : Str)) = false := by decide) (hcd : (a == ("__classdict__" : Str)) = false := by decide)
    (he : starEach (e :: es) (cxOf CXg P w K mg base Ng qg sg g cdg A outer s H Eg).nox.env = (false, eval e (cxOf CXg P w K mg base Ng qg sg g cdg A outer s H Eg).nox.env) :: starEach es (cxOf CXg P w K mg base Ng qg sg g cdg A outer s H Eg).nox.env := by rfl) (hpl : (backTo p2 (starEach es (cxOf CXg P w K mg base Ng qg sg g cdg A outer s H Eg).nox.env)).any (·.1) = false := by rfl) :
    PE (cxOf CXg P w K mg base Ng qg sg g cdg A outer s H Eg).nox (.Call (.Name a p1) (e :: es) [] p2)
      (fun σZ HZ Q => σZ[i]? = some (some (.ref f)) ∧ t σZ HZ fun vs H1 => vs.length = ps.length ∧ H1 c' = some (CodeO c' q) ∧ te (startF N vs ws) H1 Q) := by
  refine ⟨fun pinsZ sZ σZ HZ Q IZ h => ?_⟩
  obtain ⟨hs, ht⟩ := h
  refine wpAny_Call_Name_kw (thn ((pe_var (pos := p1) (i := i) hN hv hd hcd).run pinsZ sZ σZ HZ (fun v H1 => v = .ref f ∧ H1 = HZ) IZ ⟨.ref f, hs, rfl, rfl⟩) fun u s1 ⟨v, H1, I1, r1, q1⟩ => ?_)
  obtain ⟨ev, eH⟩ := q1
  subst ev
  rw [eH] at I1
  obtain rfl : u = Value.ref f := r1
  have ofA : ∀ {HX : Hp} {sX : Shared}, Un (frs outer) [] H HX s.heap sX.heap → sX.heap.get? f = some (PySem.W.kla_obj "<lambda>" q params body scope cl pm c' ctv) := fun un => un.keep f _ hf hfn hfr (fun z => nomatch (show f ∈ ([] : List Addr) from z))
  have un1 : Un (frs outer) [] H HZ s.heap s1.heap := I1.base
  refine PySem.W.callWith_F (first := []) ⟨_, _, _, _, ofA un1⟩ (thn (ha.run p2 pinsZ s1 σZ HZ _ I1 ht) fun us s2 ⟨vs, H2, I2, r, h1, h2, q2⟩ => ?_) he hpl
  have un2 : Un (frs outer) [] H H2 s.heap s2.heap := I2.base
  refine ⟨⟨_, _, _, _, ofA un2⟩, ?_⟩
  show wpAny _ _ (call (.ref f) us) _ _ _
  have rc := lam_run (CX := CX) (E := E) (Q := Q) S hr I2.env0 (ofA un2) (hbind us (by rw [← r.length]; exact h1)) h2 (cells_un C un2) r h1 (fun hr2 => hbody _ _ _ _ hr2) q2
  refine wpAny_call (codeAny_mono rc fun r' s' hq => ?_)
  cases r' with
  | error e => exact hx pinsZ σZ H2 s2 e s' I2 hq
  | ok fl =>
    cases fl with
    | ret u => exact I2.after hq
    | next => exact False.elim hq
    | brk => exact False.elim hq
    | cont => exact False.elim hq
end
/-- the def that calls what it got with one argument: a (at ia) calls it; TT: what it makes of the lambda's reading -/
def GivesTo1 (X : Cx) (CX : CXT) (E : XK) (Ng : List Str) (x : Str) (sg : Scope) (g : Addr) (cdg : Value) (bg : List Stmt) (a : Str) (ia np kk : Nat) (q : Str) (TT : V → (List V → Hp → VK → Prop) → Hp → VK → Prop) : Prop :=
  ∀ (f c' : Addr) (v1 : V) (s : Shared) (H : Hp) (Q : VK) (tl : List V → Hp → VK → Prop), Room kk (X.A.deeper (envOfC x sg s.heap.objs.size g cdg)) →
    (∀ (e : Expr) (t : TA) (p1 p2 : Pos), PA (cxOf CX X.prog X.w X.K X.mg X.base Ng x sg g cdg X.A X.stack s H E).nox [e] t → starEach [e] (cxOf CX X.prog X.w X.K X.mg X.base Ng x sg g cdg X.A X.stack s H E).nox.env = [(false, eval e (cxOf CX X.prog X.w X.K X.mg X.base Ng x sg g cdg X.A X.stack s H E).nox.env)] →
      PE (cxOf CX X.prog X.w X.K X.mg X.base Ng x sg g cdg X.A X.stack s H E).nox (.Call (.Name a p1) [e] [] p2) (fun σZ HZ Q => σZ[ia]? = some (some (.ref f)) ∧ t σZ HZ fun vs H1 => vs.length = np ∧ H1 c' = some (CodeO c' q) ∧ tl vs H1 Q)) →
    H c' = some (CodeO c' q) → TT v1 tl H Q →
    ∃ t, PSs (cxOf CX X.prog X.w X.K X.mg X.base Ng x sg g cdg X.A X.stack s H E).nox bg t ∧ t { nx := fun _ H' => Q .non H', rt := Q } (L2.start Ng [v1, .ref f]) H
def tLam1 (T : List (Addr × Str)) (TT : V → (List V → Hp → VK → Prop) → Hp → VK → Prop) (t1 : TE) (tl : L2.St → List V → Hp → VK → Prop) : TE := fun σ H Q => t1 σ H fun v1 H0 => Tabs T H0 ∧ ∀ H1, ExtN H0 H1 → Tabs T H1 → TT v1 (tl σ) H1 Q
section
variable {X : Cx}
/-- x(e1, lambda p: body) -/
theorem pe_lamcall1 {T : List (Addr × Str)} {TT : V → (List V → Hp → VK → Prop) → Hp → VK → Prop} {x a a1 : Str} {g c P : Addr} {k ia : Nat} {pg : Arguments} {bg : List Stmt} {sg : Scope} {dV kV doc pm cdv ct oc : Value} {an od : Option Addr} {osl : Array (Option Value)} {Ng N ps fr : List Str} {js : List Nat}
    {params : Arguments} {body : Expr} {scope : Scope} {e1 : Expr} {t1 te : TE} {p lpos pos : Pos} {CX CXl : CXT} {E El : XK} (hg : Gl X x) (hm : X.mg x = some (.ref g)) (hk : PySem.W.keepIn X.K (.ref g) = true)
    (lk : X.K.lookup g = some ⟨oc, od, .func (PySem.W.fnOf x x pg bg sg dV kV doc pm an cdv ct), osl⟩) (hcg : PySem.W.codeIn X.K cdv x = true) (hb : L2.Binds X.K (PySem.W.fnOf x x pg bg sg dV kV doc pm an cdv ct) [a1, a] []) (Sg : FnScope Ng [a1, a] sg) (hNg : Ng[ia]? = some a) (hva : Vis sg a)
    (hG : GivesTo1 X CX E Ng x sg g cdv bg a ia ps.length (k + 1) (X.env.qual ++ "<lambda>") TT)
    (TB : TabB X.base X.mg c P) (hcode : X.env.code = .ref c) (hmT : (P, X.env.qual ++ "<lambda>") ∈ T) (hu : ∀ p ∈ T, p.1 = P → p.2 = X.env.qual ++ "<lambda>") (hr : Room (k + 2) X.A) (hdef : defaultsOf params X.env = ([], []))
    (S : NScope N ps fr scope) (hfree : ∀ y ∈ scope.names, y.2 = .free → X.env.scope.names.lookup y.1 = some .cell ∨ X.env.scope.names.lookup y.1 = some .free) (hfr : ∀ y ∈ fr, (y, NameKind.free) ∈ scope.names) (hjs : js.map (fun j => X.N[j]?) = fr.map some)
    (hbind : ∀ (q : Str) (cl : List (Str × Addr)) (pm cv ctv : Value) (us : List Value), us.length = ps.length → bindArgs (PySem.W.kla_fn "<lambda>" q params body scope cl pm cv ctv) ⟨us, []⟩ = pure (ps.zip us))
    (hbody : ∀ (A : Around) (outer : List Env) (s : Shared) (H : Hp) (f c' : Addr) (cl : List (Str × Addr)), Room k (A.deeper (envF (lamF (X.env.qual ++ "<lambda>") params scope cl c') f s.heap.objs.size)) → PE (ncx CXl X.prog X.w X.K X.mg X.base N (lamF (X.env.qual ++ "<lambda>") params scope cl c') f A outer s H El) body te)
    (hxl : ∀ Z : Cx, Passes CXl Z El) (hx : Passes CX X E) (h1 : PE X e1 t1) (he : starEach [e1, .Lambda params body scope lpos] X.env = (false, eval e1 X.env) :: starEach [.Lambda params body scope lpos] X.env)
    (hdb : (x == ("__debug__" : Str)) = false := by decide) (hd : (a == ("__debug__" : Str)) = false := by decide) (hcd : (a == ("__classdict__" : Str)) = false := by decide) :
    PE X (.Call (.Name x p) [e1, .Lambda params body scope lpos] [] pos) (tLam1 T TT t1 fun σ vs H Q => te (startF N vs (js.map (slotAt σ))) H Q) := by
  refine ⟨fun pins s σ H Q I h => ?_⟩
  refine wpAny_Call_Name_kw (ld_glob I hg hm ?_ hdb)
  refine PySem.W.callWith_K (h₀ := X.base) I.ok.mod.kin hk ?_ he (by rfl)
  rw [he]
  show wpAny _ _ (spliced ((false, eval e1 X.env) :: (false, eval (.Lambda params body scope lpos) X.env) :: backTo pos (starEach [] X.env))) _ _ s
  refine Calls.spliced_cons (thn (h1.run pins s σ H _ I h) fun u1 s1 ⟨v1, H0, I0, r1, hT, h2⟩ => ?_)
  have hfc : ∀ y ∈ scope.names, y.2 = .free → ∃ c, X.env.cells.lookup y.1 = some c := fun y hy e => (hfree y hy e).elim (fun z => I0.ok.has _ (.inl z)) fun z => I0.ok.has _ (.inr z)
  refine Calls.spliced_cons (lam_make2 I0 TB hcode hmT hu hT hdef hfc fun f c' pm' ctv H1 s' I1 eN T1 hf hfn hfr2 hco => ?_)
  refine Calls.spliced_nil ⟨I1.kIn, ?_⟩
  have C : CellsAt (cloFrom X.env.cells scope.names []) fr (js.map (slotAt σ)) s'.heap H1 := cells_of I1 (Caps.made I1.ok hfree hfr hjs)
  have rc : codeAny (model X.prog X.w) X.A (.call (.ref g) ⟨[u1, .ref f], []⟩) (CR CX X.stack X.prog X.w H1 s' Q E) s' := by
    refine run_ofS (N := Ng) (ps := [a1, a]) (us := [u1, .ref f]) (vs := [v1, .ref f]) lk hcg Sg hr I1.env0 (hb s' [u1, .ref f] I1.kIn rfl) (.cons r1 (.cons rfl .nil)) rfl fun hr' => ?_
    obtain ⟨t', ht', hq'⟩ := hG f c' v1 s' H1 Q (fun vs H' Q' => te (startF N vs (js.map (slotAt σ))) H' Q') hr' (fun e t p1 p2 ha he2 => pe_act1 (CX := CXl) (E := El) hf hfn hfr2 C S (hbind _ _ _ _ _) (hxl _) hr' (fun A outer s H hr2 => hbody A outer s H f c' _ hr2) hNg hva ha hd hcd he2 (by rfl)) hco (h2 H1 eN T1)
    exact ⟨t', ht'.nox, hq'⟩
  refine wpAny_call (codeAny_mono rc fun r s2 hq => ?_)
  cases r with
  | error e => exact hx pins σ H1 s' e s2 I1 hq
  | ok fl =>
    cases fl with
    | ret u => exact I1.after hq
    | next => exact False.elim hq
    | brk => exact False.elim hq
    | cont => exact False.elim hq
end
section
variable {P : Program} {w : World} {K : PySem.W.Frag} {mg : Str → Option Value} {base : Heap}
/-- a def by its body, its code object known -/
theorem ok_code {x qual : Str} {st : Stmt} {f c : Addr} {fd : FuncData} {N ps : List Str} {k : Nat} {sp : Sp} (F : Fun K x qual st f fd) (hc : fd.code = .ref c) (S : FnScope N ps (defScope st)) (len : ∀ vs H Q E, sp vs H Q E → vs.length = ps.length)
    (hbody : ∀ (A : Around) (outer : List Env) (s : Shared) (H : Hp) (vs : List V) (Q : VK) (E : XK), Room k (A.deeper (envOfC qual (defScope st) s.heap.objs.size f (.ref c))) → sp vs H Q E →
      ∃ t, PSs (cxOf CX0 P w K mg base N qual (defScope st) f (.ref c) A outer s H E).nox (defBody st) t ∧ t { nx := fun _ H' => Q .non H', rt := Q } (start N vs) H) : FnOk P w K mg base CX0 (k + 1) f fd ps sp := by
  obtain ⟨oc, od, kV, doc, pm, an, cdv, ct, osl, rfl, lk, hcd⟩ := F.ex
  have e : cdv = .ref c := hc
  subst e
  refine fn_of lk hcd S len fun A outer s H vs Q E hr hsp => ?_
  obtain ⟨t, h, q⟩ := hbody A outer s H vs Q E hr hsp
  exact ⟨t, h.nox, q⟩
end
end LamQ
set_option Elab.async false
set_option linter.all false
set_option maxRecDepth 100000
namespace K05
open PySem PySem.Spec PyProof.Rows L2 R1 ZN
/-- a dict comprehension over a list that stays -/
theorem dc_list {K : PySem.W.Frag} {a : Addr} {xs : List V} {g : TG} {tt : TT} {tk tv : TE} {vs : List Nat} {σ : L2.St} {H1 : Hp} {D : Addr} {Qd : Hp → Prop} (Pv : Nat → Hp → Prop) (h0 : Pv 0 (upd H1 D (.dK []))) (hl : ∀ i H, i ≤ xs.length → Pv i H → SqL K H a xs)
    (hs : ∀ i x H, xs[i]? = some x → Pv i H → g x (wipe σ vs) H fun σ2 H2 => wipe σ2 vs = wipe σ vs ∧ tt σ2 H2 fun b H3 =>
      if b = true then tk σ2 H3 fun y H4 => tv σ2 H4 fun z H5 => ∃ kvs k, y = kV k ∧ H5 D = some (.dK kvs) ∧ kvs.length < sizeLine ∧ Pv (i + 1) (upd H5 D (.dK (putK kvs k z))) else Pv (i + 1) H3) (hd : ∀ H, Pv xs.length H → Qd H) :
    ∃ W : Nat → Nat → Hp → Prop, (∃ m, W 0 m (upd H1 D (.dK []))) ∧ ∀ i m H, W i m H →
      ((Itl K a).stop i H ∧ Qd H) ∨ ((Itl K a).go i H ∧ ∃ Nx : Hp → Prop, (∀ H', Nx H' → ∃ m', m' < m ∧ W (i + 1) m' H') ∧ ∀ x H', (Itl K a).yld i H x H' → g x (wipe σ vs) H' fun σ2 H2 => wipe σ2 vs = wipe σ vs ∧ tt σ2 H2 fun b H3 =>
        if b = true then tk σ2 H3 fun y H4 => tv σ2 H4 fun z H5 => ∃ kvs k, y = kV k ∧ H5 D = some (.dK kvs) ∧ kvs.length < sizeLine ∧ Nx (upd H5 D (.dK (putK kvs k z))) else Nx H3) := by
  refine ⟨fun i m H => m = xs.length - i ∧ i ≤ xs.length ∧ Pv i H, ⟨xs.length, by simp, Nat.zero_le _, h0⟩, ?_⟩
  rintro i m H ⟨rfl, hi, p⟩
  have q := hl i H hi p
  by_cases hlt : i < xs.length
  · refine .inr ⟨⟨xs, xs[i], q, by simp [hlt]⟩, Pv (i + 1), fun H' p' => ⟨xs.length - (i + 1), by omega, rfl, hlt, p'⟩, fun x H' y => ?_⟩
    obtain ⟨e, y⟩ := y
    subst e
    exact hs i x _ (y xs q) p
  · have e : i = xs.length := by omega
    subst e
    exact .inl ⟨⟨xs, q, Nat.le_refl _⟩, hd H p⟩
theorem put_len {κ : Type} [DecidableEq κ] (kvs : List (κ × V)) (k : κ) (v : V) : (putK kvs k v).length ≤ kvs.length + 1 := by
  unfold putK
  split
  · rw [List.length_map]
    omega
  · rw [List.length_append]
    exact Nat.le_refl _
theorem sum_of_get {o : Option Int} : (o.map V.int).getD (.int 0) = V.int (o.getD 0) := by cases o <;> rfl
theorem But.dT {D : Addr} {H H1 H2 : Hp} {o : HO} (h : But D H H1) (s : Same H1 H2) : But D H (upd H2 D o) := h.step s
/-- powers with 0 at the places of a list -/
def zer (ps : List Int) (ns : List Int) : List Int := ns.mapIdx fun j x => if (j : Int) ∈ ps then 0 else x
theorem zer_len (ps ns : List Int) : (zer ps ns).length = ns.length := by simp [zer]
theorem zer_at {ps ns : List Int} {j : Nat} {x : Int} (h : ns[j]? = some x) : (zer ps ns).take (j + 1) = (zer ps ns).take j ++ [if (j : Int) ∈ ps then 0 else x] := by
  rw [List.take_add_one, zer, List.getElem?_mapIdx, h]
  rfl
section
variable {P : Program} {w : World} {K : PySem.W.Frag} {mg : Str → Option Value} {base : Heap}
/-! ### with_powers, without_letters -/
open LamX NdefX LamQ
def rTupOf5 (K : PySem.W.Frag) : List V → Hp → VK → Prop := fun xs H Q => ∃ p ys, xs = [.ref p] ∧ ((SqL K H p ys ∧ ∀ l, H l = none → Q (.ref l) (upd H l (.tup ys))) ∨ (SqT K H p ys ∧ Q (.ref p) H))
abbrev lamN : Str := "without_letters.<locals>.<lambda>"
abbrev T5 (Pt : Addr) : List (Addr × Str) := [(Pt, lamN)]
/-- what was tracked stays, the tables' contents aside -/
theorem ext_of {H H' : Hp} (s : Same H H') : ExtN H H' := ExtN.of s
theorem SumAt.ext {H H' : Hp} {t : Addr} {L : List Trm} (h : SumAt H t L) (s : ExtN H H') : SumAt H' t L := ⟨s _ _ h.at_ (fun _ z => by cases z), h.rows.keep fun b xs e => s _ _ e (fun _ z => by cases z)⟩
/-- the lambda: powers with 0 at the places that are gone -/
def tZer (K : PySem.W.Frag) : TE := tCB (rTupOf5 K) (tCons (tLc (iEnumT K (tCons (tVar 0) tNil)) (gTup K 2 (gCons (gName 2) (gCons (gName 3) gNil))) tYes (tIf (tB (tDIn (tVar 2) (tVar 1))) (tC (.int 0)) (tVar 3)) [2, 3]) tNil)
abbrev lamA : Arguments := { posonlyargs := [], args := [{ arg := "powers", annotation := none, pos := ⟨30, 36, 30, 42⟩ }], vararg := none, kwonlyargs := [], kw_defaults := [], kwarg := none, defaults := [] }
/-- the lambda's words, out of the def's -/
def lamOf : Stmt → Option (Arguments × Expr × Scope × Pos)
  | .FunctionDef (body := [_, .Return (some (.Call _ [_, .Lambda a b s p] _ _)) _]) .. => some (a, b, s, p)
  | _ => none
def lamP : Arguments := ((lamOf sWithout).map (·.1)).getD lamA
def lamB : Expr := ((lamOf sWithout).map (·.2.1)).getD (.Name "x" ⟨0, 0, 0, 0⟩)
def lamS : Scope := ((lamOf sWithout).map (·.2.2.1)).getD (defScope sWithout)
abbrev nmLam : List Str := ["powers", "gone", "at", "power"]
theorem scLam : NScope nmLam ["powers"] ["gone"] lamS := nscope_by (by decide +kernel)
def TTw : V → (List V → Hp → VK → Prop) → Hp → VK → Prop := fun v1 tl H Q => ∃ (t : Addr) (m : Nat) (L : List Trm) (z : List Int → List Int), v1 = .ref t ∧ SumAt H t L ∧ L.length ≤ 500 ∧ m ≤ 1000 ∧ (∀ r ∈ L, r.ns.length = m) ∧ (∀ r ∈ L, (z r.ns).length = m) ∧
  (∀ (r : Trm) (H1 : Hp) (Q1 : VK), r ∈ L → Same H H1 → (∀ H2 b, Same H1 H2 → H2 b = some (.tup ((z r.ns).map V.int)) → Q1 (.ref b) H2) → tl [.ref r.p] H1 Q1) ∧
  ∀ H' (t' : Addr) (L' : List Trm), Same H H' → SumAt H' t' L' → Norm (gather z [] (L.map Trm.d)) (L'.map Trm.d) → L'.length ≤ L.length → Q (.ref t') H'
abbrev nmWith : List Str := ["told", "change", "terms", "powers", "coefficient", "key"]
theorem scWith : FnScope nmWith ["told", "change"] (defScope sWith) := ⟨rfl, rfl, rfl, by decide +kernel, rfl, by decide +kernel, by decide +kernel⟩
theorem gives_with {X : Cx} {g fS : Addr} {cdg : Value} {fdS : FuncData} {k : Nat} (FS : Fun X.K "sum_of_terms" "sum_of_terms" sSumOf fS fdS) (bS : Binds X.K fdS ["terms"] []) (gS : X.mg "sum_of_terms" = some (.ref fS)) (mt : X.mg "tuple" = none) (ms : X.mg "sorted" = none) :
    GivesTo1 X CX0 E0 nmWith "with_powers" (defScope sWith) g cdg (defBody sWith) "change" 1 1 (k + 1) lamN TTw := by
  intro f c' v1 s H Q tl hr act hco h
  obtain ⟨t, m, L, z, rfl, hS, hL, hm, hlen, hz, hcall, q⟩ := h
  have GS : FnOk X.prog X.w X.K X.mg X.base CX0 (k + 1) fS fdS ["terms"] spNorm := ok_sumOf FS mt ms
  have nd := scWith.nd
  have hu := hu_of hr
  refine ⟨_, pss_cons (ps_set (i := 2) nd rfl (.inl rfl) pe_dnewT)
    (pss_cons (ps_for PassesOwn.never rfl (pi_tup (pv 0)) (pg_tup rfl (pgs_cons (pg_name (i := 3) nd rfl (.inl rfl)) (pgs_cons (pg_name (i := 4) nd rfl (.inl rfl)) pgs_nil)))
      (pss_cons (ps_set (i := 5) nd rfl (.inl rfl) (act _ _ _ _ (pa_cons (pv 3) pa_nil) rfl))
      (pss_one (ps_dput hu (pv 2) (pv 5) (pe_op op_add (pe_dget2 hu (pv 2) (pv 5) pe_int ⟨rfl, rfl, rfl, rfl⟩) (pv 4)) rfl))))
    (pss_one (ps_ret (pe_call GS hr (by rfl) gS FS.kp bS .nil pass0 (pa_cons (pv 2) pa_nil))))), ?_⟩
  refine fun d nd => ?_
  have sm1 : Same H (upd H d (.dT [])) := same_new nd
  refine ⟨.ref t, rfl, t, rfl, ⟨_, (hS.same sm1).sq⟩, for_it (walk_tup (K := X.K) (a := t) (xs := L.map Trm.v)) (fun i σ H' => ∃ y3 y4 y5, σ = [some (.ref t), some (.ref f), some (.ref d), y3, y4, y5] ∧ H' d = some (dZ (gather z [] ((L.take i).map Trm.d))) ∧ But d H H')
    ⟨none, none, none, rfl, upd_same, But.start⟩ (fun i σ H' _ h => ?_) (fun i x σ H' H2 hi h hy => ?_) (fun σ H2 h => ?_)⟩
  · obtain ⟨y3, y4, y5, rfl, _, kp2⟩ := h
    exact (hS.same (kp2.same nd)).sq
  · obtain ⟨y3, y4, y5, rfl, hd, kp2⟩ := h
    obtain ⟨rfl, e1⟩ := hy
    rw [List.getElem?_map] at e1
    obtain ⟨r, hr1, rfl⟩ := Option.map_eq_some_iff.mp e1
    have hrm := List.mem_of_getElem? hr1
    have s2 : Same H H2 := kp2.same nd
    obtain ⟨o1, o2⟩ := (hS.same s2).rows r hrm
    refine ⟨r.t, _, rfl, .inl (.inl o1), rfl, _, _, rfl, _, _, rfl, rfl, rfl, .ref r.p, rfl, rfl, ?_⟩
    refine ⟨s2 _ _ hco, hcall r H2 _ hrm s2 fun H4 b s3 hb4 => ?_⟩
    have hd4 := s3 _ _ hd
    refine ⟨.ref d, rfl, d, rfl, .inr ⟨_, .inl hd4⟩, .ref b, rfl, _, DictAt.get (m := m) (.inl hd4) hb4, .int r.c, rfl, _, r.c, sum_of_get, rfl, ?_⟩
    refine ⟨.ref d, rfl, .ref b, rfl, d, _, rfl, DPut.t (k := (z r.ns).map Sum.inl) hd4 (by rw [map_kV]; exact hb4) ?_, ?_⟩
    · have := gather_len z ((L.take i).map Trm.d) []
      rw [List.length_map, List.length_take, List.length_nil] at this
      rw [List.length_map, sizeLine_eq]
      omega
    · refine ⟨_, _, _, rfl, ?_, kp2.step s3⟩
      rw [upd_same, putK_enc, List.take_add_one, hr1, List.map_append]
      show some (HO.dT _) = some (dZ (gather z [] ((L.take i).map Trm.d ++ [r.d])))
      rw [gather_snoc]
      rfl
  · obtain ⟨y3, y4, y5, rfl, hd, kp2⟩ := h
    rw [List.length_map, List.take_length] at hd
    have s2 : Same H H2 := kp2.same nd
    have gl := gather_len z (L.map Trm.d) []
    rw [List.length_map, List.length_nil] at gl
    refine ⟨.ref d, rfl, d, m, _, rfl, ⟨hd, gather_nodup _ _ _ (by simp [NodupK]), gather_keys _ _ (fun q h => by cases h) fun q hq => ?_⟩, by omega, fun H3 t' L' s3 nt' hS' hN hl' => ?_⟩
    · obtain ⟨r, hr2, rfl⟩ := List.mem_map.mp hq
      exact hz r hr2
    · exact q H3 t' L' (s2.trans s3) hS' hN (by omega)
def spWithout (Pt : Addr) : Sp := fun vs H Q _ => ∃ (t l : Addr) (m : Nat) (L : List Trm) (ps : List Int), vs = [.ref t, .ref l] ∧ SumAt H t L ∧ L.length ≤ 500 ∧ m ≤ 1000 ∧ (∀ r ∈ L, r.ns.length = m) ∧ H l = some (.lst (ps.map V.int)) ∧ ps.length ≤ 1000 ∧ Tabs (T5 Pt) H ∧
  ∀ H' (t' : Addr) (L' : List Trm), ExtN H H' → Tabs (T5 Pt) H' → SumAt H' t' L' → Norm (gather (zer ps) [] (L.map Trm.d)) (L'.map Trm.d) → L'.length ≤ L.length → Q (.ref t') H'
abbrev nmWithout : List Str := ["told", "places", "gone", "place"]
theorem scWithout : FnScope nmWithout ["told", "places"] (defScope sWithout) := ⟨rfl, rfl, rfl, by decide +kernel, rfl, by decide +kernel, by decide +kernel⟩
theorem ok_without {f fWi fS c Pt : Addr} {fd fdWi fdS : FuncData} {k : Nat} (F : Fun K "without_letters" "without_letters" sWithout f fd) (hc : fd.code = .ref c) (FW : Fun K "with_powers" "with_powers" sWith fWi fdWi) (bW : L2.Binds K fdWi ["told", "change"] []) (gW : mg "with_powers" = some (.ref fWi))
    (FS : Fun K "sum_of_terms" "sum_of_terms" sSumOf fS fdS) (bS : L2.Binds K fdS ["terms"] []) (gS : mg "sum_of_terms" = some (.ref fS)) (mt : mg "tuple" = none) (ms : mg "sorted" = none) (me : mg "enumerate" = none) (TB : TabB base mg c Pt) :
    FnOk P w K mg base CX0 (k + 4) f fd ["told", "places"] (spWithout Pt) := by
  obtain ⟨oc, od, kV, doc, pm, an, cdv, ct, osl, rfl, lk, hcg⟩ := FW.ex
  refine ok_code F hc scWithout (fun vs H Q E h => ?_) (fun A outer s H vs Q E hr h => ?_)
  · obtain ⟨t, l, m, L, ps, rfl, _⟩ := h
    rfl
  · obtain ⟨t, l, m, L, ps, rfl, hS, hL, hm, hlen, hl, hps, hTb, q⟩ := h
    have hu := hu_of hr
    have nd := scWithout.nd
    refine ⟨_, pss_cons (ps_set (i := 2) nd rfl (.inr rfl) (pe_dc (own := [("place", 3)]) (g := gName 3) (by rfl) nd (pi_list (pv 1)) (blkOk_by (own := [("place", 3)]) (N := nmWithout) (sc := defScope sWithout) (by decide +kernel))
          (fun _ _ _ _ _ => pg_name (i := 3) nd rfl (.inl rfl)) (fun _ _ _ _ _ => pts_nil) (fun _ _ _ _ _ => pv 3) (fun _ _ _ _ _ => pe_bl)))
      (pss_one (ps_ret (pe_lamcall1 (T := T5 Pt) (TT := TTw) (x := "with_powers") (a := "change") (a1 := "told") (g := fWi) (c := c) (P := Pt) (k := k + 1) (ia := 1) (Ng := nmWith) (N := nmLam) (ps := ["powers"]) (fr := ["gone"]) (js := [2]) (te := tZer K) (CX := CX0) (CXl := CX0) (E := E0) (El := E0)
        (by rfl) gW FW.kp lk hcg bW scWith rfl (.inl rfl) (gives_with (k := k + 1) FS bS gS mt ms) TB rfl (List.mem_singleton.mpr (by rfl)) (fun p hp _ => by cases List.mem_singleton.mp hp; rfl) hr (by rfl) scLam (ndef_free (sc := defScope sWithout) (nsc := lamS) (fr := ["gone"]) (by decide +kernel)) (ndef_fr (sc := defScope sWithout) (nsc := lamS) (by decide +kernel)) rfl
        (fun _ _ _ _ _ us hl => match us, hl with | [_], _ => rfl)
        (fun A outer s H f c' cl hr => pe_callTy (r := rTupOf5 K) call_tuple_of (by rfl) mt (by decide +kernel) (pa_cons (pe_lc (wi := iEnumT K (tCons (tVar 0) tNil)) (own := [("at", 2), ("power", 3)]) (g := gTup K 2 (gCons (gName 2) (gCons (gName 3) gNil))) (tt := tYes) (by rfl) scLam.nd (pi_enumT (by rfl) me (pa_cons (pv 0) pa_nil)) (blkOk_by (own := [("at", 2), ("power", 3)]) (N := nmLam) (sc := lamS) (by decide +kernel))
            (fun _ _ _ _ _ => pg_tup rfl (pgs_cons (pg_name (i := 2) scLam.nd rfl (.inl rfl)) (pgs_cons (pg_name (i := 3) scLam.nd rfl (.inl rfl)) pgs_nil))) (fun _ _ _ _ _ => pts_nil)
            (fun _ _ _ _ _ => pe_ifExp (tA := tB (tDIn (tVar 2) (tVar 1))) (pt_cmp (pc_din (hu_of hr) (pv 2) (pv 1))) pe_int (pv 3))) pa_nil))
        (fun _ => pass0) pass0 (pv 0) (by rfl)))), ?_⟩
    refine ⟨.ref l, rfl, l, rfl, ⟨_, sqlOf hl⟩, fun D nD => ?_⟩
    have lD : l ≠ D := ne_of_none hl nD
    refine dc_list (xs := ps.map V.int) (fun j H' => ∃ kvs, H' D = some (.dK kvs) ∧ (∀ i : Int, (valV kvs (Sum.inl i)).isSome = decide (i ∈ ps.take j)) ∧ kvs.length ≤ j ∧ But D H H') ⟨[], upd_same, (fun i => by simp [valV]), Nat.le_refl _, But.start⟩ (fun i H' _ h => ?_) (fun i x H' hx h => ?_) (fun H1 h => ?_)
    · obtain ⟨_, _, _, _, kp⟩ := h
      exact sqlOf (kp l _ lD hl)
    · obtain ⟨kvs, hD, hv, hk, kp⟩ := h
      rw [List.getElem?_map] at hx
      obtain ⟨v, f1, rfl⟩ := Option.map_eq_some_iff.mp hx
      have hlt := (List.getElem?_eq_some_iff.mp f1).1
      refine ⟨rfl, .int v, rfl, kvs, Sum.inl v, rfl, hD, (by rw [sizeLine_eq]; omega), _, upd_same, fun i' => ?_, Nat.le_trans (put_len _ _ _) (Nat.succ_le_succ hk), kp.step (Same.refl _)⟩
      rw [valV_put, List.take_add_one, f1]
      by_cases e : i' = v
      · subst e
        simp
      · rw [if_neg (fun z => e (by injection z)), hv]
        simp [e]
    obtain ⟨kvs, hD, hv, _, kp⟩ := h
    rw [List.length_map, List.take_length] at hv
    have sm1 : Same H H1 := kp.same nD
    refine ⟨.ref t, rfl, hTb.ext sm1, fun H2 e2 T2 => ?_⟩
    have hS2 := (hS.same sm1).ext e2
    refine ⟨t, m, L, zer ps, rfl, hS2, hL, hm, hlen, fun r hr => by rw [zer_len]; exact hlen r hr, fun r H3 Q3 hrm s3 hq => ?_, fun H' t' L' s' hS' hN hl' => q H' t' L' (((ExtN.of sm1).trans e2).trans (ExtN.of s')) (T2.ext s') hS' hN hl'⟩
    have hDt : H3 D = some (.dK kvs) := s3 _ _ (e2 _ _ hD (fun _ z => by cases z))
    obtain ⟨o1, o2⟩ := (hS2.same s3).rows r hrm
    show tZer K [some (.ref r.p), some (.ref D), none, none] H3 Q3
    refine ⟨.ref r.p, rfl, r.p, _, rfl, .inl (.inl o2), fun E nE => ?_⟩
    refine lc_it (walk_enumT (K := K) (a := r.p) (xs := r.ns.map V.int)) (fun j H' => H' E = some (.lst (((zer ps r.ns).take j).map V.int)) ∧ But E H3 H') ⟨upd_same, But.start⟩ (fun j H' _ h => ?_) (fun j x H4 H' hj h hy => ?_) (fun H4 h => ?_)
    · exact .inl (.inl (h.2.at_ nE o2))
    · obtain ⟨hE, kp3⟩ := h
      obtain ⟨T, x1, x2, rfl, nT, rfl, e1, e3⟩ := hy
      cases e1
      dsimp only at e3
      rw [List.getElem?_map] at e3
      obtain ⟨n2, f2, rfl⟩ := Option.map_eq_some_iff.mp e3
      have TE : E ≠ T := ne_of_none hE nT
      have sT := same_new (o := .tup [.int (j : Nat), .int n2]) nT
      have hD4 : upd H4 T (.tup [.int (j : Nat), .int n2]) D = some (.dK kvs) := sT _ _ (kp3.at_ nE hDt)
      have hlt := (List.getElem?_eq_some_iff.mp f2).1
      have fin : ∀ y : Int, y = (if (j : Int) ∈ ps then 0 else n2) → ∃ acc, upd H4 T (.tup [.int (j : Nat), .int n2]) E = some (.lst acc) ∧ acc.length < sizeLine ∧ (upd (upd H4 T (.tup [.int (j : Nat), .int n2])) E (.lst (acc ++ [.int y])) E = some (.lst (((zer ps r.ns).take (j + 1)).map V.int)) ∧ But E H3 (upd (upd H4 T (.tup [.int (j : Nat), .int n2])) E (.lst (acc ++ [.int y])))) := fun y ey => by
        refine ⟨_, sT _ _ hE, ?_, ?_, kp3.step sT⟩
        · have := hlen r hrm
          rw [List.length_map, List.length_take, zer_len, sizeLine_eq]
          omega
        · rw [upd_same, zer_at f2, List.map_append, ey]
          rfl
      refine ⟨T, _, rfl, .inl (.inl upd_same), rfl, _, _, rfl, _, _, rfl, rfl, rfl, .int (j : Nat), rfl, .ref D, rfl, D, _, rfl, DGet.k (k := Sum.inl (j : Int)) hD4, _, rfl, ite2 (fun e => ?_) (fun e => ?_)⟩
      · refine fin 0 ?_
        rw [hv] at e
        rw [if_pos (of_decide_eq_true e)]
      · refine ⟨.int n2, rfl, fin n2 ?_⟩
        rw [hv] at e
        rw [if_neg (fun z => e (decide_eq_true z))]
    · obtain ⟨hE, kp3⟩ := h
      rw [List.length_map, List.take_of_length_le (by rw [zer_len]; exact Nat.le_refl _)] at hE
      refine ⟨E, _, rfl, .inl ⟨sqlOf hE, fun b nb => ?_⟩⟩
      have s4 : Same H3 (upd H4 b (.tup ((zer ps r.ns).map V.int))) := (kp3.same nE).trans (same_new nb)
      exact hq _ b s4 upd_same
end
end K05
set_option Elab.async false
set_option linter.all false
set_option maxRecDepth 100000
namespace K05
open PySem PySem.Spec PyProof.Rows L2 R1 ZN LamX
section
variable {P : Program} {w : World} {K : PySem.W.Frag} {mg : Str → Option Value} {base : Heap}
/-! ### ones -/
def spOnes (Pt : Addr) : Sp := fun vs H Q _ => ∃ (t l : Addr) (m : Nat) (L : List Trm) (ps : List Int), vs = [.ref t, .ref l] ∧ SumAt H t L ∧ L.length ≤ 500 ∧ 0 < m ∧ m ≤ 1000 ∧ Good m (L.map Trm.d) ∧ H l = some (.lst (ps.map V.int)) ∧ ps.length ≤ 1000 ∧ (∀ p ∈ ps, 0 ≤ p) ∧ (L ≠ [] → ∀ p ∈ ps, p < m) ∧ Tabs (T5 Pt) H ∧
  ∀ H' (t' : Addr) (L' : List Trm), ExtN H H' → Tabs (T5 Pt) H' → SumAt H' t' L' → Norm (gather (zer ps) [] (L.map Trm.d)) (L'.map Trm.d) → L'.length ≤ L.length → Q (.ref t') H'
abbrev nmOnes : List Str := ["one", "places", "many", "place"]
theorem scOnes : FnScope nmOnes ["one", "places"] (defScope sOnes) := ⟨rfl, rfl, rfl, by decide +kernel, rfl, by decide +kernel, by decide +kernel⟩
section
variable {fI fC fO fN fL : Addr} {dI dC dO dN dL : FuncData}
theorem ok_ones {f fW fS fWi c Pt : Addr} {fd fdW fdS fdWi : FuncData} {k : Nat} (F : Fun K "ones" "ones" sOnes f fd) (FW : Fun K "without_letters" "without_letters" sWithout fW fdW) (bW : Binds K fdW ["told", "places"] []) (gW : mg "without_letters" = some (.ref fW))
    (FS : Fun K "sum_of_terms" "sum_of_terms" sSumOf fS fdS) (bS : Binds K fdS ["terms"] []) (gS : mg "sum_of_terms" = some (.ref fS)) (ms : mg "sorted" = none) (D : Prog K mg fI fC fO fN fL dI dC dO dN dL)
    (hc : fdW.code = .ref c) (FWi : Fun K "with_powers" "with_powers" sWith fWi fdWi) (bWi : L2.Binds K fdWi ["told", "change"] []) (gWi : mg "with_powers" = some (.ref fWi)) (TB : TabB base mg c Pt) : FnOk P w K mg base CX0 (k + 5) f fd ["one", "places"] (spOnes Pt) := by
  have GO : FnOk P w K mg base CX0 (k + 3) fO dO ["sums"] (spLettersOf K) := D.lo
  have GW : FnOk P w K mg base CX0 (k + 4) fW fdW ["told", "places"] (spWithout Pt) := ok_without FW hc FWi bWi gWi FS bS gS D.tuple ms D.enumerate TB
  refine F.ok scOnes (fun vs H Q E h => ?_) (fun cdv A outer s H vs Q E hr h => ?_)
  · obtain ⟨t, l, m, L, ps, rfl, _⟩ := h
    rfl
  · obtain ⟨t, l, m, L, ps, rfl, hS, hL, hm0, hm1, hG, hl, hps, p0, p1, hTb, q⟩ := h
    have r3 := hr.mono (show k + 3 ≤ k + 4 by omega)
    refine ⟨_, pss_cons (ps_set (i := 2) scOnes.nd rfl (.inl rfl) (pe_call GO r3 (by rfl) D.gLo D.Lo.kp D.bLo .nil pass0 (pa_cons (pe_lst (pa_cons (pv 0) pa_nil)) pa_nil)))
      (pss_cons (ps_for PassesOwn.never rfl (pi_list (pv 1)) (pg_name (i := 3) scOnes.nd rfl (.inl rfl))
        (pss_one (ps_if (PW.pt (pw_or (pt_cmpR op_lt (pv 3) pe_int (nomark _)) (pw_or1 (PW.pt (pw_and (pt_truth (pv 0) (by intro _; rfl)) (pw_and1 (pt_cmpR op_ge (pv 3) (pv 2) (nomark _)))))))) pss_never pss_nil)))
      (pss_one (ps_ret (pe_call GW hr (by rfl) gW FW.kp bW .nil pass0 (pa_cons (pv 0) (pa_cons (pv 1) pa_nil)))))), ?_⟩
    refine ⟨.ref t, rfl, one1, fun p np => ?_⟩
    have s1 : Same H (upd H p (.lst [.ref t])) := same_new np
    refine ⟨p, t, m, L, rfl, sqlOf upd_same, hS.same s1, by omega, hm0, hG, fun H2 s2 => ?_⟩
    have s12 := s1.trans s2
    have hl2 := s12 _ _ hl
    refine ⟨.ref l, rfl, l, rfl, ⟨_, sqlOf hl2⟩, for_list (xs := ps.map V.int) (fun i σ H' => ∃ y3, σ = [some (.ref t), some (.ref l), some (.int (if L.isEmpty then 0 else (m : Int))), y3] ∧ H' = H2) ⟨none, rfl, rfl⟩ (fun i σ H' _ h => ?_) (fun i x σ H' hx h => ?_) (fun σ H' h => ?_)⟩
    · obtain ⟨y3, rfl, rfl⟩ := h
      exact sqlOf hl2
    · obtain ⟨y3, rfl, rfl⟩ := h
      rw [List.getElem?_map] at hx
      obtain ⟨v, f1, rfl⟩ := Option.map_eq_some_iff.mp hx
      have hv := List.mem_of_getElem? f1
      have a0 := p0 v hv
      refine ⟨.int v, rfl, v, 0, rfl, rfl, _, rfl, ite2 (fun e => absurd (of_decide_eq_true e) (by omega)) (fun _ => ?_)⟩
      refine ⟨.ref t, rfl, !(L.map Trm.v).isEmpty, .inr (.inl ⟨_, (hS.same s12).sq, rfl⟩), ?_⟩
      cases L with
      | nil => exact iteF (iteF ⟨_, rfl, rfl⟩)
      | cons r L =>
        have a1 := p1 (by simp) v hv
        refine iteT ⟨.int v, rfl, .int m, rfl, v, m, rfl, rfl, _, rfl, ite2 (fun e => absurd (of_decide_eq_true e) (by omega)) (fun _ => ⟨_, rfl, rfl⟩)⟩
    · obtain ⟨y3, rfl, rfl⟩ := h
      refine ⟨.ref t, rfl, .ref l, rfl, t, l, m, L, ps, rfl, hS.same s12, hL, hm1, hG.len, hl2, hps, hTb.ext s12, fun H3 t' L' e3 T3 hS' hN hl' => ?_⟩
      exact q H3 t' L' ((ExtN.of s12).trans e3) T3 hS' hN hl'
end
/-! ### letter_of, letter -/
def unit (at_ : Int) (m : Nat) : List Int := (List.range m).map fun (j : Nat) => if (j : Int) = at_ then 1 else 0
theorem unit_step {at_ : Int} {j : Nat} : unit at_ (j + 1) = unit at_ j ++ [if (j : Int) = at_ then 1 else 0] := by
  unfold unit
  rw [List.range_succ, List.map_append]
  rfl
def spLetterOf : Sp := fun vs H Q _ => ∃ (i : Int) (m : Nat), vs = [.int i, .int m] ∧ m ≤ 1000 ∧ ∀ H' (t : Addr) (L : List Trm), Same H H' → H t = none → SumAt H' t L → L.map Trm.d = [(unit i m, 1)] → Q (.ref t) H'
abbrev nmLetterOf : List Str := ["at", "many", "other"]
theorem scLetterOf : FnScope nmLetterOf ["at", "many"] (defScope sLetterOf) := ⟨rfl, rfl, rfl, by decide +kernel, rfl, by decide +kernel, by decide +kernel⟩
theorem ok_letterOf {f : Addr} {fd : FuncData} {k : Nat} (F : Fun K "letter_of" "letter_of" sLetterOf f fd) (mt : mg "tuple" = none) (mr : mg "range" = none) : FnOk P w K mg base CX0 (k + 1) f fd ["at", "many"] spLetterOf := by
  refine F.ok scLetterOf (fun vs H Q E h => ?_) (fun cdv A outer s H vs Q E hr h => ?_)
  · obtain ⟨i, m, rfl, _⟩ := h
    rfl
  · obtain ⟨i, m, rfl, hm, q⟩ := h
    refine ⟨_, pss_one (ps_ret (pe_tup (pa_cons (pe_tup (pa_cons (pe_callTy call_tuple_of (by rfl) mt (by decide +kernel) (pa_cons (pe_lc (own := [("other", 2)]) (g := gName 2) (by rfl) scLetterOf.nd (pi_range1 rfl mr (pa_cons (pv 1) pa_nil)) (blkOk_by (own := [("other", 2)]) (N := nmLetterOf) (sc := defScope sLetterOf) (by decide +kernel))
        (fun _ _ _ _ _ => pg_name (i := 2) scLetterOf.nd rfl (.inl rfl)) (fun _ _ _ _ _ => pts_nil) (fun _ _ _ _ _ => pe_ifExp (tA := tTest (tOp rEq (tVar 2) (tVar 0))) (pt_cmpR op_eq (pv 2) (pv 0) (nomark _)) pe_int pe_int)) pa_nil)) (pa_cons pe_int pa_nil))) pa_nil))), ?_⟩
    refine ⟨.int m, rfl, m, rfl, by omega, by omega, fun D nD => ?_⟩
    refine lc_range (lo := 0) (n := m) (fun j H' => H' D = some (.lst ((unit i j).map V.int)) ∧ But D H H') ⟨upd_same, But.start⟩ (fun j H' hj h => ?_) (fun H1 h => ?_)
    · obtain ⟨hD, kp⟩ := h
      have fin : ∀ y : Int, y = (if (j : Int) = i then 1 else 0) → ∃ acc, H' D = some (.lst acc) ∧ acc.length < sizeLine ∧ (upd H' D (.lst (acc ++ [.int y])) D = some (.lst ((unit i (j + 1)).map V.int)) ∧ But D H (upd H' D (.lst (acc ++ [.int y])))) := fun y ey => by
        refine ⟨_, hD, ?_, ?_, kp.step (Same.refl _)⟩
        · rw [List.length_map, unit, List.length_map, List.length_range, sizeLine_eq]
          omega
        · rw [upd_same, unit_step, List.map_append, ey]
          rfl
      refine ⟨rfl, .int (0 + j), rfl, .int i, rfl, rfl, _, rfl, ite2 (fun e => ?_) (fun e => ?_)⟩
      · have e := V.int.inj (of_decide_eq_true e)
        exact fin 1 (by rw [if_pos (by omega)])
      · exact fin 0 (by rw [if_neg (fun z => e (decide_eq_true (by rw [← z]; simp)))])
    · obtain ⟨hD, kp⟩ := h
      have sm := kp.same nD
      refine ⟨D, _, rfl, .inl ⟨sqlOf hD, fun p np => ?_⟩⟩
      have s2 := sm.trans (same_new (o := .tup ((unit i m).map V.int)) np)
      refine ⟨size2', fun t nt => ⟨one1, fun u nu => ?_⟩⟩
      have s3 := s2.trans (same_new (o := .tup [.ref p, .int 1]) nt)
      refine q _ u [⟨t, p, unit i m, 1⟩] (s3.trans (same_new nu)) (s3.free nu) ⟨upd_same, fun r hr => ?_⟩ rfl
      rw [List.mem_singleton.mp hr]
      exact ⟨same_new nu _ _ upd_same, same_new nu _ _ (same_new nt _ _ upd_same)⟩
def spLetter : Sp := fun vs H Q _ => ∃ (i : Int) (m : Nat), vs = [.int i, .int m] ∧ m ≤ 1000 ∧ 0 ≤ i ∧ i < m ∧ ∀ H' (t : Addr) (L : List Trm), Same H H' → H t = none → SumAt H' t L → L.map Trm.d = [(unit i m, 1)] → Q (.ref t) H'
abbrev nmLetter : List Str := ["at", "many"]
theorem scLetter : FnScope nmLetter ["at", "many"] (defScope sLetter) := ⟨rfl, rfl, rfl, by decide +kernel, rfl, by decide +kernel, by decide +kernel⟩
theorem ok_letter {f fO : Addr} {fd fdO : FuncData} {k : Nat} (F : Fun K "letter" "letter" sLetter f fd) (FO : Fun K "letter_of" "letter_of" sLetterOf fO fdO) (bO : Binds K fdO ["at", "many"] []) (gO : mg "letter_of" = some (.ref fO)) (mt : mg "tuple" = none) (mr : mg "range" = none) : FnOk P w K mg base CX0 (k + 2) f fd ["at", "many"] spLetter := by
  have GO : FnOk P w K mg base CX0 (k + 1) fO fdO ["at", "many"] spLetterOf := ok_letterOf FO mt mr
  refine F.ok scLetter (fun vs H Q E h => ?_) (fun cdv A outer s H vs Q E hr h => ?_)
  · obtain ⟨i, m, rfl, _⟩ := h
    rfl
  · obtain ⟨i, m, rfl, hm, h0, h1, q⟩ := h
    refine ⟨_, pss_cons (ps_if (pt_not (pt_chain op_le op_lt pe_int (pv 0) (pv 1))) pss_never pss_nil)
      (pss_one (ps_ret (pe_call GO hr (by rfl) gO FO.kp bO .nil pass0 (pa_cons (pv 0) (pa_cons (pv 1) pa_nil))))), ?_⟩
    refine ⟨.int i, rfl, 0, i, rfl, rfl, _, rfl, ite2 (fun _ => ?_) (fun e => absurd (decide_eq_true h0) e)⟩
    refine ⟨.int m, rfl, i, m, rfl, rfl, _, rfl, ?_⟩
    rw [decide_eq_true h1]
    exact iteF ⟨.int i, rfl, .int m, rfl, i, m, rfl, hm, q⟩
end
/-! ### calls by keywords alone -/
def id1 {α : Type} : List α → List α → List α
  | [], [a] => [a]
  | _, _ => []
theorem kb_one {K : PySem.W.Frag} {x q : Str} {st : Stmt} {f : Addr} {fd : FuncData} (F : Fun K x q st f fd) (hb : ∀ (kV doc pm : Value) (an : Option Addr) (cdv ct : Value) (s : Shared) (a : Value), BindsTo s (PySem.W.fnOf x q (defArgs st) (defBody st) (defScope st) .none kV doc pm an cdv ct) ⟨[], [("one", a)]⟩ [("one", a)]) : KBinds K fd ["one"] ["one"] id1 id1 := by
  obtain ⟨oc, od, kV, doc, pm, an, cdv, ct, osl, rfl, _⟩ := F.ex
  refine ⟨fun s us ws _ h => ?_, fun {vs us zs ws} r1 r2 => ?_⟩
  · match us, ws, h with
    | [], [a], _ => exact hb _ _ _ _ _ _ s a
    | [], [], h => cases h
    | [], _ :: _ :: _, h => cases h
    | _ :: _, _, h => cases h
  · cases r1 with
    | cons _ _ => exact .nil
    | nil =>
      cases r2 with
      | nil => exact .nil
      | cons a r2 =>
        cases r2 with
        | nil => exact .cons a .nil
        | cons _ _ => exact .nil
/-- two keywords, in the other order -/
def swap2 {α : Type} : List α → List α → List α
  | [], [m, t] => [t, m]
  | _, _ => []
theorem swap2_rel {vs : List V} {us : List Value} {zs : List V} {ws : List Value} (r1 : Vals vs us) (r2 : Vals zs ws) : Vals (swap2 vs zs) (swap2 us ws) := by
  cases r1 with
  | cons _ _ => exact .nil
  | nil =>
    cases r2 with
    | nil => exact .nil
    | cons a r2 =>
      cases r2 with
      | nil => exact .nil
      | cons b r2 =>
        cases r2 with
        | nil => exact .cons b (.cons a .nil)
        | cons _ _ => exact .nil
theorem kb_leastP {K : PySem.W.Frag} {f : Addr} {fd : FuncData} (F : Fun K "least_powers" "least_powers" sLeastP f fd) : KBinds K fd ["one"] ["one"] id1 id1 := kb_one F fun _ _ _ _ _ _ _ _ => BindsTo.of_eq rfl
theorem kb_freed {K : PySem.W.Frag} {f : Addr} {fd : FuncData} (F : Fun K "freed" "freed" sFreed f fd) : KBinds K fd ["one"] ["one"] id1 id1 := kb_one F fun _ _ _ _ _ _ _ _ => BindsTo.of_eq rfl
theorem kb_ones {K : PySem.W.Frag} {f : Addr} {fd : FuncData} (F : Fun K "ones" "ones" sOnes f fd) : KBinds K fd ["one", "places"] ["places", "one"] swap2 swap2 := by
  obtain ⟨oc, od, kV, doc, pm, an, cdv, ct, osl, rfl, _⟩ := F.ex
  refine ⟨fun s us ws _ h => ?_, swap2_rel⟩
  match us, ws, h with
  | [], [m, t], _ => exact BindsTo.of_eq rfl
  | [], [], h => cases h
  | [], [_], h => cases h
  | [], _ :: _ :: _ :: _, h => cases h
  | _ :: _, _, h => cases h
theorem kb_letter {K : PySem.W.Frag} {f : Addr} {fd : FuncData} (F : Fun K "letter" "letter" sLetter f fd) : KBinds K fd ["at", "many"] ["many", "at"] swap2 swap2 := by
  obtain ⟨oc, od, kV, doc, pm, an, cdv, ct, osl, rfl, _⟩ := F.ex
  refine ⟨fun s us ws _ h => ?_, swap2_rel⟩
  match us, ws, h with
  | [], [m, t], _ => exact BindsTo.of_eq rfl
  | [], [], h => cases h
  | [], [_], h => cases h
  | [], _ :: _ :: _ :: _, h => cases h
  | _ :: _, _, h => cases h
end K05
set_option Elab.async false
set_option linter.all false
set_option maxRecDepth 100000
namespace K05
open PySem PySem.Spec PyProof.Rows L2 R1 ZN
/-- the same data at both, up to so many levels -/
inductive Sm (H : Hp) : Nat → V → V → Prop
  | int {n : Nat} (i : Int) : Sm H n (.int i) (.int i)
  | tup {n : Nat} {a b : Addr} {xs ys : List V} (h1 : H a = some (.tup xs)) (h2 : H b = some (.tup ys)) (hl : xs.length = ys.length) (hz : xs.length ≤ 1000) (h : ∀ (j : Nat) (x y : V), xs[j]? = some x → ys[j]? = some y → Sm H n x y) : Sm H (n + 1) (.ref a) (.ref b)
  | lst {n : Nat} {a b : Addr} {xs ys : List V} (h1 : H a = some (.lst xs)) (h2 : H b = some (.lst ys)) (hl : xs.length = ys.length) (hz : xs.length ≤ 1000) (h : ∀ (j : Nat) (x y : V), xs[j]? = some x → ys[j]? = some y → Sm H n x y) : Sm H (n + 1) (.ref a) (.ref b)
theorem Sm.same {H H' : Hp} {n : Nat} {x y : V} (h : Sm H n x y) (s : Same H H') : Sm H' n x y := by
  induction h with
  | int i => exact .int i
  | tup h1 h2 hl hz _ ih => exact .tup (s _ _ h1) (s _ _ h2) hl hz ih
  | lst h1 h2 hl hz _ ih => exact .lst (s _ _ h1) (s _ _ h2) hl hz ih
theorem isi {K : PySem.W.Frag} {H : Hp} {x : V} {T : String} {b : Bool} {Q : VK} (ty : TyOf K H x (.type T)) (C : String) (e : kitB T C = some b) (q : Q (.bl b) H) : rIsi K [x, .ty C] H Q := ⟨x, .ty C, _, _, b, rfl, .ty C, .base ty, kit_ty e, q⟩
def spSame : Nat → Sp
  | 0 => fun _ _ _ _ => False
  | n + 1 => fun vs H Q _ => ∃ x y, vs = [x, y] ∧ Sm H n x y ∧ ∀ H', Same H H' → Q (.bl true) H'
abbrev nmSame : List Str := ["_law_told", "_law_due", "_law_one", "_law_other"]
theorem scSame : FnScope nmSame ["_law_told", "_law_due"] (defScope sSame) := ⟨rfl, rfl, rfl, by decide +kernel, rfl, by decide +kernel, by decide +kernel⟩
section
variable {P : Program} {w : World} {K : PySem.W.Frag} {mg : Str → Option Value} {base : Heap}
theorem ok_same {f : Addr} {fd : FuncData} {k : Nat} (F : Fun K "_law_same" "_law_same" sSame f fd) (bF : Binds K fd ["_law_told", "_law_due"] []) (gF : mg "_law_same" = some (.ref f)) (ms : mg "isinstance" = none) (mb : mg "bool" = none) (mi : mg "int" = none) (mst : mg "str" = none) (ml : mg "list" = none) (mt : mg "tuple" = none) (me : mg "len" = none) (mz : mg "zip" = none) :
    ∀ n, FnOk P w K mg base CX0 (k + 1 + n) f fd ["_law_told", "_law_due"] (spSame n)
  | 0 => F.ok scSame (fun vs H Q E h => h.elim) (fun cdv A outer s H vs Q E hr h => h.elim)
  | n + 1 => by
    have G : FnOk P w K mg base CX0 (k + 1 + n) f fd ["_law_told", "_law_due"] (spSame n) := ok_same F bF gF ms mb mi mst ml mt me mz n
    refine F.ok scSame (fun vs H Q E h => ?_) (fun cdv A outer s H vs Q E hr h => ?_)
    · obtain ⟨x, y, rfl, _⟩ := h
      rfl
    · obtain ⟨x, y, rfl, hS, q⟩ := h
      refine ⟨_, pss_cons (ps_if (pt_cmp (pc_isN (pv 1))) pss_never pss_nil)
        (pss_cons (ps_if (pt_val (pe_callB call_isi (by rfl) ms (by decide +kernel) (pa_cons (pv 1) (pa_cons (pe_bltn (v := .ty "bool") (by rfl) mb (by decide +kernel) rfl) pa_nil)))) pss_never pss_nil)
        (pss_cons (ps_if (pt_val (pe_callB call_isi (by rfl) ms (by decide +kernel) (pa_cons (pv 1) (pa_cons (pe_bltn (v := .ty "int") (by rfl) mi (by decide +kernel) rfl) pa_nil))))
          (pss_one (ps_ret (pe_and (pe_callB call_isi (by rfl) ms (by decide +kernel) (pa_cons (pv 0) (pa_cons (pe_bltn (v := .ty "int") (by rfl) mi (by decide +kernel) rfl) pa_nil)))
            (pe_and (pe_not (pe_callB call_isi (by rfl) ms (by decide +kernel) (pa_cons (pv 0) (pa_cons (pe_bltn (v := .ty "bool") (by rfl) mb (by decide +kernel) rfl) pa_nil)))) (pe_one (pe_cmpR op_eq (pv 0) (pv 1) (nomark _))))))) pss_nil)
        (pss_cons (ps_if (pt_val (pe_callB call_isi (by rfl) ms (by decide +kernel) (pa_cons (pv 1) (pa_cons (pe_bltn (v := .ty "str") (by rfl) mst (by decide +kernel) rfl) pa_nil)))) pss_never pss_nil)
        (pss_cons (ps_if (PW.pt (pw_or (pt_cmpR op_ne (pe_callB call_isi (by rfl) ms (by decide +kernel) (pa_cons (pv 1) (pa_cons (pe_bltn (v := .ty "list") (by rfl) ml (by decide +kernel) rfl) pa_nil))) (pe_callB call_isi (by rfl) ms (by decide +kernel) (pa_cons (pv 0) (pa_cons (pe_bltn (v := .ty "list") (by rfl) ml (by decide +kernel) rfl) pa_nil))) (nomark _))
            (pw_or1 (pt_cmpR op_ne (pe_callB call_isi (by rfl) ms (by decide +kernel) (pa_cons (pv 1) (pa_cons (pe_bltn (v := .ty "tuple") (by rfl) mt (by decide +kernel) rfl) pa_nil))) (pe_callB call_isi (by rfl) ms (by decide +kernel) (pa_cons (pv 0) (pa_cons (pe_bltn (v := .ty "tuple") (by rfl) mt (by decide +kernel) rfl) pa_nil))) (nomark _))))) pss_never pss_nil)
        (pss_cons (ps_if (PW.pt (pw_or (pt_not (pt_val (pe_callB call_isiT (by rfl) ms (by decide +kernel) (pa_cons (pv 0) (pa_cons (pe_tup (pa_cons (pe_bltn (v := .ty "list") (by rfl) ml (by decide +kernel) rfl) (pa_cons (pe_bltn (v := .ty "tuple") (by rfl) mt (by decide +kernel) rfl) pa_nil))) pa_nil)))))
            (pw_or1 (pt_cmpR op_ne (pe_callB call_len_seq (by rfl) me PySem.boot_len (pa_cons (pv 0) pa_nil)) (pe_callB call_len_seq (by rfl) me PySem.boot_len (pa_cons (pv 1) pa_nil)) (nomark _))))) pss_never pss_nil)
        (pss_cons (ps_for PassesOwn.never rfl (RZ.pi_zipA (by rfl) mz (pa_cons (pv 0) (pa_cons (pv 1) pa_nil))) (pg_tup rfl (pgs_cons (pg_name (i := 2) scSame.nd rfl (.inl rfl)) (pgs_cons (pg_name (i := 3) scSame.nd rfl (.inl rfl)) pgs_nil)))
          (pss_one (ps_if (pt_not (pt_val (pe_call G hr (by rfl) gF F.kp bF .nil pass0 (pa_cons (pv 2) (pa_cons (pv 3) pa_nil))))) pss_never pss_nil)))
        (pss_one (ps_ret pe_bl)))))))), ?_⟩
      cases hS with
      | int i =>
        refine ⟨.int i, rfl, _, rfl, ite2 (fun e => absurd (of_decide_eq_true e) (by simp)) (fun _ => ?_)⟩
        refine ⟨.int i, rfl, .int i, .ty "bool", _, _, false, rfl, .ty "bool", .base (.int i), kit_ty (by decide +kernel), _, rfl, iteF ?_⟩
        refine ⟨.int i, rfl, .int i, .ty "int", _, _, true, rfl, .ty "int", .base (.int i), kit_ty (by decide +kernel), _, rfl, iteT ?_⟩
        refine ⟨.int i, rfl, .int i, .ty "int", _, _, true, rfl, .ty "int", .base (.int i), kit_ty (by decide +kernel), _, rfl, iteT ?_⟩
        refine ⟨.int i, rfl, .int i, .ty "bool", _, _, false, rfl, .ty "bool", .base (.int i), kit_ty (by decide +kernel), _, rfl, _, rfl, iteT ?_⟩
        refine ⟨.int i, rfl, .int i, rfl, rfl, ?_⟩
        rw [decide_eq_true rfl]
        exact q _ (Same.refl _)
      | @tup n' a b xs ys h1 h2 hl hz h =>
        refine ⟨.ref b, rfl, _, rfl, ite2 (fun e => absurd (of_decide_eq_true e) (by simp)) (fun _ => ?_)⟩
        refine ⟨.ref b, rfl, .ref b, .ty "bool", _, _, false, rfl, .ty "bool", .base (.tup h2), kit_ty (by decide +kernel), _, rfl, iteF ?_⟩
        refine ⟨.ref b, rfl, .ref b, .ty "int", _, _, false, rfl, .ty "int", .base (.tup h2), kit_ty (by decide +kernel), _, rfl, iteF ?_⟩
        refine ⟨.ref b, rfl, .ref b, .ty "str", _, _, false, rfl, .ty "str", .base (.tup h2), kit_ty (by decide +kernel), _, rfl, iteF ?_⟩
        refine ⟨.ref b, rfl, .ref b, .ty "list", _, _, false, rfl, .ty "list", .base (.tup h2), kit_ty (by decide +kernel), .ref a, rfl, .ref a, .ty "list", _, _, false, rfl, .ty "list", .base (.tup h1), kit_ty (by decide +kernel), rfl, _, rfl, ite2 (fun e => absurd e (by decide)) (fun _ => ?_)⟩
        refine ⟨.ref b, rfl, .ref b, .ty "tuple", _, _, true, rfl, .ty "tuple", .base (.tup h2), kit_ty (by decide +kernel), .ref a, rfl, .ref a, .ty "tuple", _, _, true, rfl, .ty "tuple", .base (.tup h1), kit_ty (by decide +kernel), rfl, _, rfl, ite2 (fun e => absurd e (by decide)) (fun _ => ?_)⟩
        refine ⟨.ref a, rfl, size2', fun p np => ?_⟩
        have s1 : Same H (upd H p (.tup [.ty "list", .ty "tuple"])) := same_new np
        refine ⟨.ref a, p, _, _, _, true, rfl, upd_same, .cons (.ty "list") (.cons (.ty "tuple") .nil), .base (.tup (s1 _ _ h1)), kitAny_cons (b := false) (kit_ty (by decide +kernel)) (fun _ => kitAny_cons (b := true) (kit_ty (by decide +kernel)) (fun h => by cases h) (fun _ => rfl)) (fun h => by cases h), _, rfl, iteF ?_⟩
        refine ⟨.ref a, rfl, a, _, rfl, .inr (.inl (.inl (s1 _ _ h1))), .ref b, rfl, b, _, rfl, .inr (.inl (.inl (s1 _ _ h2))), rfl, _, rfl, ite2 (fun e => ?_) (fun _ => ?_)⟩
        · rw [hl] at e
          simp at e
        refine ⟨.ref a, rfl, .ref b, rfl, a, b, xs, ys, rfl, .inr ⟨(.inl (.inl (s1 _ _ h1))), (.inl (.inl (s1 _ _ h2))), for_it (walk_zipT (K := K) (a := a) (b := b) (xs := xs) (ys := ys) hl) (fun i σ H' => ∃ y2 y3, σ = [some (.ref a), some (.ref b), y2, y3] ∧ Same H H') ⟨none, none, rfl, s1⟩ (fun i σ H' _ h' => ?_) (fun i x σ H1 H' hi h' hy => ?_) (fun σ H' h' => ?_)⟩⟩
        · obtain ⟨y2, y3, rfl, sm⟩ := h'
          exact ⟨(.inl (.inl (sm _ _ h1))), (.inl (.inl (sm _ _ h2)))⟩
        · obtain ⟨y2, y3, rfl, sm⟩ := h'
          obtain ⟨T, x1, x2, rfl, nT, rfl, e1, e2⟩ := hy
          have sm2 := sm.trans (same_new (o := .tup [x1, x2]) nT)
          refine ⟨T, _, rfl, .inl (.inl upd_same), rfl, _, _, rfl, _, _, rfl, rfl, x1, rfl, x2, rfl, x1, x2, rfl, (h i x1 x2 e1 e2).same sm2, fun H3 s3 => ⟨true, rfl, iteF ⟨_, _, rfl, sm2.trans s3⟩⟩⟩
        · obtain ⟨y2, y3, rfl, sm⟩ := h'
          exact q _ sm
      | @lst n' a b xs ys h1 h2 hl hz h =>
        refine ⟨.ref b, rfl, _, rfl, ite2 (fun e => absurd (of_decide_eq_true e) (by simp)) (fun _ => ?_)⟩
        refine ⟨.ref b, rfl, .ref b, .ty "bool", _, _, false, rfl, .ty "bool", .base (.lst h2), kit_ty (by decide +kernel), _, rfl, iteF ?_⟩
        refine ⟨.ref b, rfl, .ref b, .ty "int", _, _, false, rfl, .ty "int", .base (.lst h2), kit_ty (by decide +kernel), _, rfl, iteF ?_⟩
        refine ⟨.ref b, rfl, .ref b, .ty "str", _, _, false, rfl, .ty "str", .base (.lst h2), kit_ty (by decide +kernel), _, rfl, iteF ?_⟩
        refine ⟨.ref b, rfl, .ref b, .ty "list", _, _, true, rfl, .ty "list", .base (.lst h2), kit_ty (by decide +kernel), .ref a, rfl, .ref a, .ty "list", _, _, true, rfl, .ty "list", .base (.lst h1), kit_ty (by decide +kernel), rfl, _, rfl, ite2 (fun e => absurd e (by decide)) (fun _ => ?_)⟩
        refine ⟨.ref b, rfl, .ref b, .ty "tuple", _, _, false, rfl, .ty "tuple", .base (.lst h2), kit_ty (by decide +kernel), .ref a, rfl, .ref a, .ty "tuple", _, _, false, rfl, .ty "tuple", .base (.lst h1), kit_ty (by decide +kernel), rfl, _, rfl, ite2 (fun e => absurd e (by decide)) (fun _ => ?_)⟩
        refine ⟨.ref a, rfl, size2', fun p np => ?_⟩
        have s1 : Same H (upd H p (.tup [.ty "list", .ty "tuple"])) := same_new np
        refine ⟨.ref a, p, _, _, _, true, rfl, upd_same, .cons (.ty "list") (.cons (.ty "tuple") .nil), .base (.lst (s1 _ _ h1)), kitAny_cons (b := true) (kit_ty (by decide +kernel)) (fun h => by cases h) (fun _ => rfl), _, rfl, iteF ?_⟩
        refine ⟨.ref a, rfl, a, _, rfl, .inl (sqlOf (s1 _ _ h1)), .ref b, rfl, b, _, rfl, .inl (sqlOf (s1 _ _ h2)), rfl, _, rfl, ite2 (fun e => ?_) (fun _ => ?_)⟩
        · rw [hl] at e
          simp at e
        refine ⟨.ref a, rfl, .ref b, rfl, a, b, xs, ys, rfl, .inl ⟨(sqlOf (s1 _ _ h1)), (sqlOf (s1 _ _ h2)), for_it (walk_zip (K := K) (a := a) (b := b) (xs := xs) (ys := ys) (n := xs.length) (by omega)) (fun i σ H' => ∃ y2 y3, σ = [some (.ref a), some (.ref b), y2, y3] ∧ Same H H') ⟨none, none, rfl, s1⟩ (fun i σ H' _ h' => ?_) (fun i x σ H1 H' hi h' hy => ?_) (fun σ H' h' => ?_)⟩⟩
        · obtain ⟨y2, y3, rfl, sm⟩ := h'
          exact ⟨(sqlOf (sm _ _ h1)), (sqlOf (sm _ _ h2))⟩
        · obtain ⟨y2, y3, rfl, sm⟩ := h'
          obtain ⟨T, x1, x2, rfl, nT, rfl, e1, e2⟩ := hy
          have sm2 := sm.trans (same_new (o := .tup [x1, x2]) nT)
          refine ⟨T, _, rfl, .inl (.inl upd_same), rfl, _, _, rfl, _, _, rfl, rfl, x1, rfl, x2, rfl, x1, x2, rfl, (h i x1 x2 e1 e2).same sm2, fun H3 s3 => ⟨true, rfl, iteF ⟨_, _, rfl, sm2.trans s3⟩⟩⟩
        · obtain ⟨y2, y3, rfl, sm⟩ := h'
          exact q _ sm
end
end K05
set_option Elab.async false
set_option linter.all false
set_option maxRecDepth 100000
namespace K05
open PySem PySem.Spec PyProof.Rows L2 R1 ZN
theorem dI_dZ (D : Ts) : dI (D.map fun q => (q.1, V.int q.2)) = dZ D := by
  show HO.dT _ = HO.dT _
  rw [List.map_map]
  rfl
section
variable {P : Program} {w : World} {K : PySem.W.Frag} {mg : Str → Option Value} {base : Heap}
/-! ### written -/
def spWritten : Sp := fun vs H Q _ => ∃ (d : Addr) (m : Nat) (D : Ts), vs = [.ref d] ∧ DictAt H d m D ∧ 0 < m ∧ D.length ≤ 500 ∧
  ∀ H' (t : Addr) (L : List Trm), Same H H' → H t = none → SumAt H' t L → Norm D (L.map Trm.d) → L.length ≤ D.length → Q (.ref t) H'
abbrev nmWritten : List Str := ["_law_terms_here", "_law_powers"]
theorem scWritten : FnScope nmWritten ["_law_terms_here"] (defScope sWritten) := ⟨rfl, rfl, rfl, by decide +kernel, rfl, by decide +kernel, by decide +kernel⟩
theorem ok_written {f : Addr} {fd : FuncData} {k : Nat} (F : Fun K "_law_written" "_law_written" sWritten f fd) (mt : mg "tuple" = none) (mo : mg "sorted" = none) : FnOk P w K mg base CX0 (k + 1) f fd ["_law_terms_here"] spWritten := by
  refine F.ok scWritten (fun vs H Q E h => ?_) (fun cdv A outer s H vs Q E hr h => ?_)
  · obtain ⟨d, m, D, rfl, _⟩ := h
    rfl
  · obtain ⟨d, m, T, rfl, hT, hm0, hTl, q⟩ := h
    have hu := hu_of hr
    refine ⟨_, pss_one (ps_ret (pe_callTy call_tuple_of (by rfl) mt (by decide +kernel) (pa_cons (pe_lc (own := [("_law_powers", 1)]) (g := gName 1) (tt := tTest (tOp rNe (tDGet (tVar 0) (tVar 1)) (tC (.int 0)))) (by rfl) scWritten.nd (pi_list (pe_callB (cr_sortedDT rfl) (by rfl) mo (by decide +kernel) (pa_cons (pv 0) pa_nil))) (blkOk_by (own := [("_law_powers", 1)]) (N := nmWritten) (sc := defScope sWritten) (by decide +kernel))
        (fun _ _ _ _ _ => pg_name (i := 1) scWritten.nd rfl (.inl rfl)) (fun _ _ _ _ _ => pts_one (pt_cmpR op_ne (pe_dget hu (pv 0) (pv 1) (fun _ _ => rfl)) pe_int (nomark _)))
        (fun _ _ _ _ _ => pe_tup (pa_cons (pv 1) (pa_cons (pe_dget hu (pv 0) (pv 1) (fun _ _ => rfl)) pa_nil)))) pa_nil))), ?_⟩
    refine ⟨.ref d, rfl, d, T.map fun q => (q.1, V.int q.2), rfl, .inl (by rw [dI_dZ]; exact hT.at_), (fun p hp => ?_), fun ks p perm srt kt np => ?_⟩
    · obtain ⟨q1, hq, rfl⟩ := List.mem_map.mp hp
      intro z
      have := hT.len q1 hq
      have z : q1.1 = [] := z
      rw [z] at this
      simp at this
      omega
    have perm2 : (ks.map (·.2)).Perm (T.map (·.1)) := by
      rw [List.map_map] at perm
      exact perm
    have s1 : Same H (upd H p (.lst (ks.map fun q => V.ref q.1))) := same_new np
    refine ⟨p, rfl, ⟨_, sqlOf upd_same⟩, fun E nE => ?_⟩
    have hp1 : upd H p (.lst (ks.map fun q => V.ref q.1)) p = some (.lst (ks.map fun q => V.ref q.1)) := upd_same
    have pE : p ≠ E := ne_of_none hp1 nE
    have kl : ks.length = T.length := by
      have := perm2.length_eq
      rw [List.length_map, List.length_map] at this
      exact this
    -- a key with its coefficient
    let tk : Addr × List Int → List Int × Int := fun g => (g.2, val T g.2)
    have htk : ∀ g ∈ ks, (g.2, val T g.2) ∈ T := fun g hg => by
      have : g.2 ∈ T.map (·.1) := perm2.mem_iff.mp (List.mem_map_of_mem hg)
      obtain ⟨q1, hq, e⟩ := List.mem_map.mp this
      have : getO T g.2 = some q1.2 := (getO_mem hT.nodup).mpr (by rw [← e]; exact hq)
      have e2 : (g.2, val T g.2) = q1 := by
        unfold val
        rw [this, ← e]
        rfl
      rw [e2]
      exact hq
    refine lc_list (xs := ks.map fun q => V.ref q.1) (fun i H' => ∃ L : List Trm, H' E = some (.lst (L.map Trm.v)) ∧ RowsOk H' L ∧ L.map Trm.d = ((ks.map tk).take i).filter nz ∧ But E (upd H p (.lst (ks.map fun q => V.ref q.1))) H') ⟨[], upd_same, (fun r h => by cases h), by simp, But.start⟩ (fun i H' _ h => ?_) (fun i x H1 hx h => ?_) (fun H1 h => ?_)
    · obtain ⟨_, _, _, _, kp⟩ := h
      exact sqlOf (kp p _ pE hp1)
    · obtain ⟨L, hE, ho, ed, kp⟩ := h
      rw [List.getElem?_map] at hx
      obtain ⟨g, hg, rfl⟩ := Option.map_eq_some_iff.mp hx
      have hgm := List.mem_of_getElem? hg
      have up : ∀ {b o}, H b = some o → H1 b = some o := fun {b o} e => kp.at_ nE (s1 _ _ e)
      have hgk : H1 g.1 = some (.tup (g.2.map V.int)) := up (kt g hgm)
      have hf1 : (ks.map tk)[i]? = some (g.2, val T g.2) := by
        rw [List.getElem?_map, hg]
        rfl
      have hget : DGet H1 d (.ref g.1) (some (.int (val T g.2))) := by
        have := DictAt.get (D := T) (k := g.2) (m := m) (.inl (up hT.at_)) hgk
        rw [(getO_mem hT.nodup).mpr (htk g hgm)] at this
        exact this
      refine ⟨rfl, .ref d, rfl, .ref g.1, rfl, d, .int (val T g.2), rfl, hget, rfl, _, rfl, ?_⟩
      by_cases hz : val T g.2 = 0
      · rw [hz]
        exact iteF ⟨L, hE, ho, by rw [filter_step hf1, if_pos hz, List.append_nil]; exact ed, kp⟩
      · have : (!decide (V.int (val T g.2) = V.int 0)) = true := by simp [hz]
        rw [this]
        refine iteT ⟨.ref g.1, rfl, .ref d, rfl, .ref g.1, rfl, d, .int (val T g.2), rfl, hget, size2', fun t nt => ?_⟩
        have sm : Same H1 (upd H1 t (.tup [.ref g.1, .int (val T g.2)])) := same_new nt
        obtain ⟨g1, g2⟩ := rows_step (D := E) (t := t) (p := g.1) (ns := g.2) (c := val T g.2) (sm _ _ hE) (ho.keep (same_keepT sm)) upd_same (sm _ _ hgk)
        refine ⟨_, sm _ _ hE, ?_, _, g1, g2, ?_, kp.step sm⟩
        · have := rows_len ed
          have h2 := List.length_filter_le nz ((ks.map tk).take i)
          rw [List.length_take, List.length_map] at h2
          rw [List.length_map, sizeLine_eq]
          omega
        · rw [filter_step hf1, if_neg hz, List.map_append, ed]
          rfl
    · obtain ⟨L, hE, ho, ed, kp⟩ := h
      rw [List.take_of_length_le (by rw [List.length_map, List.length_map]; exact Nat.le_refl _)] at ed
      have sm : Same H H1 := fun b o e => kp.at_ nE (s1 _ _ e)
      refine ⟨E, _, rfl, .inl ⟨sqlOf hE, fun t nt => ?_⟩⟩
      have sm2 := sm.trans (same_new (o := .tup (L.map Trm.v)) nt)
      refine q _ t L sm2 (sm.free nt) ⟨upd_same, ho.keep (same_keepT (same_new nt))⟩ ?_ ?_
      · refine norm_of (m := m) hT.nodup hT.len ?_ ?_
        · have e0 : (ks.map tk).Perm T := by
            have nd1 : (ks.map tk).Nodup := by
              have : ((ks.map tk).map (·.1)).Nodup := by
                rw [List.map_map]
                exact perm2.nodup_iff.mpr hT.nodup
              exact List.Pairwise.imp (fun {a b} h e => h (by rw [e])) (List.pairwise_map.mp this)
            have nd2 : T.Nodup := List.Pairwise.imp (fun {a b} h e => h (by rw [e])) (List.pairwise_map.mp hT.nodup)
            refine (List.perm_ext_iff_of_nodup nd1 nd2).mpr fun q1 => ⟨fun h => ?_, fun h => ?_⟩
            · obtain ⟨g, hg, rfl⟩ := List.mem_map.mp h
              exact htk g hg
            · have : q1.1 ∈ ks.map (·.2) := perm2.mem_iff.mpr (List.mem_map_of_mem h)
              obtain ⟨g, hg, e⟩ := List.mem_map.mp this
              refine List.mem_map.mpr ⟨g, hg, ?_⟩
              show (g.2, val T g.2) = q1
              unfold val
              rw [e, (getO_mem (k := q1.1) (v := q1.2) hT.nodup).mpr h]
              rfl
          rw [ed]
          exact e0.filter _
        · rw [ed]
          refine List.Pairwise.sublist List.filter_sublist ?_
          rw [List.pairwise_map]
          exact srt
      · have h1 := rows_len ed
        have h2 := List.length_filter_le nz (ks.map tk)
        rw [List.length_map] at h2
        omega
end
end K05
set_option Elab.async false
set_option linter.all false
set_option maxRecDepth 100000
namespace K05
open PySem PySem.Spec PyProof.Rows L2 R1 ZN
theorem lock_same {H H1 : Hp} {d : Addr} {od : Obj} {u : HO} (hd : H d = some u) (h : Same (upd H d (.frz od u)) H1) : Same H (upd H1 d u) := fun b o e => by
  by_cases eb : b = d
  · subst eb
    rw [hd] at e
    cases e
    exact upd_same
  · rw [upd_ne eb]
    exact h b o (by rw [upd_ne eb]; exact e)
theorem enc_inj {D : Ts} {i : Nat} {k : List Key} {v : V} (h : (D.map enc)[i]? = some (k, v)) : ∃ q, D[i]? = some q ∧ k = q.1.map Sum.inl ∧ v = V.int q.2 := by
  rw [List.getElem?_map] at h
  obtain ⟨q, h1, h2⟩ := Option.map_eq_some_iff.mp h
  refine ⟨q, h1, ?_, ?_⟩
  · rw [enc] at h2
    injection h2 with a b
    exact a.symm
  · rw [enc] at h2
    injection h2 with a b
    exact b.symm
theorem zer_add {ps : List Int} {p : Nat} {ns : List Int} : (zer ps ns).set p 0 = zer (ps ++ [(p : Int)]) ns := by
  apply List.ext_getElem?
  intro j
  rw [zer, zer, List.getElem?_set, List.getElem?_mapIdx, List.getElem?_mapIdx, List.length_mapIdx]
  by_cases e : p = j
  · subst e
    rw [if_pos rfl]
    cases h : ns[p]? with
    | none =>
      have : ¬ p < ns.length := by
        have := List.getElem?_eq_none_iff.mp h
        omega
      simp [this]
    | some x =>
      have := (List.getElem?_eq_some_iff.mp h).1
      simp [this]
  · rw [if_neg e]
    congr 1
    funext x
    have : ((j : Int) ∈ ps ++ [(p : Int)]) ↔ (j : Int) ∈ ps := by
      rw [List.mem_append, List.mem_singleton]
      constructor
      · rintro (h | h)
        · exact h
        · exact absurd (by omega) e
      · exact .inl
    by_cases h : (j : Int) ∈ ps
    · rw [if_pos h, if_pos (this.mpr h)]
    · rw [if_neg h, if_neg (fun z => h (this.mp z))]
theorem zer_nil {ns : List Int} : zer [] ns = ns := by
  apply List.ext_getElem?
  intro j
  rw [zer, List.getElem?_mapIdx]
  cases ns[j]? <;> simp
section
variable {P : Program} {w : World} {K : PySem.W.Frag} {mg : Str → Option Value} {base : Heap}
/-! ### the law's least powers -/
def spLLeast : Sp := fun vs H Q _ => ∃ (d : Addr) (m : Nat) (D : Ts), vs = [.ref d, .int m] ∧ DictAt H d m D ∧ D ≠ [] ∧ m ≤ 1000 ∧ (∀ q ∈ D, ∀ x ∈ q.1, x ≤ 12) ∧
  ∀ H' (l : Addr) (ms : List Int), Same H H' → H l = none → H' l = some (.lst (ms.map V.int)) → IsLeast D m ms → Q (.ref l) H'
abbrev nmLLeast : List Str := ["_law_terms_here", "_law_many", "_law_least_here", "_law_j", "_law_found", "_law_powers"]
theorem scLLeast : FnScope nmLLeast ["_law_terms_here", "_law_many"] (defScope sLLeast) := ⟨rfl, rfl, rfl, by decide +kernel, rfl, by decide +kernel, by decide +kernel⟩
theorem ok_lleast {f : Addr} {fd : FuncData} {k : Nat} (F : Fun K "_law_least" "_law_least" sLLeast f fd) (mr : mg "range" = none) : FnOk P w K mg base CX0 (k + 1) f fd ["_law_terms_here", "_law_many"] spLLeast := by
  refine F.ok scLLeast (fun vs H Q E h => ?_) (fun cdv A outer s H vs Q E hr h => ?_)
  · obtain ⟨d, m, D, rfl, _⟩ := h
    rfl
  · obtain ⟨d, m, T, rfl, hT, hne, hm, h12, q⟩ := h
    refine ⟨_, pss_cons (ps_set (i := 2) scLLeast.nd rfl (.inl rfl) (pe_lst pa_nil))
      (pss_cons (ps_for PassesOwn.never rfl (pi_range1 rfl mr (pa_cons (pv 1) pa_nil)) (pg_name (i := 3) scLLeast.nd rfl (.inl rfl))
        (pss_cons (ps_set (i := 4) scLLeast.nd rfl (.inl rfl) pe_int)
        (pss_cons (ps_lock (ps_for PassesOwn.never rfl (pi_keys (pv 0)) (pg_name (i := 5) scLLeast.nd rfl (.inl rfl))
          (pss_one (ps_if (pt_cmpR op_lt (pe_ix (r := rIxT K) ix_tup (pv 5) (pv 3) (fun _ _ => rfl)) (pv 4) (nomark _)) (pss_one (ps_set (i := 4) scLLeast.nd rfl (.inl rfl) (pe_ix (r := rIxT K) ix_tup (pv 5) (pv 3) (fun _ _ => rfl)))) pss_nil))))
        (pss_one (ps_expr (pe_bm PySem.F.plainAttrs_list PySem.F.slot_list_append PySem.F.type_list_append mt_append (pv 2) (pa_cons (pv 4) pa_nil)))))))
      (pss_one (ps_ret (pv 2)))), ?_⟩
    refine ⟨Nat.zero_le _, fun l nl => ?_⟩
    have s1 : Same H (upd H l (.lst [])) := same_new nl
    refine ⟨.int m, rfl, m, rfl, by omega, by omega, for_range (n := m) (fun j σ H' => ∃ y3 y4 y5 ms, σ = [some (.ref d), some (.int m), some (.ref l), y3, y4, y5] ∧ H' l = some (.lst (ms.map V.int)) ∧ IsLeast T j ms ∧ But l H H')
      ⟨none, none, none, [], rfl, upd_same, ⟨rfl, fun j h => absurd h (Nat.not_lt_zero _)⟩, But.start⟩ (fun j σ H' hj h => ?_) (fun σ H' h => ?_)⟩
    · obtain ⟨y3, y4, y5, ms, rfl, hl, hI, kp⟩ := h
      have hd := kp.at_ nl hT.at_
      refine ⟨d, _, hd, trivial, fun od => ?_⟩
      have ld : l ≠ d := fun e => by
        rw [e, hT.at_] at nl
        cases nl
      refine ⟨.ref d, rfl, d, od, rfl, .inr ⟨_, upd_same, for_it (walk_keysT (d := d) (o := od) (kvs := T.map enc)) (fun i σ H'' => ∃ v y5, σ = [some (.ref d), some (.int m), some (.ref l), some (.int (0 + j)), some (.int v), y5] ∧ H'' = upd H' d (.frz od (dZ T)) ∧ v ≤ 12 ∧ (∀ y ∈ col (T.take i) j, v ≤ y) ∧ (v = 12 ∨ v ∈ col (T.take i) j))
        ⟨12, _, rfl, rfl, by decide, (fun y h => by simp [col] at h), .inl rfl⟩ (fun i σ H'' _ h => ?_) (fun i x σ H'' H3 hi h hy => ?_) (fun σ H'' h => ?_)⟩⟩
      · obtain ⟨v, y5, _, rfl, _⟩ := h
        exact upd_same
      · obtain ⟨v, y5, rfl, rfl, hv, hlow, hin⟩ := h
        obtain ⟨rfl, k, vv, b, e1, rfl, hb⟩ := hy
        obtain ⟨q1, f1, rfl, rfl⟩ := enc_inj e1
        rw [map_kV] at hb
        have hqm := List.mem_of_getElem? f1
        have hlen := hT.len q1 hqm
        have hjl : j < q1.1.length := by omega
        have hat : atI (q1.1.map V.int) (0 + j) = some (.int (q1.1.getD j 0)) := by
          rw [show ((0 : Int) + j) = ((j : Nat) : Int) by omega]
          refine atI_nat ?_
          rw [List.getElem?_map, List.getElem?_eq_getElem hjl, List.getD_eq_getElem?_getD, List.getElem?_eq_getElem hjl]
          rfl
        have hx12 : q1.1.getD j 0 ≤ 12 := by
          refine h12 q1 hqm _ ?_
          rw [List.getD_eq_getElem?_getD, List.getElem?_eq_getElem hjl]
          exact List.getElem_mem hjl
        have hcol : col (T.take (i + 1)) j = col (T.take i) j ++ [q1.1.getD j 0] := by
          unfold col
          rw [List.take_add_one, f1, List.map_append]
          rfl
        refine ⟨.ref b, rfl, .int (0 + j), rfl, b, _, _, _, rfl, rfl, .inl (.inl hb), hat, .int v, rfl, _, v, rfl, rfl, _, rfl, ite2 (fun e => ?_) (fun e => ?_)⟩
        · have e := of_decide_eq_true e
          refine ⟨.ref b, rfl, .int (0 + j), rfl, b, _, _, _, rfl, rfl, .inl (.inl hb), hat, ?_⟩
          refine ⟨q1.1.getD j 0, _, rfl, rfl, hx12, fun y hy => ?_, .inr ?_⟩
          · rw [hcol] at hy
            rcases List.mem_append.mp hy with hy | hy
            · have := hlow y hy
              omega
            · rw [List.mem_singleton.mp hy]
              exact Int.le_refl _
          · rw [hcol]
            simp
        · have e : ¬ q1.1.getD j 0 < v := fun z => e (decide_eq_true z)
          refine ⟨v, _, rfl, rfl, hv, fun y hy => ?_, ?_⟩
          · rw [hcol] at hy
            rcases List.mem_append.mp hy with hy | hy
            · exact hlow y hy
            · rw [List.mem_singleton.mp hy]
              omega
          · rcases hin with h | h
            · exact .inl h
            · right
              rw [hcol]
              exact List.mem_append_left _ h
      · obtain ⟨v, y5, rfl, rfl, hv, hlow, hin⟩ := h
        rw [List.length_map, List.take_length] at hlow hin
        refine ⟨upd_same, ?_⟩
        have hsame : Same H' (upd (upd H' d (.frz od (dZ T))) d (dZ T)) := lock_same hd (Same.refl _)
        have hl2 := hsame _ _ hl
        have hvin : v ∈ col T j := by
          rcases hin with h | h
          · subst h
            obtain ⟨q1, T', rfl⟩ : ∃ q1 T', T = q1 :: T' := by
              cases T with
              | nil => exact absurd rfl hne
              | cons a b => exact ⟨a, b, rfl⟩
            have hlen := hT.len q1 List.mem_cons_self
            have hjl : j < q1.1.length := by omega
            have h1 : q1.1.getD j 0 ≤ 12 := by
              refine h12 q1 List.mem_cons_self _ ?_
              rw [List.getD_eq_getElem?_getD, List.getElem?_eq_getElem hjl]
              exact List.getElem_mem hjl
            have h2 := hlow (q1.1.getD j 0) (by simp [col])
            have : q1.1.getD j 0 = 12 := by omega
            rw [← this]
            simp [col]
          · exact h
        have hml : ms.length = j := hI.1
        refine ⟨.ref l, rfl, .inl ⟨rfl, _, sqlOf hl2⟩, .int v, rfl, l, _, .int v, rfl, rfl, hl2, (by rw [List.length_map, sizeLine_eq]; omega), ?_⟩
        refine ⟨_, _, _, ms ++ [v], rfl, by rw [upd_same, List.map_append]; rfl, ⟨by rw [List.length_append, hml]; rfl, fun j' hj' => ?_⟩, kp.step hsame⟩
        rcases Nat.lt_succ_iff_lt_or_eq.mp hj' with hj' | rfl
        · obtain ⟨u, a1, a2⟩ := hI.2 j' hj'
          exact ⟨u, by rw [List.getElem?_append_left (by omega)]; exact a1, a2⟩
        · exact ⟨v, by rw [List.getElem?_append_right (by omega), hml]; simp, hvin, hlow⟩
    · obtain ⟨y3, y4, y5, ms, rfl, hl, hI, kp⟩ := h
      exact ⟨.ref l, rfl, q H' l ms (kp.same nl) nl hl hI⟩
end
end K05
set_option Elab.async false
set_option linter.all false
set_option maxRecDepth 100000
namespace K05
open PySem PySem.Spec PyProof.Rows L2 R1 ZN
section
variable {P : Program} {w : World} {K : PySem.W.Frag} {mg : Str → Option Value} {base : Heap}
/-! ### the law's ones -/
def spLOnes : Sp := fun vs H Q _ => ∃ (d l : Addr) (m : Nat) (D : Ts) (ps : List Int), vs = [.ref d, .ref l] ∧ DictAt H d m D ∧ D.length ≤ 500 ∧ m ≤ 1000 ∧ H l = some (.lst (ps.map V.int)) ∧ (∀ p ∈ ps, 0 ≤ p ∧ p < m) ∧
  ∀ H' (d' : Addr), Same H H' → H d' = none → DictAt H' d' m (gather (zer ps) [] D) → Q (.ref d') H'
abbrev nmLOnes : List Str := ["_law_terms_here", "_law_places_here", "_law_result", "_law_powers", "_law_key", "_law_place"]
theorem scLOnes : FnScope nmLOnes ["_law_terms_here", "_law_places_here"] (defScope sLOnes) := ⟨rfl, rfl, rfl, by decide +kernel, rfl, by decide +kernel, by decide +kernel⟩
theorem ok_lones {f : Addr} {fd : FuncData} {k : Nat} (F : Fun K "_law_ones" "_law_ones" sLOnes f fd) (ml : mg "list" = none) (mt : mg "tuple" = none) : FnOk P w K mg base CX0 (k + 1) f fd ["_law_terms_here", "_law_places_here"] spLOnes := by
  refine F.ok scLOnes (fun vs H Q E h => ?_) (fun cdv A outer s H vs Q E hr h => ?_)
  · obtain ⟨d, l, m, D, ps, rfl, _⟩ := h
    rfl
  · obtain ⟨d, l, m, T, ps, rfl, hT, hTl, hm, hl, hp, q⟩ := h
    have hu := hu_of hr
    refine ⟨_, pss_cons (ps_set (i := 2) scLOnes.nd rfl (.inl rfl) pe_dnewT)
      (pss_cons (ps_lock (ps_for PassesOwn.never rfl (pi_keys (pv 0)) (pg_name (i := 3) scLOnes.nd rfl (.inl rfl))
        (pss_cons (ps_set (i := 4) scLOnes.nd rfl (.inl rfl) (pe_callTy call_list_of (by rfl) ml (by decide +kernel) (pa_cons (pv 3) pa_nil)))
        (pss_cons (ps_for PassesOwn.never rfl (pi_list (pv 1)) (pg_name (i := 5) scLOnes.nd rfl (.inl rfl)) (pss_one (ps_asg pe_int (pg_sub (pv 4) (pv 5) set_list))))
        (pss_one (ps_dput hu (pv 2) (pe_callTy call_tuple_of (by rfl) mt (by decide +kernel) (pa_cons (pv 4) pa_nil)) (pe_op op_add (pe_dget2 hu (pv 2) (pe_callTy call_tuple_of (by rfl) mt (by decide +kernel) (pa_cons (pv 4) pa_nil)) pe_int ⟨rfl, rfl, rfl, rfl⟩) (pe_dget hu (pv 0) (pv 3) (fun _ _ => rfl))) rfl))))))
      (pss_one (ps_ret (pv 2)))), ?_⟩
    refine fun e ne => ?_
    have s1 : Same H (upd H e (.dT [])) := same_new ne
    have de : d ≠ e := ne_of_none hT.at_ ne
    have le : l ≠ e := ne_of_none hl ne
    have ld : l ≠ d := ne_of hl hT.at_ (by intro z; cases z)
    refine ⟨d, _, s1 _ _ hT.at_, trivial, fun od => ?_⟩
    have hd0 : upd (upd H e (.dT [])) d (.frz od (dZ T)) d = some (.frz od (dZ T)) := upd_same
    generalize hH0 : upd (upd H e (.dT [])) d (.frz od (dZ T)) = H0 at hd0 ⊢
    have ne0 : H0 e = some (.dT []) := by
      rw [← hH0, upd_ne de.symm]
      exact upd_same
    have hl0 : H0 l = some (.lst (ps.map V.int)) := by
      rw [← hH0, upd_ne ld]
      exact s1 _ _ hl
    refine ⟨.ref d, rfl, d, od, rfl, .inr ⟨_, hd0, for_it (walk_keysT (d := d) (o := od) (kvs := T.map enc)) (fun i σ H' => ∃ y3 y4 y5, σ = [some (.ref d), some (.ref l), some (.ref e), y3, y4, y5] ∧ H' e = some (dZ (gather (zer ps) [] (T.take i))) ∧ But e H0 H')
      ⟨none, none, none, rfl, ne0, fun _ _ _ h => h⟩ (fun i σ H' _ h => ?_) (fun i x σ H' H2 hi h hy => ?_) (fun σ H' h => ?_)⟩⟩
    · obtain ⟨_, _, _, rfl, _, kp⟩ := h
      exact kp d _ de hd0
    · obtain ⟨y3, y4, y5, rfl, he, kp⟩ := h
      obtain ⟨rfl, kk, vv, b, e1, rfl, hb⟩ := hy
      obtain ⟨q1, f1, rfl, rfl⟩ := enc_inj e1
      rw [map_kV] at hb
      have hqm := List.mem_of_getElem? f1
      have hlen := hT.len q1 hqm
      have hd2 := kp d _ de hd0
      have hl2 := kp l _ le hl0
      refine ⟨.ref b, rfl, b, _, rfl, .inr (.inl (.inl hb)), fun ky nk => ?_⟩
      have sk : Same H2 (upd H2 ky (.lst (q1.1.map V.int))) := same_new nk
      have lk : l ≠ ky := ne_of_none hl2 nk
      refine ⟨.ref l, rfl, l, rfl, ⟨_, sqlOf (sk _ _ hl2)⟩, for_list (xs := ps.map V.int) (fun j σ H' => ∃ y5, σ = [some (.ref d), some (.ref l), some (.ref e), some (.ref b), some (.ref ky), y5] ∧ H' ky = some (.lst ((zer (ps.take j) q1.1).map V.int)) ∧ But ky H2 H')
        ⟨y5, rfl, (by rw [List.take_zero, zer_nil]; exact upd_same), But.start⟩ (fun j σ H' _ h => ?_) (fun j x σ H' hx h => ?_) (fun σ H3 h => ?_)⟩
      · obtain ⟨_, rfl, _, kp2⟩ := h
        exact sqlOf (kp2 l _ lk hl2)
      · obtain ⟨y5, rfl, hky, kp2⟩ := h
        rw [List.getElem?_map] at hx
        obtain ⟨v, g1, rfl⟩ := Option.map_eq_some_iff.mp hx
        obtain ⟨v0, v1⟩ := hp v (List.mem_of_getElem? g1)
        refine ⟨.ref ky, rfl, .int v, rfl, ky, _, v, v.toNat, rfl, rfl, hky, ?_, ?_⟩
        · unfold ixN
          rw [List.length_map, zer_len, hlen, if_pos v0, if_pos v1]
        · refine ⟨_, rfl, ?_, kp2.step (Same.refl _)⟩
          rw [upd_same, List.take_add_one, g1]
          show some (HO.lst (List.set (List.map V.int (zer (ps.take j) q1.1)) v.toNat (V.int 0))) = _
          rw [← List.map_set, zer_add]
          rw [show ((v.toNat : Nat) : Int) = v by omega]
          rfl
      · obtain ⟨y5, rfl, hky, kp2⟩ := h
        rw [List.length_map, List.take_length] at hky
        have s3 : Same H2 H3 := kp2.same nk
        have he3 := s3 _ _ he
        have hb3 := s3 _ _ hb
        have hd3 := s3 _ _ hd2
        -- result.get(tuple(key), 0) + T[powers]
        refine ⟨.ref e, rfl, e, rfl, .inr ⟨_, .inl he3⟩, .ref ky, rfl, ky, _, rfl, .inl ⟨sqlOf hky, fun t1 nt1 => ?_⟩⟩
        have s4 := same_new (o := .tup ((zer ps q1.1).map V.int)) nt1
        have he4 := s4 _ _ he3
        refine ⟨_, DictAt.get (m := m) (.inl he4) upd_same, ?_⟩
        have hget : DGet (upd H3 t1 (.tup ((zer ps q1.1).map V.int))) d (.ref b) (some (.int q1.2)) := by
          have := DictAt.get (D := T) (k := q1.1) (m := m) (.inr ⟨od, s4 _ _ hd3⟩) (s4 _ _ hb3)
          rw [(getO_mem hT.nodup).mpr hqm] at this
          exact this
        refine ⟨.ref d, rfl, .ref b, rfl, d, .int q1.2, rfl, hget, _, q1.2, sum_of_get, rfl, ?_⟩
        refine ⟨.ref e, rfl, .ref ky, rfl, ky, _, rfl, .inl ⟨sqlOf (s4 _ _ hky), fun t2 nt2 => ?_⟩⟩
        have s5 := same_new (o := .tup ((zer ps q1.1).map V.int)) nt2
        have he5 := s5 _ _ he4
        refine ⟨e, _, rfl, DPut.t (k := (zer ps q1.1).map Sum.inl) he5 (by rw [map_kV]; exact upd_same) ?_, ?_⟩
        · have := gather_len (zer ps) (T.take i) []
          rw [List.length_take, List.length_nil] at this
          rw [List.length_map, sizeLine_eq]
          omega
        · refine ⟨_, _, _, rfl, ?_, kp.step ((s3.trans s4).trans s5)⟩
          rw [upd_same, putK_enc, List.take_add_one, f1]
          show some (HO.dT _) = some (dZ (gather (zer ps) [] (T.take i ++ [q1])))
          rw [gather_snoc]
          rfl
    · obtain ⟨_, _, _, rfl, he, kp⟩ := h
      rw [List.length_map, List.take_length] at he
      have hd2 := kp d _ de hd0
      refine ⟨hd2, .ref e, rfl, q _ e (fun b o hb => ?_) ne ⟨?_, gather_nodup _ _ _ (by simp [NodupK]), gather_keys _ _ (fun q h => by cases h) fun q hq => ?_⟩⟩
      · by_cases eb : b = d
        · subst eb
          rw [hT.at_] at hb
          cases hb
          exact upd_same
        · rw [upd_ne eb]
          refine kp b o (ne_of_none hb ne) ?_
          rw [← hH0, upd_ne eb]
          exact s1 _ _ hb
      · rw [upd_ne de.symm]
        exact he
      · rw [zer_len]
        exact hT.len q hq
/-! ### the law's dict of terms -/
def Low (D : Ts) : Prop := ∀ q ∈ D, q.2 ≠ 0 ∧ ∀ x ∈ q.1, x ≤ 12
def spTerms : Sp := fun vs H Q _ => ∃ (a c : Addr) (n m : Nat) (sp g : Int), vs = [.ref a, .int m, .int 10, .int sp, .int g] ∧ Stock H a c n ∧ n ≤ 900000 ∧ 1 ≤ m ∧ m ≤ 12 ∧ 1 ≤ sp ∧ sp ≤ 12 ∧ 1 ≤ g ∧
  ∀ H' (d : Addr) (D : Ts), Stock H' a c (n + 201) → Keep a c H H' → H d = none → DictAt H' d m D → Low D → D.length ≤ 10 → Q (.ref d) H'
abbrev nmTerms : List Str := ["_law_stock_here", "_law_many", "_law_most", "_law_span", "_law_great", "_law_terms_here", "_law_k", "_law_powers", "_law_j"]
theorem scTerms : FnScope nmTerms ["_law_stock_here", "_law_many", "_law_most", "_law_span", "_law_great"] (defScope sTerms) := ⟨rfl, rfl, rfl, by decide +kernel, rfl, by decide +kernel, by decide +kernel⟩
end
end K05
set_option Elab.async false
set_option linter.all false
set_option maxRecDepth 100000
namespace K05
open PySem PySem.Spec PyProof.Rows L2 R1 ZN
theorem Stock.keepT {H H' : Hp} {a c : Addr} {n : Nat} (S : Stock H a c n) (k : Keep a c H H') : KeepT H H' := fun b xs e => by
  obtain ⟨ne, cs, x, y, z, h1, h2, _⟩ := S
  exact k _ _ (ne_of e h1 (by intro z; cases z)) (ne_of e h2 (by intro z; cases z)) e
theorem Stock.fresh {H : Hp} {a c p : Addr} {n : Nat} (S : Stock H a c n) (h : H p = none) : p ≠ a ∧ p ≠ c := by
  obtain ⟨ne, cs, x, y, z, h1, h2, _⟩ := S
  exact ⟨fun e => ne_of_none h1 h e.symm, fun e => ne_of_none h2 h e.symm⟩
theorem Stock.put {H : Hp} {a c p : Addr} {n : Nat} {o : HO} (S : Stock H a c n) (h : p ≠ a ∧ p ≠ c) : Stock (upd H p o) a c n := by
  obtain ⟨ne, cs, x, y, z, h1, h2, r⟩ := S
  exact ⟨ne, cs, x, y, z, by rw [upd_ne h.1.symm]; exact h1, by rw [upd_ne h.2.symm]; exact h2, r⟩
theorem Keep.free {H H' : Hp} {a c p : Addr} (k : Keep a c H H') (h : p ≠ a ∧ p ≠ c) (e : H' p = none) : H p = none := by
  cases q : H p with
  | none => rfl
  | some o =>
    rw [k p o h.1 h.2 q] at e
    cases e
theorem Keep.put {H H' : Hp} {a c p : Addr} {o : HO} (k : Keep a c H H') (e : H p = none) : Keep a c H (upd H' p o) := fun b u h1 h2 q => by
  rw [upd_ne (ne_of_none q e)]
  exact k b u h1 h2 q
theorem pick3 {x y z r : Int} (h0 : 0 ≤ r) (h1 : r < 3) : ∃ v, atI [V.int x, .int y, .int z] r = some (.int v) ∧ (v = x ∨ v = y ∨ v = z) := by
  have h : r = 0 ∨ r = 1 ∨ r = 2 := by omega
  rcases h with rfl | rfl | rfl
  · exact ⟨x, atI_nat (j := 0) rfl, .inl rfl⟩
  · exact ⟨y, atI_nat (j := 1) rfl, .inr (.inl rfl)⟩
  · exact ⟨z, atI_nat (j := 2) rfl, .inr (.inr rfl)⟩
theorem pick2 {x y r : Int} (h0 : 0 ≤ r) (h1 : r < 2) : ∃ v, atI [V.int x, .int y] r = some (.int v) ∧ (v = x ∨ v = y) := by
  have h : r = 0 ∨ r = 1 := by omega
  rcases h with rfl | rfl
  · exact ⟨x, atI_nat (j := 0) rfl, .inl rfl⟩
  · exact ⟨y, atI_nat (j := 1) rfl, .inr rfl⟩
theorem KeepT.new {H : Hp} {p : Addr} {o : HO} (h : H p = none) : KeepT H (upd H p o) := fun b xs e => by
  rw [upd_ne (ne_of_none e h)]
  exact e
theorem Stock.same {H H' : Hp} {a c : Addr} {n : Nat} (S : Stock H a c n) (s : Same H H') : Stock H' a c n := by
  obtain ⟨ne, cs, x, y, z, h1, h2, r⟩ := S
  exact ⟨ne, cs, x, y, z, s _ _ h1, s _ _ h2, r⟩
section
variable {P : Program} {w : World} {K : PySem.W.Frag} {mg : Str → Option Value} {base : Heap}
theorem ok_terms {f fP fW : Addr} {fd fdP fdW : FuncData} {k : Nat} (F : Fun K "_law_terms" "_law_terms" sTerms f fd) (FP : Fun K "_law_pick" "_law_pick" sPick fP fdP) (bP : Binds K fdP ["_law_stock_here", "_law_limit"] []) (gP : mg "_law_pick" = some (.ref fP))
    (FW : Fun K "_law_wide" "_law_wide" sWide fW fdW) (bW : Binds K fdW ["_law_stock_here", "_law_limit"] []) (gW : mg "_law_wide" = some (.ref fW)) (mi : mg "int" = none) (mr : mg "range" = none) (mt : mg "tuple" = none) :
    FnOk P w K mg base CX0 (k + 3) f fd ["_law_stock_here", "_law_many", "_law_most", "_law_span", "_law_great"] spTerms := by
  have GP : FnOk P w K mg base CX0 (k + 1) fP fdP ["_law_stock_here", "_law_limit"] spPick := ok_pick FP mi
  have GW : FnOk P w K mg base CX0 (k + 2) fW fdW ["_law_stock_here", "_law_limit"] spWide := ok_wide FW FP bP gP mi mr
  refine F.ok scTerms (fun vs H Q E h => ?_) (fun cdv A outer s H vs Q E hr h => ?_)
  · obtain ⟨a, c, n, m, sp, g, rfl, _⟩ := h
    rfl
  · obtain ⟨a, c, n, m, sp, g, rfl, S, hn, hm1, hm2, hs1, hs2, hg, q⟩ := h
    have hu := hu_of hr
    have hr1 := hr.mono (show k + 1 ≤ k + 2 by omega)
    refine ⟨_, pss_cons (ps_set (i := 5) scTerms.nd rfl (.inl rfl) pe_dnewT)
      (pss_cons (ps_for PassesOwn.never rfl (pi_range1 rfl mr (pa_cons (pe_call GP hr1 (by rfl) gP FP.kp bP .nil pass0 (pa_cons (pv 0) (pa_cons (pe_op op_add (pv 2) pe_int) pa_nil))) pa_nil)) (pg_name (i := 6) scTerms.nd rfl (.inl rfl))
        (pss_cons (ps_set (i := 7) scTerms.nd rfl (.inl rfl) (pe_callTy call_tuple_of (by rfl) mt (by decide +kernel) (pa_cons (pe_lc (own := [("_law_j", 8)]) (g := gName 8) (by rfl) scTerms.nd (pi_range1 rfl mr (pa_cons (pv 1) pa_nil)) (blkOk_by (own := [("_law_j", 8)]) (N := nmTerms) (sc := defScope sTerms) (by decide +kernel))
            (fun _ _ _ _ _ => pg_name (i := 8) scTerms.nd rfl (.inl rfl)) (fun _ _ _ _ _ => pts_nil) (fun _ _ _ _ _ => pe_op op_sub (pe_call GP hr1 (by rfl) gP FP.kp bP .nil pass0 (pa_cons (pv 0) (pa_cons (pe_op op_add (pe_op op_mul pe_int (pv 3)) pe_int) pa_nil))) (pv 3))) pa_nil)))
        (pss_one (ps_dput hu (pv 5) (pv 7) (pe_op op_mul (pe_op op_add pe_int (pe_call GW hr (by rfl) gW FW.kp bW .nil pass0 (pa_cons (pv 0) (pa_cons (pv 4) pa_nil)))) (pe_op op_sub pe_int (pe_op op_mul pe_int (pe_call GP hr1 (by rfl) gP FP.kp bP .nil pass0 (pa_cons (pv 0) (pa_cons pe_int pa_nil)))))) rfl))))
      (pss_one (ps_ret (pv 5)))), ?_⟩
    refine fun d nd => ?_
    have adn := S.fresh nd
    have S1 := S.new (o := .dT []) nd
    refine ⟨.ref a, rfl, .int 10, rfl, 10, 1, rfl, rfl, a, c, n, 11, rfl, S1, by omega, by decide, by decide, fun H5 r5 S5 k5 r50 r51 => ?_⟩
    have hd5 : H5 d = some (.dT []) := k5 d _ adn.1 adn.2 upd_same
    have kp5 := (Keep.new (a := a) (c := c) (o := .dT []) nd).trans k5
    refine ⟨r5, rfl, by omega, by omega, for_range (n := r5.toNat) (fun i σ H' => ∃ y6 y7 T, σ = [some (.ref a), some (.int m), some (.int 10), some (.int sp), some (.int g), some (.ref d), y6, y7, none] ∧ Stock H' a c (n + 1 + 20 * i) ∧ Keep a c H H' ∧ DictAt H' d m T ∧ Low T ∧ T.length ≤ i)
      ⟨none, none, [], rfl, S5, kp5, ⟨hd5, by simp [NodupK], fun q h => by cases h⟩, (fun q h => by cases h), Nat.le_refl _⟩ (fun i σ H6 hi h => ?_) (fun σ H6 h => ?_)⟩
    · obtain ⟨y6, y7, T, rfl, S6, kp6, hT, hlow, hTl⟩ := h
      have hi9 : i < 10 := by omega
      refine ⟨.int m, rfl, m, rfl, by omega, by omega, fun D nD => ?_⟩
      have dD : d ≠ D := ne_of_none hT.at_ nD
      have aD := S6.fresh nD
      refine lc_range (lo := 0) (n := m) (fun j H' => ∃ ns : List Int, ns.length = j ∧ (∀ x ∈ ns, x ≤ 12) ∧ H' D = some (.lst (ns.map V.int)) ∧ Stock H' a c (n + 1 + 20 * i + j) ∧ Keep a c H H' ∧ H' d = some (dZ T))
        ⟨[], rfl, (fun x h => by cases h), upd_same, S6.new nD, kp6.trans (Keep.new nD), (by rw [upd_ne dD]; exact hT.at_)⟩ (fun j H7 hj h => ?_) (fun H7 h => ?_)
      · obtain ⟨ns, rfl, h12, hD, S7, kp7, hd7⟩ := h
        refine ⟨rfl, .ref a, rfl, .int sp, rfl, 2, sp, rfl, rfl, .inl ⟨by decide, by decide⟩, _, 1, rfl, rfl, a, c, _, _, rfl, S7, by omega, by omega, by omega, fun H8 r8 S8 k8 p0 p1 => ?_⟩
        have hD8 := k8 D _ aD.1 aD.2 hD
        have hd8 := k8 d _ adn.1 adn.2 hd7
        refine ⟨.int sp, rfl, r8, sp, rfl, rfl, _, hD8, (by rw [List.length_map, sizeLine_eq]; omega), ns ++ [r8 - sp], by simp, (fun x hx => ?_), (by rw [upd_same]; simp), S8.put aD, (kp7.trans k8).put (kp6.free aD nD), (by rw [upd_ne dD]; exact hd8)⟩
        rcases List.mem_append.mp hx with hx | hx
        · exact h12 x hx
        · rw [List.mem_singleton.mp hx]
          omega
      · obtain ⟨ns, hns, h12, hD, S7, kp7, hd7⟩ := h
        refine ⟨D, _, rfl, .inl ⟨sqlOf hD, fun t nt => ?_⟩⟩
        have S8 := S7.new (o := .tup (ns.map V.int)) nt
        have kp8 := kp7.trans (Keep.new (o := .tup (ns.map V.int)) nt)
        have at8 := S7.fresh nt
        have hd8 : upd H7 t (.tup (ns.map V.int)) d = some (dZ T) := by
          rw [upd_ne (ne_of_none hd7 nt)]
          exact hd7
        refine ⟨.ref a, rfl, .int g, rfl, a, c, _, g, rfl, S8, by omega, hg, fun H9 r9 S9 k9 w0 _ => ?_⟩
        refine ⟨1, r9, rfl, rfl, .ref a, rfl, a, c, _, 2, rfl, S9, by omega, by decide, by decide, fun H10 r10 S10 k10 u0 u1 => ?_⟩
        have k910 := k9.trans k10
        have hd10 : H10 d = some (dZ T) := k910 d _ adn.1 adn.2 hd8
        have ht10 : H10 t = some (.tup (ns.map V.int)) := k910 t _ at8.1 at8.2 upd_same
        refine ⟨2, r10, rfl, rfl, .inl ⟨by decide, by decide⟩, 1, 2 * r10, rfl, rfl, 1 + r9, 1 - 2 * r10, rfl, rfl, .inr ⟨by omega, by omega⟩, .ref d, rfl, .ref t, rfl, d, _, rfl, DPut.t (k := ns.map Sum.inl) hd10 (by rw [map_kV]; exact ht10) ?_, ?_⟩
        · rw [List.length_map, sizeLine_eq]
          omega
        · refine ⟨_, _, setD T ns ((1 + r9) * (1 - 2 * r10)), rfl, (S10.put adn).more (by omega), (kp8.trans k910).put nd, ⟨?_, setD_nodup _ _ hT.nodup, fun q hq => ?_⟩, fun q hq => ?_, Nat.le_trans (setD_len _ _ _) (Nat.succ_le_succ hTl)⟩
          · rw [upd_same, putK_enc]
          · rcases setD_mem hq with ⟨hq, _⟩ | rfl
            · exact hT.len q hq
            · exact hns
          · rcases setD_mem hq with ⟨hq, _⟩ | rfl
            · exact hlow q hq
            · exact ⟨Int.mul_ne_zero (by omega) (by omega), h12⟩
    · obtain ⟨y6, y7, T, rfl, S6, kp6, hT, hlow, hTl⟩ := h
      exact ⟨.ref d, rfl, q H6 d T (S6.more (by omega)) kp6 nd hT hlow (by omega)⟩
/-! ### the law's places -/
def spPlaces : Sp := fun vs H Q _ => ∃ (a c : Addr) (n m : Nat), vs = [.ref a, .int m] ∧ Stock H a c n ∧ n ≤ 900000 ∧ 1 ≤ m ∧ m ≤ 12 ∧
  ∀ H' (l : Addr) (ps : List Int), Stock H' a c (n + 12) → Keep a c H H' → H l = none → H' l = some (.lst (ps.map V.int)) → ps.length ≤ 12 → (∀ p ∈ ps, 0 ≤ p ∧ p < m) → Q (.ref l) H'
abbrev nmPlaces : List Str := ["_law_stock_here", "_law_many", "_law_way", "_law_j", "_law_k"]
theorem scPlaces : FnScope nmPlaces ["_law_stock_here", "_law_many"] (defScope sPlaces) := ⟨rfl, rfl, rfl, by decide +kernel, rfl, by decide +kernel, by decide +kernel⟩
theorem ok_places {f fP : Addr} {fd fdP : FuncData} {k : Nat} (F : Fun K "_law_places" "_law_places" sPlaces f fd) (FP : Fun K "_law_pick" "_law_pick" sPick fP fdP) (bP : Binds K fdP ["_law_stock_here", "_law_limit"] []) (gP : mg "_law_pick" = some (.ref fP)) (mi : mg "int" = none) (mr : mg "range" = none) :
    FnOk P w K mg base CX0 (k + 2) f fd ["_law_stock_here", "_law_many"] spPlaces := by
  have GP : FnOk P w K mg base CX0 (k + 1) fP fdP ["_law_stock_here", "_law_limit"] spPick := ok_pick FP mi
  refine F.ok scPlaces (fun vs H Q E h => ?_) (fun cdv A outer s H vs Q E hr h => ?_)
  · obtain ⟨a, c, n, m, rfl, _⟩ := h
    rfl
  · obtain ⟨a, c, n, m, rfl, S, hn, hm1, hm2, q⟩ := h
    refine ⟨_, pss_cons (ps_set (i := 2) scPlaces.nd rfl (.inl rfl) (pe_call GP hr (by rfl) gP FP.kp bP .nil pass0 (pa_cons (pv 0) (pa_cons pe_int pa_nil))))
      (pss_cons (ps_if (pt_cmpR op_eq (pv 2) pe_int (nomark _)) (pss_one (ps_ret (pe_lst pa_nil))) pss_nil)
      (pss_cons (ps_if (pt_cmpR op_eq (pv 2) pe_int (nomark _)) (pss_one (ps_ret (pe_lc (own := [("_law_j", 3)]) (g := gName 3) (by rfl) scPlaces.nd (pi_range1 rfl mr (pa_cons (pv 1) pa_nil)) (blkOk_by (own := [("_law_j", 3)]) (N := nmPlaces) (sc := defScope sPlaces) (by decide +kernel))
          (fun _ _ _ _ _ => pg_name (i := 3) scPlaces.nd rfl (.inl rfl)) (fun _ _ _ _ _ => pts_nil) (fun _ _ _ _ _ => pe_op op_sub (pe_op op_sub (pv 1) pe_int) (pv 3))))) pss_nil)
      (pss_cons (ps_if (pt_cmpR op_eq (pv 2) pe_int (nomark _)) (pss_one (ps_ret (pe_lst (pa_cons (pe_call GP hr (by rfl) gP FP.kp bP .nil pass0 (pa_cons (pv 0) (pa_cons (pv 1) pa_nil))) pa_nil)))) pss_nil)
      (pss_one (ps_ret (pe_lc (own := [("_law_k", 4)]) (g := gName 4) (by rfl) scPlaces.nd (pi_range1 rfl mr (pa_cons (pe_op op_add pe_int (pe_call GP hr (by rfl) gP FP.kp bP .nil pass0 (pa_cons (pv 0) (pa_cons pe_int pa_nil)))) pa_nil)) (blkOk_by (own := [("_law_k", 4)]) (N := nmPlaces) (sc := defScope sPlaces) (by decide +kernel))
          (fun _ _ _ _ _ => pg_name (i := 4) scPlaces.nd rfl (.inl rfl)) (fun _ _ _ _ _ => pts_nil) (fun _ _ _ _ _ => pe_call GP hr (by rfl) gP FP.kp bP .nil pass0 (pa_cons (pv 0) (pa_cons (pv 1) pa_nil))))))))), ?_⟩
    refine ⟨.ref a, rfl, a, c, n, 5, rfl, S, by omega, by decide, by decide, fun H1 way S1 k1 w0 w1 => ?_⟩
    refine ⟨.int way, rfl, rfl, _, rfl, ite2 (fun _ => ?_) (fun _ => ?_)⟩
    · refine ⟨Nat.zero_le _, fun l nl => ?_⟩
      exact q _ l [] ((S1.new nl).more (by omega)) (k1.trans (Keep.new nl)) (k1.free (S1.fresh nl) nl) upd_same (by simp) (fun p h => by cases h)
    refine ⟨.int way, rfl, rfl, _, rfl, ite2 (fun _ => ?_) (fun _ => ?_)⟩
    · refine ⟨.int m, rfl, m, rfl, by omega, by omega, fun D nD => ?_⟩
      have aD := S1.fresh nD
      refine lc_range (lo := 0) (n := m) (fun j H' => ∃ ns : List Int, ns.length = j ∧ (∀ x ∈ ns, 0 ≤ x ∧ x < m) ∧ H' D = some (.lst (ns.map V.int)) ∧ But D H1 H')
        ⟨[], rfl, (fun x h => by cases h), upd_same, But.start⟩ (fun j H7 hj h => ?_) (fun H7 h => ?_)
      · obtain ⟨ns, rfl, hb, hD, kp⟩ := h
        refine ⟨rfl, .int m, rfl, m, 1, rfl, rfl, .int (0 + (ns.length : Int)), rfl, (m : Int) - 1, 0 + (ns.length : Int), rfl, rfl, _, hD, (by rw [List.length_map, sizeLine_eq]; omega), ns ++ [(m : Int) - 1 - (0 + (ns.length : Int))], by simp, (fun x hx => ?_), (by rw [upd_same]; simp), kp.step (Same.refl _)⟩
        rcases List.mem_append.mp hx with hx | hx
        · exact hb x hx
        · rw [List.mem_singleton.mp hx]
          omega
      · obtain ⟨ns, hns, hb, hD, kp⟩ := h
        have sm := kp.same nD
        exact q H7 D ns ((S1.same sm).more (by omega)) (k1.trans (fun b o _ _ e => sm b o e)) (k1.free aD nD) hD (by omega) hb
    refine ⟨.int way, rfl, rfl, _, rfl, ite2 (fun _ => ?_) (fun _ => ?_)⟩
    · refine ⟨.ref a, rfl, .int m, rfl, a, c, _, m, rfl, S1, by omega, by omega, by omega, fun H2 r2 S2 k2 a0 a1 => ⟨one1, fun l nl => ?_⟩⟩
      refine q _ l [r2] ((S2.new nl).more (by omega)) ((k1.trans k2).trans (Keep.new nl)) ((k1.trans k2).free (S2.fresh nl) nl) upd_same (by simp) (fun p hp => ?_)
      rw [List.mem_singleton.mp hp]
      exact ⟨a0, a1⟩
    · refine ⟨.ref a, rfl, a, c, _, 6, rfl, S1, by omega, by decide, by decide, fun H2 r2 S2 k2 a0 a1 => ⟨1, r2, rfl, rfl, ?_⟩⟩
      have k12 := k1.trans k2
      refine ⟨1 + r2, rfl, by omega, by omega, fun D nD => ?_⟩
      have aD := S2.fresh nD
      refine lc_range (lo := 0) (n := (1 + r2).toNat) (fun j H' => ∃ ns : List Int, ns.length = j ∧ (∀ x ∈ ns, 0 ≤ x ∧ x < m) ∧ H' D = some (.lst (ns.map V.int)) ∧ Stock H' a c (n + 2 + j) ∧ Keep a c H H')
        ⟨[], rfl, (fun x h => by cases h), upd_same, S2.new nD, k12.trans (Keep.new nD)⟩ (fun j H7 hj h => ?_) (fun H7 h => ?_)
      · obtain ⟨ns, rfl, hb, hD, S7, kp7⟩ := h
        refine ⟨rfl, .ref a, rfl, .int m, rfl, a, c, _, m, rfl, S7, by omega, by omega, by omega, fun H8 r8 S8 k8 b0 b1 => ?_⟩
        have hD8 := k8 D _ aD.1 aD.2 hD
        refine ⟨_, hD8, (by rw [List.length_map, sizeLine_eq]; omega), ns ++ [r8], by simp, (fun x hx => ?_), (by rw [upd_same]; simp), S8.put aD, (kp7.trans k8).put (k12.free aD nD)⟩
        rcases List.mem_append.mp hx with hx | hx
        · exact hb x hx
        · rw [List.mem_singleton.mp hx]
          exact ⟨b0, b1⟩
      · obtain ⟨ns, hns, hb, hD, S7, kp7⟩ := h
        exact q H7 D ns (S7.more (by omega)) kp7 (k12.free aD nD) hD (by omega) hb
end
end K05
set_option Elab.async false
set_option linter.all false
set_option maxRecDepth 100000
namespace K05
open PySem PySem.Spec PyProof.Rows L2 R1 ZN
/-! ### one == () -/
def trmD (r : Trm) : PyData := .tuple [.tuple (r.ns.map .int), .int r.c]
theorem canLay_trms : ∀ L : List Trm, PyData.canLayAll0 (L.map trmD) = true
  | [] => rfl
  | r :: L => by simp [PyData.canLayAll0, PyData.canLay0, trmD, canLay_trms L, canLay_ints]
theorem depth_trms : ∀ L : List Trm, PyData.depthAll (L.map trmD) ≤ 5
  | [] => by simp [PyData.depthAll]
  | r :: L => by
    have h1 := depth_trms L
    have h2 := depth_ints r.ns
    simp [PyData.depthAll, PyData.depth, trmD]
    omega
theorem shaped_trms (L : List Trm) : SeqAt.shaped (.tuple (L.map trmD)) = true := by
  have := depth_trms L
  simp [SeqAt.shaped, PyData.canLay0, canLay_trms, PyData.depth]
  omega
theorem dp_trms {K : PySem.W.Frag} {H : Hp} : ∀ {L : List Trm}, RowsOk H L → DpAll K H (L.map Trm.v) (L.map trmD)
  | [], _ => .nil
  | r :: L, h => by
    obtain ⟨o1, o2⟩ := h r List.mem_cons_self
    exact .cons (.tup (.inl (.inl o1)) (.cons (.tup (.inl (.inl o2)) (dp_ints r.ns)) (.cons (.int r.c) .nil))) (dp_trms fun x hx => h x (List.mem_cons_of_mem _ hx))
theorem eqv_nilT (ds : List PyData) : PyData.eqv (.tuple ds) (.tuple []) = ds.isEmpty := by
  cases ds <;> simp [PyData.eqv, PyData.eqvAll]
/-! ### the same data -/
theorem sm_ints {H : Hp} {n : Nat} {a b : Addr} {ns : List Int} (h1 : H a = some (.tup (ns.map V.int))) (h2 : H b = some (.tup (ns.map V.int))) (hz : ns.length ≤ 1000) : Sm H (n + 1) (.ref a) (.ref b) := by
  refine .tup h1 h2 rfl (by rw [List.length_map]; exact hz) fun j x y e1 e2 => ?_
  rw [e1] at e2
  cases e2
  rw [List.getElem?_map] at e1
  obtain ⟨i, _, rfl⟩ := Option.map_eq_some_iff.mp e1
  exact .int i
theorem sm_sum {H : Hp} {n : Nat} {a b : Addr} {L M : List Trm} (h1 : SumAt H a L) (h2 : SumAt H b M) (e : L.map Trm.d = M.map Trm.d) (hz : L.length ≤ 1000) (hm : ∀ r ∈ L, r.ns.length ≤ 1000) : Sm H (n + 3) (.ref a) (.ref b) := by
  have hl := congrArg List.length e
  rw [List.length_map, List.length_map] at hl
  refine .tup h1.at_ h2.at_ (by rw [List.length_map, List.length_map, hl]) (by rw [List.length_map]; exact hz) fun j x y e1 e2 => ?_
  rw [List.getElem?_map] at e1 e2
  obtain ⟨r, r1, rfl⟩ := Option.map_eq_some_iff.mp e1
  obtain ⟨s, s1, rfl⟩ := Option.map_eq_some_iff.mp e2
  have hd : r.d = s.d := by
    have q1 : (L.map Trm.d)[j]? = some r.d := by rw [List.getElem?_map, r1]; rfl
    have q2 : (M.map Trm.d)[j]? = some s.d := by rw [List.getElem?_map, s1]; rfl
    rw [e, q2] at q1
    exact (Option.some.inj q1).symm
  have hns : r.ns = s.ns := congrArg Prod.fst hd
  have hc : r.c = s.c := congrArg Prod.snd hd
  obtain ⟨o1, o2⟩ := h1.rows r (List.mem_of_getElem? r1)
  obtain ⟨p1, p2⟩ := h2.rows s (List.mem_of_getElem? s1)
  refine .tup o1 p1 rfl (by show 2 ≤ 1000; decide) fun i x y f1 f2 => ?_
  rcases i with _ | _ | i
  · cases (Option.some.inj f1 : V.ref r.p = x)
    cases (Option.some.inj f2 : V.ref s.p = y)
    exact sm_ints o2 (by rw [p2, hns]) (hm r (List.mem_of_getElem? r1))
  · cases (Option.some.inj f1 : V.int r.c = x)
    cases (Option.some.inj f2 : V.int s.c = y)
    rw [hc]
    exact .int _
  · cases f1
theorem sm_lst {H : Hp} {n : Nat} {a b : Addr} {xs ys : List V} (h1 : H a = some (.lst xs)) (h2 : H b = some (.lst ys)) (hz : xs.length ≤ 1000) (h : Paired (Sm H n) xs ys) : Sm H (n + 1) (.ref a) (.ref b) := by
  refine .lst h1 h2 (Paired.length h) hz ?_
  clear h1 h2 hz
  induction h with
  | nil => exact fun j x y e => by simp at e
  | cons a _ ih =>
    intro j x y e1 e2
    cases j with
    | zero =>
      cases Option.some.inj e1
      cases Option.some.inj e2
      exact a
    | succ j => exact ih j x y (by simpa using e1) (by simpa using e2)
/-! ### least powers, as data -/
theorem col_mem {D E : Ts} (h : ∀ q, q ∈ D ↔ q ∈ E) (j : Nat) (v : Int) : v ∈ col D j ↔ v ∈ col E j := by
  unfold col
  rw [List.mem_map, List.mem_map]
  constructor
  · rintro ⟨q, a, b⟩
    exact ⟨q, (h q).mp a, b⟩
  · rintro ⟨q, a, b⟩
    exact ⟨q, (h q).mpr a, b⟩
theorem IsLeast.of_mem {D E : Ts} {n : Nat} {ms : List Int} (x : IsLeast D n ms) (h : ∀ q, q ∈ D ↔ q ∈ E) : IsLeast E n ms := by
  refine ⟨x.1, fun j hj => ?_⟩
  obtain ⟨v, e, a, b⟩ := x.2 j hj
  exact ⟨v, e, (col_mem h j v).mp a, fun y hy => b y ((col_mem h j y).mpr hy)⟩
theorem less_at {ms : List Int} {q : List Int × Int} {j : Nat} {v : Int} (hl : q.1.length = ms.length) (hv : ms[j]? = some v) : (less ms q).1.getD j 0 = q.1.getD j 0 - v := by
  show (List.zipWith (fun a b => a + -1 * b) q.1 ms).getD j 0 = _
  have hj := (List.getElem?_eq_some_iff.mp hv).1
  have hj2 : j < q.1.length := by omega
  rw [List.getD_eq_getElem?_getD, List.getElem?_zipWith, List.getElem?_eq_getElem hj2, hv, List.getD_eq_getElem?_getD, List.getElem?_eq_getElem hj2]
  show q.1[j] + -1 * v = q.1[j] - v
  omega
theorem isLeast_less {D : Ts} {m : Nat} {ms : List Int} (x : IsLeast D m ms) (hl : ∀ q ∈ D, q.1.length = m) : IsLeast (D.map (less ms)) m (List.replicate m 0) := by
  refine ⟨List.length_replicate, fun j hj => ?_⟩
  obtain ⟨v, e, a, b⟩ := x.2 j hj
  refine ⟨0, by rw [List.getElem?_replicate, if_pos hj], ?_, fun y hy => ?_⟩
  · obtain ⟨q, hq, rfl⟩ := List.mem_map.mp a
    unfold col
    rw [List.map_map]
    refine List.mem_map.mpr ⟨q, hq, ?_⟩
    show (less ms q).1.getD j 0 = 0
    rw [less_at (by rw [hl q hq, x.1]) e]
    omega
  · unfold col at hy
    rw [List.map_map] at hy
    obtain ⟨q, hq, rfl⟩ := List.mem_map.mp hy
    show 0 ≤ (less ms q).1.getD j 0
    rw [less_at (by rw [hl q hq, x.1]) e]
    have := b (q.1.getD j 0) (List.mem_map.mpr ⟨q, hq, rfl⟩)
    omega
theorem less_zero {m : Nat} {q : List Int × Int} (h : q.1.length = m) : less (List.replicate m 0) q = q := by
  unfold less
  have : List.zipWith (fun a b => a + -1 * b) q.1 (List.replicate m 0) = q.1 := by
    apply List.ext_getElem?
    intro j
    rw [List.getElem?_zipWith, List.getElem?_replicate]
    by_cases hj : j < m
    · rw [if_pos hj, List.getElem?_eq_getElem (by omega)]
      simp
    · rw [if_neg hj, List.getElem?_eq_none (by omega)]
  rw [this]
theorem Norm.low {T D : Ts} (x : Norm T D) (h : Low T) : ∀ q, q ∈ T ↔ q ∈ D := fun q => by
  rw [x.mem]
  exact ⟨fun a => ⟨a, (h q a).1⟩, fun a => a.1⟩
/-- where the defs stand -/
structure Defs (K : PySem.W.Frag) (mg : Str → Option Value) (f : Nat → Addr) (d : Nat → FuncData) : Prop where
  F0 : Fun K "letter_of" "letter_of" sLetterOf (f 0) (d 0)
  b0 : Binds K (d 0) ["at", "many"] []
  g0 : mg "letter_of" = some (.ref (f 0))
  F1 : Fun K "lines_of" "lines_of" sLines (f 1) (d 1)
  b1 : Binds K (d 1) ["told"] []
  g1 : mg "lines_of" = some (.ref (f 1))
  F2 : Fun K "least_of" "least_of" sLeast (f 2) (d 2)
  b2 : Binds K (d 2) ["told"] []
  g2 : mg "least_of" = some (.ref (f 2))
  F3 : Fun K "moved" "moved" sMoved (f 3) (d 3)
  b3 : Binds K (d 3) ["told", "powers", "sign"] []
  g3 : mg "moved" = some (.ref (f 3))
  F4 : Fun K "sum_of_terms" "sum_of_terms" sSumOf (f 4) (d 4)
  b4 : Binds K (d 4) ["terms"] []
  g4 : mg "sum_of_terms" = some (.ref (f 4))
  F5 : Fun K "without_letters" "without_letters" sWithout (f 5) (d 5)
  b5 : Binds K (d 5) ["told", "places"] []
  g5 : mg "without_letters" = some (.ref (f 5))
  F6 : Fun K "is_sum" "is_sum" sIs (f 6) (d 6)
  b6 : Binds K (d 6) ["told", "many"] []
  g6 : mg "is_sum" = some (.ref (f 6))
  F7 : Fun K "check_sum" "check_sum" sCheck (f 7) (d 7)
  b7 : Binds K (d 7) ["told", "many"] []
  g7 : mg "check_sum" = some (.ref (f 7))
  F8 : Fun K "letters_of" "letters_of" sLettersOf (f 8) (d 8)
  b8 : Binds K (d 8) ["sums"] []
  g8 : mg "letters_of" = some (.ref (f 8))
  F9 : Fun K "letter" "letter" sLetter (f 9) (d 9)
  b9 : Binds K (d 9) ["at", "many"] []
  g9 : mg "letter" = some (.ref (f 9))
  F10 : Fun K "least_powers" "least_powers" sLeastP (f 10) (d 10)
  b10 : Binds K (d 10) ["one"] []
  g10 : mg "least_powers" = some (.ref (f 10))
  F11 : Fun K "freed" "freed" sFreed (f 11) (d 11)
  b11 : Binds K (d 11) ["one"] []
  g11 : mg "freed" = some (.ref (f 11))
  F12 : Fun K "ones" "ones" sOnes (f 12) (d 12)
  b12 : Binds K (d 12) ["one", "places"] []
  g12 : mg "ones" = some (.ref (f 12))
  F13 : Fun K "_law_stock" "_law_stock" sStock (f 13) (d 13)
  b13 : Binds K (d 13) ["_law_script"] []
  g13 : mg "_law_stock" = some (.ref (f 13))
  F14 : Fun K "_law_pick" "_law_pick" sPick (f 14) (d 14)
  b14 : Binds K (d 14) ["_law_stock_here", "_law_limit"] []
  g14 : mg "_law_pick" = some (.ref (f 14))
  F15 : Fun K "_law_wide" "_law_wide" sWide (f 15) (d 15)
  b15 : Binds K (d 15) ["_law_stock_here", "_law_limit"] []
  g15 : mg "_law_wide" = some (.ref (f 15))
  F16 : Fun K "_law_same" "_law_same" sSame (f 16) (d 16)
  b16 : Binds K (d 16) ["_law_told", "_law_due"] []
  g16 : mg "_law_same" = some (.ref (f 16))
  F17 : Fun K "_law_written" "_law_written" sWritten (f 17) (d 17)
  b17 : Binds K (d 17) ["_law_terms_here"] []
  g17 : mg "_law_written" = some (.ref (f 17))
  F18 : Fun K "_law_terms" "_law_terms" sTerms (f 18) (d 18)
  b18 : Binds K (d 18) ["_law_stock_here", "_law_many", "_law_most", "_law_span", "_law_great"] []
  g18 : mg "_law_terms" = some (.ref (f 18))
  F19 : Fun K "_law_least" "_law_least" sLLeast (f 19) (d 19)
  b19 : Binds K (d 19) ["_law_terms_here", "_law_many"] []
  g19 : mg "_law_least" = some (.ref (f 19))
  F20 : Fun K "_law_ones" "_law_ones" sLOnes (f 20) (d 20)
  b20 : Binds K (d 20) ["_law_terms_here", "_law_places_here"] []
  g20 : mg "_law_ones" = some (.ref (f 20))
  F21 : Fun K "_law_is_freed" "_law_is_freed" sIsFreed (f 21) (d 21)
  b21 : Binds K (d 21) ["_law_terms_here", "_law_many"] []
  g21 : mg "_law_is_freed" = some (.ref (f 21))
  F22 : Fun K "_law_are_ones" "_law_are_ones" sAreOnes (f 22) (d 22)
  b22 : Binds K (d 22) ["_law_terms_here", "_law_places_here"] []
  g22 : mg "_law_are_ones" = some (.ref (f 22))
  F23 : Fun K "_law_places" "_law_places" sPlaces (f 23) (d 23)
  b23 : Binds K (d 23) ["_law_stock_here", "_law_many"] []
  g23 : mg "_law_places" = some (.ref (f 23))
  F24 : Fun K "_law_are_letters" "_law_are_letters" sAreLetters (f 24) (d 24)
  b24 : Binds K (d 24) ["_law_many"] []
  g24 : mg "_law_are_letters" = some (.ref (f 24))
  F25 : Fun K "with_powers" "with_powers" sWith (f 25) (d 25)
  b25 : L2.Binds K (d 25) ["told", "change"] []
  g25 : mg "with_powers" = some (.ref (f 25))
  int : mg "int" = none
  range : mg "range" = none
  list : mg "list" = none
  sorted : mg "sorted" = none
  len : mg "len" = none
  tuple : mg "tuple" = none
  min : mg "min" = none
  zip : mg "zip" = none
  enumerate : mg "enumerate" = none
  isinstance : mg "isinstance" = none
  bool : mg "bool" = none
  str : mg "str" = none
end K05
set_option Elab.async false
set_option linter.all false
set_option maxRecDepth 100000
namespace K05
open PySem PySem.Spec PyProof.Rows L2 R1 ZN
theorem sm_nil {H : Hp} {n : Nat} {a b : Addr} (h1 : H a = some (.tup [])) (h2 : H b = some (.tup [])) : Sm H (n + 1) (.ref a) (.ref b) := .tup h1 h2 rfl (Nat.zero_le _) fun j x y e => by simp at e
theorem rep_flat {m : Nat} : (List.replicate (m : Int).toNat [V.int 0]).flatten = (List.replicate m (0 : Int)).map V.int := by
  rw [Int.toNat_natCast]
  induction m with
  | zero => rfl
  | succ m ih => rw [List.replicate_succ, List.flatten_cons, ih, List.replicate_succ, List.map_cons]; rfl
section
variable {P : Program} {w : World} {K : PySem.W.Frag} {mg : Str → Option Value} {base : Heap} {f : Nat → Addr} {d : Nat → FuncData}
theorem Defs.prog (D : Defs K mg f d) : Prog K mg (f 6) (f 7) (f 8) (f 1) (f 2) (d 6) (d 7) (d 8) (d 1) (d 2) :=
  { Is := D.F6, Ch := D.F7, Lo := D.F8, Li := D.F1, Le := D.F2, bIs := D.b6, bCh := D.b7, bLo := D.b8, bLi := D.b1, bLe := D.b2, gIs := D.g6, gCh := D.g7, gLo := D.g8, gLi := D.g1, gLe := D.g2, enumerate := D.enumerate, len := D.len, list := D.list, zip := D.zip, min := D.min, tuple := D.tuple }
theorem Defs.same (D : Defs K mg f d) : FnOk P w K mg base CX0 6 (f 16) (d 16) ["_law_told", "_law_due"] (spSame 5) := ok_same (k := 0) D.F16 D.b16 D.g16 D.isinstance D.bool D.int D.str D.list D.tuple D.len D.zip 5
theorem Defs.leastP (D : Defs K mg f d) : FnOk P w K mg base CX0 4 (f 10) (d 10) ["one"] spLeastP := ok_leastP (k := 0) D.F10 D.prog
theorem Defs.freed (D : Defs K mg f d) : FnOk P w K mg base CX0 4 (f 11) (d 11) ["one"] spFreed := ok_freed (k := 0) D.F11 D.F3 D.b3 D.g3 D.prog
theorem Defs.written (D : Defs K mg f d) : FnOk P w K mg base CX0 1 (f 17) (d 17) ["_law_terms_here"] spWritten := ok_written (k := 0) D.F17 D.tuple D.sorted
theorem Defs.lleast (D : Defs K mg f d) : FnOk P w K mg base CX0 1 (f 19) (d 19) ["_law_terms_here", "_law_many"] spLLeast := ok_lleast (k := 0) D.F19 D.range
def spIsFreed : Sp := fun vs H Q _ => ∃ (t : Addr) (m : Nat) (T : Ts), vs = [.ref t, .int m] ∧ DictAt H t m T ∧ Low T ∧ T.length ≤ 100 ∧ 1 ≤ m ∧ m ≤ 12 ∧ ∀ H', Same H H' → Q (.bl true) H'
abbrev nmIsFreed : List Str := ["_law_terms_here", "_law_many", "_law_one", "_law_least_here", "_law_rows", "_law_powers", "_law_factor", "_law_due", "_law_power", "_law_low"]
theorem scIsFreed : FnScope nmIsFreed ["_law_terms_here", "_law_many"] (defScope sIsFreed) := ⟨rfl, rfl, rfl, by decide +kernel, rfl, by decide +kernel, by decide +kernel⟩
theorem ok_isFreed {fA : Addr} {fd : FuncData} (F : Fun K "_law_is_freed" "_law_is_freed" sIsFreed fA fd) (D : Defs K mg f d) : FnOk P w K mg base CX0 7 fA fd ["_law_terms_here", "_law_many"] spIsFreed := by
  have GS : FnOk P w K mg base CX0 6 (f 16) (d 16) ["_law_told", "_law_due"] (spSame 5) := D.same
  have GL : FnOk P w K mg base CX0 4 (f 10) (d 10) ["one"] spLeastP := D.leastP
  have GF : FnOk P w K mg base CX0 4 (f 11) (d 11) ["one"] spFreed := D.freed
  have GW : FnOk P w K mg base CX0 1 (f 17) (d 17) ["_law_terms_here"] spWritten := D.written
  have GE : FnOk P w K mg base CX0 1 (f 19) (d 19) ["_law_terms_here", "_law_many"] spLLeast := D.lleast
  refine F.ok scIsFreed (fun vs H Q E h => ?_) (fun cdv A outer s H vs Q E hr h => ?_)
  · obtain ⟨l, m, D, rfl, _⟩ := h
    rfl
  · obtain ⟨t, m, T, rfl, hT, hlow, hTl, hm1, hm2, q⟩ := h
    have r1 := hr.mono (show 1 ≤ 6 by decide)
    have r4 := hr.mono (show 4 ≤ 6 by decide)
    refine ⟨_, pss_cons (ps_set (i := 2) scIsFreed.nd rfl (.inl rfl) (pe_call GW r1 (by rfl) D.g17 D.F17.kp D.b17 .nil pass0 (pa_cons (pv 0) pa_nil)))
      (pss_cons (ps_if (pt_cmpR (op_eqD hr.units) (pv 2) (pe_tup pa_nil) (nomark _))
        (pss_one (ps_ret (pe_call GS hr (by rfl) D.g16 D.F16.kp D.b16 .nil pass0 (pa_cons (pe_lst (pa_cons (pe_call GL r4 (by rfl) D.g10 D.F10.kp D.b10 .nil pass0 (pa_cons (pv 2) pa_nil)) (pa_cons (pe_call GF r4 (by rfl) D.g11 D.F11.kp D.b11 .nil pass0 (pa_cons (pv 2) pa_nil))
            (pa_cons (pe_callK0 GL r4 (by rfl) D.g10 D.F10.kp (kb_leastP D.F10) pass0 (pk_cons (pv 2) pk_nil)) (pa_cons (pe_callK0 GF r4 (by rfl) D.g11 D.F11.kp (kb_freed D.F11) pass0 (pk_cons (pv 2) pk_nil)) pa_nil)))))
          (pa_cons (pe_op op_rep (pe_lst (pa_cons (pe_tup pa_nil) pa_nil)) pe_int) pa_nil))))) pss_nil)
      (pss_cons (ps_set (i := 3) scIsFreed.nd rfl (.inl rfl) (pe_call GE r1 (by rfl) D.g19 D.F19.kp D.b19 .nil pass0 (pa_cons (pv 0) (pa_cons (pv 1) pa_nil))))
      (pss_cons (ps_set (i := 4) scIsFreed.nd rfl (.inl rfl) (pe_lst pa_nil))
      (pss_cons (ps_for PassesOwn.never rfl (pi_tup (pv 2)) (pg_tup rfl (pgs_cons (pg_name (i := 5) scIsFreed.nd rfl (.inl rfl)) (pgs_cons (pg_name (i := 6) scIsFreed.nd rfl (.inl rfl)) pgs_nil)))
        (pss_one (ps_expr (pe_bm PySem.F.plainAttrs_list PySem.F.slot_list_append PySem.F.type_list_append mt_append (pv 4) (pa_cons (pe_tup (pa_cons (pe_callTy call_tuple_of (by rfl) D.tuple (by decide +kernel) (pa_cons (pe_lc (wi := iZipM K (tCons (tVar 5) (tCons (tVar 3) tNil))) (own := [("_law_power", 8), ("_law_low", 9)]) (g := gTup K 2 (gCons (gName 8) (gCons (gName 9) gNil))) (by rfl) scIsFreed.nd (pi_zipM (by rfl) D.zip (pa_cons (pv 5) (pa_cons (pv 3) pa_nil))) (blkOk_by (own := [("_law_power", 8), ("_law_low", 9)]) (N := nmIsFreed) (sc := defScope sIsFreed) (by decide +kernel))
              (fun _ _ _ _ _ => pg_tup rfl (pgs_cons (pg_name (i := 8) scIsFreed.nd rfl (.inl rfl)) (pgs_cons (pg_name (i := 9) scIsFreed.nd rfl (.inl rfl)) pgs_nil))) (fun _ _ _ _ _ => pts_nil)
              (fun _ _ _ _ _ => pe_op op_sub (pv 8) (pv 9))) pa_nil)) (pa_cons (pv 6) pa_nil))) pa_nil)))))
      (pss_cons (ps_set (i := 7) scIsFreed.nd rfl (.inl rfl) (pe_lst (pa_cons (pe_callTy call_tuple_of (by rfl) D.tuple (by decide +kernel) (pa_cons (pv 3) pa_nil)) (pa_cons (pe_callTy call_tuple_of (by rfl) D.tuple (by decide +kernel) (pa_cons (pv 4) pa_nil)) (pa_cons (pe_callTy call_tuple_of (by rfl) D.tuple (by decide +kernel) (pa_cons (pv 4) pa_nil))
          (pa_cons (pe_callTy call_tuple_of (by rfl) D.tuple (by decide +kernel) (pa_cons (pe_op op_rep (pe_lst (pa_cons pe_int pa_nil)) (pv 1)) pa_nil)) pa_nil))))))
      (pss_one (ps_ret (pe_call GS hr (by rfl) D.g16 D.F16.kp D.b16 .nil pass0 (pa_cons (pe_lst (pa_cons (pe_call GL r4 (by rfl) D.g10 D.F10.kp D.b10 .nil pass0 (pa_cons (pv 2) pa_nil)) (pa_cons (pe_call GF r4 (by rfl) D.g11 D.F11.kp D.b11 .nil pass0 (pa_cons (pv 2) pa_nil))
            (pa_cons (pe_call GF r4 (by rfl) D.g11 D.F11.kp D.b11 .nil pass0 (pa_cons (pe_call GF r4 (by rfl) D.g11 D.F11.kp D.b11 .nil pass0 (pa_cons (pv 2) pa_nil)) pa_nil))
            (pa_cons (pe_call GL r4 (by rfl) D.g10 D.F10.kp D.b10 .nil pass0 (pa_cons (pe_callK0 GF r4 (by rfl) D.g11 D.F11.kp (kb_freed D.F11) pass0 (pk_cons (pv 2) pk_nil)) pa_nil)) pa_nil)))))
          (pa_cons (pv 7) pa_nil)))))))))), ?_⟩
    refine ⟨.ref t, rfl, t, m, T, rfl, hT, by omega, by omega, fun H1 o L s1 no hS hN hLl => ?_⟩
    have hG : Good m (L.map Trm.d) := hN.good hT.len
    have hmem := hN.low hlow
    have hL5 : L.length ≤ 1000 := by omega
    refine ⟨.ref o, rfl, Nat.zero_le _, fun e ne => ?_⟩
    have s2 : Same H1 (upd H1 e (.tup [])) := same_new ne
    have hS2 := hS.same s2
    refine ⟨.tuple (L.map trmD), .tuple [], .tup hS2.sq (dp_trms hS2.rows), .tup (.inl (.inl upd_same)) .nil, shaped_trms L, rfl, _, rfl, ite2 (fun e0 => ?_) (fun e0 => ?_)⟩
    · -- the sum 0
      rw [eqv_nilT] at e0
      have hLn : L = [] := by
        cases L with
        | nil => rfl
        | cons _ _ => cases e0
      subst hLn
      have nilT : ∀ {H' : Hp} {p : Addr} {ms : List Int}, H' p = some (.tup (ms.map V.int)) → IsLeast (([] : List Trm).map Trm.d) (cnt m []) ms → H' p = some (.tup []) := fun {H' p ms} hp hI => by
        have : ms = [] := List.length_eq_zero_iff.mp hI.1
        rw [hp, this]
        rfl
      have nilS : ∀ {H' : Hp} {p : Addr} {ms : List Int} {M : List Trm}, SumAt H' p M → M.map Trm.d = (([] : List Trm).map Trm.d).map (less ms) → H' p = some (.tup []) := fun {H' p ms M} hp ed => by
        have : M = [] := List.length_eq_zero_iff.mp (by have := congrArg List.length ed; simpa using this)
        rw [hp.at_, this]
        rfl
      refine ⟨.ref o, rfl, o, m, [], rfl, hS2, hL5, by omega, by omega, hG, fun H3 p3 ms3 s3 np3 hp3 hI3 => ?_⟩
      refine ⟨.ref o, rfl, o, m, [], rfl, hS2.same s3, hL5, by omega, by omega, hG, fun H4 p4 ms4 L4 s4 np4 hp4 hI4 ed4 => ?_⟩
      have s34 := s3.trans s4
      refine ⟨.ref o, rfl, o, m, [], rfl, hS2.same s34, hL5, by omega, by omega, hG, fun H5 p5 ms5 s5 np5 hp5 hI5 => ?_⟩
      refine ⟨.ref o, rfl, o, m, [], rfl, hS2.same (s34.trans s5), hL5, by omega, by omega, hG, fun H6 p6 ms6 L6 s6 np6 hp6 hI6 ed6 => ?_⟩
      refine ⟨(by rw [sizeLine_eq]; show 4 ≤ 16777216; decide), fun l nl => ?_⟩
      have s7 : Same H6 (upd H6 l (.lst [.ref p3, .ref p4, .ref p5, .ref p6])) := same_new nl
      refine ⟨Nat.zero_le _, fun e2 ne2 => ⟨one1, fun l2 nl2 => ?_⟩⟩
      have s8 := same_new (o := .tup []) ne2
      have s9 := same_new (o := .lst [.ref e2]) nl2
      refine ⟨l2, 4, [.ref e2], rfl, rfl, upd_same, by decide, by decide, (by rw [sizeLine_eq]; show 4 ≤ 16777216; decide), fun l3 nl3 => ?_⟩
      have s10 := same_new (o := .lst [.ref e2, .ref e2, .ref e2, .ref e2]) nl3
      have s710 := ((s7.trans s8).trans s9).trans s10
      have s89 := (s9.trans s10)
      have z1 := ((s4.trans s5).trans s6).trans s710
      have ze := s89 _ _ (upd_same (o := .tup []) (a := e2))
      refine ⟨.ref l, .ref l3, rfl, sm_lst ((s8.trans (s9.trans s10)) _ _ upd_same) upd_same (by show 4 ≤ 1000; decide) (.cons (sm_nil (z1 _ _ (nilT hp3 hI3)) ze) (.cons (sm_nil (((s5.trans s6).trans s710) _ _ (nilS hp4 ed4)) ze) (.cons (sm_nil ((s6.trans s710) _ _ (nilT hp5 hI5)) ze) (.cons (sm_nil (s710 _ _ (nilS hp6 ed6)) ze) .nil)))), fun H' s' => ?_⟩
      exact q _ ((((s1.trans s2).trans s34).trans (s5.trans s6)).trans (s710.trans s'))
    · -- any other sum
      have hLn : L ≠ [] := fun z => e0 (by rw [z]; rfl)
      have hcnt : cnt m L = m := by
        unfold cnt
        cases L with
        | nil => exact absurd rfl hLn
        | cons _ _ => rfl
      have hTn : T ≠ [] := fun z => by
        obtain ⟨r, L', rfl⟩ : ∃ r L', L = r :: L' := by
          cases L with
          | nil => exact absurd rfl hLn
          | cons a b => exact ⟨a, b, rfl⟩
        have := (hmem r.d).mpr (by simp)
        rw [z] at this
        cases this
      refine ⟨.ref t, rfl, .int m, rfl, t, m, T, rfl, (hT.same s1).same s2, hTn, by omega, (fun q1 h1 => (hlow q1 h1).2), fun H3 le ms s3 nle hle hI => ?_⟩
      have hI2 : IsLeast (L.map Trm.d) m ms := hI.of_mem hmem
      have hms : ms.length = m := hI.1
      have hS3 := hS2.same s3
      refine ⟨Nat.zero_le _, fun R nR => ?_⟩
      have s4 : Same H3 (upd H3 R (.lst [])) := same_new nR
      refine ⟨.ref o, rfl, o, rfl, ⟨_, (hS3.same s4).sq⟩, for_it (walk_tup (K := K) (a := o) (xs := L.map Trm.v)) (fun i σ H' => ∃ y5 y6, ∃ L' : List Trm, σ = [some (.ref t), some (.int m), some (.ref o), some (.ref le), some (.ref R), y5, y6, none, none, none] ∧ H' R = some (.lst (L'.map Trm.v)) ∧ RowsOk H' L' ∧ L'.map Trm.d = ((L.take i).map Trm.d).map (less ms) ∧ But R H3 H')
        ⟨none, none, [], rfl, upd_same, (fun r h => by cases h), by simp, But.start⟩ (fun i σ H' _ h => ?_) (fun i x σ H' H5 hi h hy => ?_) (fun σ H5 h => ?_)⟩
      · obtain ⟨_, _, _, rfl, _, _, _, kp⟩ := h
        exact (hS3.same (kp.same nR)).sq
      · obtain ⟨y5, y6, L', rfl, hR, ho, ed, kp⟩ := h
        obtain ⟨rfl, e1⟩ := hy
        rw [List.getElem?_map] at e1
        obtain ⟨r, hr1, rfl⟩ := Option.map_eq_some_iff.mp e1
        have s5 := kp.same nR
        obtain ⟨o1, o2⟩ := (hS3.same s5).rows r (List.mem_of_getElem? hr1)
        have hrl := hG.len r (List.mem_of_getElem? hr1)
        have hle5 := s5 _ _ hle
        refine ⟨r.t, _, rfl, .inl (.inl o1), rfl, _, _, rfl, _, _, rfl, rfl, .ref R, rfl, .inl ⟨rfl, _, sqlOf hR⟩, ?_⟩
        refine ⟨.ref r.p, rfl, .ref le, rfl, r.p, le, r.ns.map V.int, ms.map V.int, rfl, .inl (.inl o2), sqlOf hle5, fun E nE => ?_⟩
        refine lc_it (walk_zipM (K := K) (a := r.p) (b := le) (xs := r.ns.map V.int) (ys := ms.map V.int) (by rw [List.length_map, List.length_map, hrl, hms])) (fun j H' => H' E = some (.lst (((List.zipWith (fun a b => a + -1 * b) r.ns ms).take j).map V.int)) ∧ But E H5 H') ⟨upd_same, But.start⟩ (fun j H' _ h => ?_) (fun j x H6 H' hj h hy => ?_) (fun H6 h => ?_)
        · exact ⟨.inl (.inl (h.2.at_ nE o2)), sqlOf (h.2.at_ nE hle5)⟩
        · obtain ⟨hE, kp2⟩ := h
          obtain ⟨X1, x1, x2, rfl, nX, rfl, e1, e2⟩ := hy
          dsimp only at e1 e2
          rw [List.getElem?_map] at e1 e2
          obtain ⟨n1, f1, rfl⟩ := Option.map_eq_some_iff.mp e1
          obtain ⟨n2, f2, rfl⟩ := Option.map_eq_some_iff.mp e2
          have hj1 := (List.getElem?_eq_some_iff.mp f1).1
          have sX := same_new (o := .tup [.int n1, .int n2]) nX
          refine ⟨X1, _, rfl, .inl (.inl upd_same), rfl, _, _, rfl, _, _, rfl, rfl, rfl, .int n1, rfl, .int n2, rfl, n1, n2, rfl, rfl, _, sX _ _ hE, ?_, ?_, kp2.step sX⟩
          · rw [List.length_map, List.length_take, List.length_zipWith, sizeLine_eq]
            omega
          · rw [upd_same, zip_take f1 f2, List.map_append, show n1 + -1 * n2 = n1 - n2 by omega]
            rfl
        · obtain ⟨hE, kp2⟩ := h
          rw [List.length_map, List.take_of_length_le (by rw [List.length_zipWith]; omega)] at hE
          have s6 := kp2.same nE
          refine ⟨E, _, rfl, .inl ⟨sqlOf hE, fun p2 np2 => ?_⟩⟩
          refine ⟨.int r.c, rfl, size2', fun t2 nt2 => ?_⟩
          have s7 := same_new (o := .tup ((List.zipWith (fun a b => a + -1 * b) r.ns ms).map V.int)) np2
          have s8 := same_new (o := .tup [.ref p2, .int r.c]) nt2
          have s68 := (s6.trans s7).trans s8
          obtain ⟨g1, g2⟩ := rows_step (D := R) (t := t2) (p := p2) (ns := List.zipWith (fun a b => a + -1 * b) r.ns ms) (c := r.c) (s68 _ _ hR) (ho.keep (same_keepT s68)) upd_same (s8 _ _ upd_same)
          have ll : L'.length ≤ i := by
            have := congrArg List.length ed
            simp at this
            omega
          rw [List.length_map] at hi
          refine ⟨R, _, .ref t2, rfl, rfl, s68 _ _ hR, (by rw [List.length_map, sizeLine_eq]; omega), _, _, _, rfl, g1, g2, ?_, kp.step s68⟩
          rw [List.map_append, ed, List.take_add_one, hr1, List.map_append, List.map_append]
          rfl
      · obtain ⟨y5, y6, L', rfl, hR, ho, ed, kp⟩ := h
        rw [List.length_map, List.take_length] at ed
        have s5 := kp.same nR
        have hle5 := s5 _ _ hle
        have hS5 := hS3.same s5
        have hL'l : L'.length = L.length := by
          have := congrArg List.length ed
          simpa using this
        -- due
        refine ⟨.ref le, rfl, le, _, rfl, .inl ⟨sqlOf hle5, fun u1 nu1 => ?_⟩⟩
        have s6 := same_new (o := .tup (ms.map V.int)) nu1
        refine ⟨.ref R, rfl, R, _, rfl, .inl ⟨sqlOf (s6 _ _ hR), fun u2 nu2 => ?_⟩⟩
        have s7 := same_new (o := .tup (L'.map Trm.v)) nu2
        refine ⟨.ref R, rfl, R, _, rfl, .inl ⟨sqlOf (s7 _ _ (s6 _ _ hR)), fun u3 nu3 => ?_⟩⟩
        have s8 := same_new (o := .tup (L'.map Trm.v)) nu3
        refine ⟨one1, fun z1 nz1 => ?_⟩
        have s9 := same_new (o := .lst [.int 0]) nz1
        refine ⟨.int m, rfl, z1, m, [.int 0], rfl, rfl, upd_same, by omega, by omega, (by rw [sizeLine_eq]; show 1 * (m : Int).toNat ≤ 16777216; omega), fun z2 nz2 => ?_⟩
        rw [rep_flat]
        have s10 := same_new (o := .lst ((List.replicate m (0 : Int)).map V.int)) nz2
        refine ⟨z2, _, rfl, .inl ⟨sqlOf upd_same, fun u4 nu4 => ?_⟩⟩
        have s11 := same_new (o := .tup ((List.replicate m (0 : Int)).map V.int)) nu4
        refine ⟨(by rw [sizeLine_eq]; show 4 ≤ 16777216; decide), fun du ndu => ?_⟩
        have s12 := same_new (o := .lst [.ref u1, .ref u2, .ref u3, .ref u4]) ndu
        have t11 := s12
        have t8 := ((s9.trans s10).trans s11).trans s12
        have t7 := s8.trans t8
        have t6 := s7.trans t7
        have hR6 := s6 _ _ hR
        have k1 := t6 _ _ (upd_same (o := .tup (ms.map V.int)) (a := u1))
        have rows6 : RowsOk _ L' := ho.keep (same_keepT s6)
        have k2 : SumAt _ u2 L' := ⟨t7 _ _ (upd_same (o := .tup (L'.map Trm.v)) (a := u2)), rows6.keep (same_keepT t6)⟩
        have k3 : SumAt _ u3 L' := ⟨t8 _ _ (upd_same (o := .tup (L'.map Trm.v)) (a := u3)), rows6.keep (same_keepT t6)⟩
        have k4 := s12 _ _ (upd_same (o := .tup ((List.replicate m (0 : Int)).map V.int)) (a := u4))
        have hS12 := hS5.same (s6.trans t6)
        have sAll : Same H _ := (((s1.trans s2).trans s3).trans s5).trans (s6.trans t6)
        have hcn : ∀ {M : List Trm} {g : List Int × Int → List Int × Int}, M.map Trm.d = (L.map Trm.d).map g → cnt m M = m ∧ M.length = L.length := fun {M g} e => by
          have hl : M.length = L.length := by
            have := congrArg List.length e
            simpa using this
          refine ⟨?_, hl⟩
          unfold cnt
          cases M with
          | nil =>
            have : L = [] := List.length_eq_zero_iff.mp hl.symm
            exact absurd this hLn
          | cons _ _ => rfl
        rw [← hcnt] at hI2
        have hz2 := isLeast_less (by rw [hcnt] at hI2; exact hI2) (fun q1 h1 => (hG.1 q1 h1).1)
        have hlL : ∀ r ∈ L', r.ns.length ≤ 1000 := fun r hr => by
          have : r.d ∈ L'.map Trm.d := List.mem_map_of_mem hr
          rw [ed] at this
          have := ((hG.less hms).1 _ this).1
          show r.d.1.length ≤ 1000
          omega
        refine ⟨.ref o, rfl, o, m, L, rfl, hS12, hL5, by omega, by omega, hG, fun H13 p13 ms13 s13 _ hp13 hI13 => ?_⟩
        refine ⟨.ref o, rfl, o, m, L, rfl, hS12.same s13, hL5, by omega, by omega, hG, fun H14 t14 ms14 L14 s14 _ hS14 hI14 ed14 => ?_⟩
        have s134 := s13.trans s14
        refine ⟨.ref o, rfl, o, m, L, rfl, hS12.same s134, hL5, by omega, by omega, hG, fun H15 t15 ms15 L15 s15 _ hS15 hI15 ed15 => ?_⟩
        have e15 := hI15.unique hI2
        subst e15
        have e14 := hI14.unique hI15
        subst e14
        have e13 := hI13.unique hI15
        subst e13
        have hG15 : Good m (L15.map Trm.d) := by
          rw [ed15]
          exact hG.less hms
        refine ⟨t15, m, L15, rfl, hS15, (by rw [(hcn ed15).2]; exact hL5), by omega, by omega, hG15, fun H16 t16 ms16 L16 s16 _ hS16 hI16 ed16 => ?_⟩
        have s156 := s15.trans s16
        refine ⟨.ref o, rfl, o, m, L, rfl, hS12.same (s134.trans s156), hL5, by omega, by omega, hG, fun H17 t17 ms17 L17 s17 _ hS17 hI17 ed17 => ?_⟩
        have e17 := hI17.unique hI15
        subst e17
        have hG17 : Good m (L17.map Trm.d) := by
          rw [ed17]
          exact hG.less hms
        refine ⟨t17, m, L17, rfl, hS17, (by rw [(hcn ed17).2]; exact hL5), by omega, by omega, hG17, fun H18 p18 ms18 s18 _ hp18 hI18 => ?_⟩
        have e16 : ms16 = List.replicate m 0 := by
          rw [(hcn ed15).1, ed15] at hI16
          exact hI16.unique hz2
        have e18 : ms18 = List.replicate m 0 := by
          rw [(hcn ed17).1, ed17] at hI18
          exact hI18.unique hz2
        subst e16 e18
        refine ⟨(by rw [sizeLine_eq]; show 4 ≤ 16777216; decide), fun l nl => ?_⟩
        have s19 := same_new (o := .lst [.ref p13, .ref t14, .ref t16, .ref p18]) nl
        have b8 := s18.trans s19
        have b7 := s17.trans b8
        have b6 := s16.trans b7
        have b5 := s15.trans b6
        have b4 := s14.trans b5
        have b3 := s13.trans b4
        have d16 : L16.map Trm.d = L'.map Trm.d := by
          rw [ed16, ed, ed15, List.map_map]
          refine List.map_congr_left fun q1 hq => ?_
          refine less_zero ?_
          rw [less_len (by rw [(hG.1 q1 hq).1, hms]), hms]
        refine ⟨.ref du, rfl, .ref l, .ref du, rfl, sm_lst upd_same (b3 _ _ upd_same) (by show 4 ≤ 1000; decide) (.cons (sm_ints (b4 _ _ hp13) (b3 _ _ k1) (by omega)) (.cons (sm_sum (hS14.same b5) (k2.same b3) (by rw [ed14, ed]) (by rw [(hcn ed14).2]; exact hL5) (fun r hr => ?_)) (.cons (sm_sum (hS16.same b7) (k3.same b3) d16 ?_ (fun r hr => ?_)) (.cons (sm_ints (s19 _ _ hp18) (b3 _ _ k4) (by rw [List.length_replicate]; omega)) .nil)))), fun H' s' => ?_⟩
        · have : r.d ∈ L14.map Trm.d := List.mem_map_of_mem hr
          rw [ed14] at this
          have := ((hG.less hms).1 _ this).1
          show r.d.1.length ≤ 1000
          omega
        · have := congrArg List.length d16
          rw [List.length_map, List.length_map] at this
          omega
        · have : r.d ∈ L16.map Trm.d := List.mem_map_of_mem hr
          rw [d16, ed] at this
          have := ((hG.less hms).1 _ this).1
          show r.d.1.length ≤ 1000
          omega
        · exact q _ (sAll.trans (b3.trans s'))
end
end K05
set_option Elab.async false
set_option linter.all false
set_option maxRecDepth 100000
namespace K05
open PySem PySem.Spec PyProof.Rows L2 R1 ZN LamX
theorem eqvAll_ints : ∀ ps : List Int, PyData.eqvAll (ps.map PyData.int) (ps.map PyData.int) = true
  | [] => by simp [PyData.eqvAll]
  | p :: ps => by simp [PyData.eqvAll, PyData.eqv, eqvAll_ints ps]
theorem eqv_intsL (ps : List Int) : PyData.eqv (.list (ps.map PyData.int)) (.list (ps.map PyData.int)) = true := by simp [PyData.eqv, eqvAll_ints ps]
theorem zer_twice (ps ns : List Int) : zer (ps ++ ps) ns = zer ps ns := by
  unfold zer
  congr 1
  funext j x
  have : ((j : Int) ∈ ps ++ ps) ↔ (j : Int) ∈ ps := by
    rw [List.mem_append]
    exact ⟨fun h => h.elim id id, .inl⟩
  by_cases h : (j : Int) ∈ ps
  · rw [if_pos h, if_pos (this.mpr h)]
  · rw [if_neg h, if_neg (fun z => h (this.mp z))]
theorem norm_perm {T D : Ts} (x : Norm T D) (h : Low T) (hn : NodupK T) : D.Perm T := by
  have nd2 : T.Nodup := List.Pairwise.imp (fun {a b} h e => h (by rw [e])) (List.pairwise_map.mp hn)
  have nd1 : D.Nodup := List.Pairwise.imp (fun {a b} (h : HT.lexLt a.1 b.1 = true) (e : a = b) => lex_ne h (by rw [e])) x.sorted
  exact (List.perm_ext_iff_of_nodup nd1 nd2).mpr fun q => (x.low h q).symm
/-- the same letters put to 1, before the sorting or behind it -/
theorem ones_same {T D E F : Ts} {ps : List Int} (x : Norm T D) (h : Low T) (hn : NodupK T) (y : Norm (gather (zer ps) [] T) E) (z : Norm (gather (zer ps) [] D) F) : F = E := by
  have n0 : NodupK ([] : Ts) := by simp [NodupK]
  refine Norm.unique (gather_nodup _ _ _ n0) (gather_nodup _ _ _ n0) (fun k => ?_) z y
  rw [val_gather, val_gather, tot_perm _ _ (norm_perm x h hn)]
section
variable {P : Program} {w : World} {K : PySem.W.Frag} {mg : Str → Option Value} {base : Heap} {f : Nat → Addr} {d : Nat → FuncData}
theorem Defs.ones {c Pt : Addr} (D : Defs K mg f d) (hc : (d 5).code = .ref c) (TB : TabB base mg c Pt) : FnOk P w K mg base CX0 5 (f 12) (d 12) ["one", "places"] (spOnes Pt) := ok_ones (k := 0) D.F12 D.F5 D.b5 D.g5 D.F4 D.b4 D.g4 D.sorted D.prog hc D.F25 D.b25 D.g25 TB
theorem Defs.lones (D : Defs K mg f d) : FnOk P w K mg base CX0 1 (f 20) (d 20) ["_law_terms_here", "_law_places_here"] spLOnes := ok_lones (k := 0) D.F20 D.list D.tuple
theorem Defs.letter (D : Defs K mg f d) : FnOk P w K mg base CX0 2 (f 9) (d 9) ["at", "many"] spLetter := ok_letter (k := 0) D.F9 D.F0 D.b0 D.g0 D.tuple D.range
def spAreOnes (Pt : Addr) : Sp := fun vs H Q _ => ∃ (t l : Addr) (m : Nat) (T : Ts) (ps : List Int), vs = [.ref t, .ref l] ∧ DictAt H t m T ∧ Low T ∧ T.length ≤ 100 ∧ 1 ≤ m ∧ m ≤ 12 ∧ H l = some (.lst (ps.map V.int)) ∧ ps.length ≤ 100 ∧ (∀ p ∈ ps, 0 ≤ p ∧ p < m) ∧ Tabs (T5 Pt) H ∧ ∀ H', ExtN H H' → Tabs (T5 Pt) H' → Q (.bl true) H'
abbrev nmAreOnes : List Str := ["_law_terms_here", "_law_places_here", "_law_one", "_law_given", "_law_due", "_law_told"]
theorem scAreOnes : FnScope nmAreOnes ["_law_terms_here", "_law_places_here"] (defScope sAreOnes) := ⟨rfl, rfl, rfl, by decide +kernel, rfl, by decide +kernel, by decide +kernel⟩
theorem ok_areOnes {fA c Pt : Addr} {fd : FuncData} (F : Fun K "_law_are_ones" "_law_are_ones" sAreOnes fA fd) (D : Defs K mg f d) (hc : (d 5).code = .ref c) (TB : TabB base mg c Pt) : FnOk P w K mg base CX0 7 fA fd ["_law_terms_here", "_law_places_here"] (spAreOnes Pt) := by
  have GS : FnOk P w K mg base CX0 6 (f 16) (d 16) ["_law_told", "_law_due"] (spSame 5) := D.same
  have GO : FnOk P w K mg base CX0 5 (f 12) (d 12) ["one", "places"] (spOnes Pt) := D.ones hc TB
  have GW : FnOk P w K mg base CX0 1 (f 17) (d 17) ["_law_terms_here"] spWritten := D.written
  have GE : FnOk P w K mg base CX0 1 (f 20) (d 20) ["_law_terms_here", "_law_places_here"] spLOnes := D.lones
  refine F.ok scAreOnes (fun vs H Q E h => ?_) (fun cdv A outer s H vs Q E hr h => ?_)
  · obtain ⟨l, m, _, D, _, rfl, _⟩ := h
    rfl
  · obtain ⟨t, l, m, T, ps, rfl, hT, hlow, hTl, hm1, hm2, hl, hps, hp, hTb, q⟩ := h
    have r1 := hr.mono (show 1 ≤ 6 by decide)
    have r4 := hr.mono (show 5 ≤ 6 by decide)
    refine ⟨_, pss_cons (ps_par (i := 2) (j := 3) (by rfl) scAreOnes.nd rfl rfl (by decide) rfl rfl (pa_cons (pe_call GW r1 (by rfl) D.g17 D.F17.kp D.b17 .nil pass0 (pa_cons (pv 0) pa_nil)) (pa_cons (pe_callTy call_list_of (by rfl) D.list (by decide +kernel) (pa_cons (pv 1) pa_nil)) pa_nil)) (by rfl))
      (pss_cons (ps_set (i := 4) scAreOnes.nd rfl (.inl rfl) (pe_call GW r1 (by rfl) D.g17 D.F17.kp D.b17 .nil pass0 (pa_cons (pe_call GE r1 (by rfl) D.g20 D.F20.kp D.b20 .nil pass0 (pa_cons (pv 0) (pa_cons (pv 1) pa_nil))) pa_nil)))
      (pss_cons (ps_set (i := 5) scAreOnes.nd rfl (.inl rfl) (pe_lst (pa_cons (pe_call GO r4 (by rfl) D.g12 D.F12.kp D.b12 .nil pass0 (pa_cons (pv 2) (pa_cons (pv 3) pa_nil)))
          (pa_cons (pe_callK0 GO r4 (by rfl) D.g12 D.F12.kp (kb_ones D.F12) pass0 (pk_cons (pv 3) (pk_cons (pv 2) pk_nil)))
          (pa_cons (pe_call GO r4 (by rfl) D.g12 D.F12.kp D.b12 .nil pass0 (pa_cons (pv 2) (pa_cons (pe_op op_cat (pv 3) (pv 3)) pa_nil))) pa_nil)))))
      (pss_one (ps_ret (pe_and (pe_call GS hr (by rfl) D.g16 D.F16.kp D.b16 .nil pass0 (pa_cons (pv 5) (pa_cons (pe_op op_rep (pe_lst (pa_cons (pv 4) pa_nil)) pe_int) pa_nil))) (pe_one (pe_cmpR (op_eqD hr.units) (pv 3) (pv 1) (nomark _)))))))), ?_⟩
    refine ⟨.ref t, rfl, t, m, T, rfl, hT, by omega, by omega, fun H1 o L s1 no hS hN hLl => ?_⟩
    have hG : Good m (L.map Trm.d) := hN.good hT.len
    have hl1 := s1 _ _ hl
    refine ⟨.ref l, rfl, l, _, rfl, .inl (sqlOf hl1), fun g ng => ⟨_, _, rfl, ?_⟩⟩
    have s2 := same_new (o := .lst (ps.map V.int)) ng
    have s12 := s1.trans s2
    refine ⟨.ref t, rfl, .ref l, rfl, t, l, m, T, ps, rfl, hT.same s12, by omega, by omega, s2 _ _ hl1, hp, fun H3 d' s3 nd' hD' => ?_⟩
    have gl := gather_len (zer ps) T []
    rw [List.length_nil] at gl
    refine ⟨d', m, _, rfl, hD', by omega, by omega, fun H4 u M s4 nu hM hNM hMl => ?_⟩
    have s34 := s3.trans s4
    have hS4 := (hS.same s2).same s34
    have hg4 := s34 _ _ (upd_same (H := H1) (a := g) (o := .lst (ps.map V.int)))
    have p0 : ∀ p ∈ ps, 0 ≤ p := fun p h => (hp p h).1
    have p1 : L ≠ [] → ∀ p ∈ ps, p < m := fun _ p h => (hp p h).2
    refine ⟨.ref o, rfl, .ref g, rfl, o, g, m, L, ps, rfl, hS4, by omega, by omega, by omega, hG, hg4, by omega, p0, p1, hTb.ext (s12.trans s34), fun H5 u5 M5 s5 T5_ hM5 hN5 hl5 => ?_⟩
    have nt : ∀ {xs : List V} (ps : Array Value), HO.lst xs ≠ .tbl ps := fun _ z => by cases z
    refine ⟨.ref g, rfl, .ref o, rfl, o, g, m, L, ps, rfl, hS4.ext s5, by omega, by omega, by omega, hG, s5 _ _ hg4 nt, by omega, p0, p1, T5_, fun H6 u6 M6 s6 T6_ hM6 hN6 hl6 => ?_⟩
    have s56 := s5.trans s6
    have hg6 := s56 _ _ hg4 nt
    refine ⟨.ref o, rfl, .ref g, rfl, .ref g, rfl, g, g, _, _, rfl, rfl, hg6, hg6, (by rw [List.length_map, sizeLine_eq]; omega), fun g2 ng2 => ?_⟩
    rw [← List.map_append]
    have s7 := same_new (o := .lst ((ps ++ ps).map V.int)) ng2
    refine ⟨o, g2, m, L, ps ++ ps, rfl, (hS4.ext s56).same s7, by omega, by omega, by omega, hG, upd_same, (by rw [List.length_append]; omega), (fun p h => (List.mem_append.mp h).elim (p0 p) (p0 p)), (fun z p h => (List.mem_append.mp h).elim (p1 z p) (p1 z p)), T6_.ext s7, fun H8 u8 M8 s8 T8_ hM8 hN8 hl8 => ?_⟩
    have hz8 : Norm (gather (zer ps) [] (L.map Trm.d)) (M8.map Trm.d) := by
      have : zer (ps ++ ps) = zer ps := funext fun ns => zer_twice ps ns
      rw [this] at hN8
      exact hN8
    refine ⟨(by rw [sizeLine_eq]; show 3 ≤ 16777216; decide), fun r nr => ?_⟩
    have s9 := same_new (o := .lst [.ref u5, .ref u6, .ref u8]) nr
    refine ⟨.ref r, rfl, .ref u, rfl, one1, fun v nv => ?_⟩
    have s10 := same_new (o := .lst [.ref u]) nv
    refine ⟨v, 3, [.ref u], rfl, rfl, upd_same, by decide, by decide, (by rw [sizeLine_eq]; show 3 ≤ 16777216; decide), fun v2 nv2 => ?_⟩
    have s11 := same_new (o := .lst [.ref u, .ref u, .ref u]) nv2
    have b11 := (s9.trans s10).trans s11
    have b8 := s8.trans (ExtN.of b11)
    have b7 := (ExtN.of s7).trans b8
    have b6 := s6.trans b7
    have b5 := s5.trans b6
    have hMs := hM.ext b5
    have rl : ∀ {M' : List Trm}, M'.map Trm.d = M.map Trm.d → M'.length ≤ 1000 ∧ ∀ x ∈ M', x.ns.length ≤ 1000 := fun {M'} e => by
      refine ⟨?_, fun x hx => ?_⟩
      · have := congrArg List.length e
        rw [List.length_map, List.length_map] at this
        omega
      · have hx2 : x.d ∈ M'.map Trm.d := List.mem_map_of_mem hx
        rw [e] at hx2
        have := (hNM.good hD'.len).1 _ hx2
        show x.d.1.length ≤ 1000
        omega
    have e5 := ones_same hN hlow hT.nodup hNM hN5
    have e6 := ones_same hN hlow hT.nodup hNM hN6
    have e8 := ones_same hN hlow hT.nodup hNM hz8
    refine ⟨.ref r, .ref v2, rfl, sm_lst ((s10.trans s11) _ _ upd_same) upd_same (by show 3 ≤ 1000; decide) (.cons (sm_sum (hM5.ext b6) hMs e5 (rl e5).1 (rl e5).2) (.cons (sm_sum (hM6.ext b7) hMs e6 (rl e6).1 (rl e6).2) (.cons (sm_sum (hM8.same b11) hMs e8 (rl e8).1 (rl e8).2) .nil))), fun H' s' => ⟨true, rfl, iteT ?_⟩⟩
    have sall : ExtN H H' := ((ExtN.of (s12.trans s34)).trans b5).trans (ExtN.of s')
    refine ⟨.ref g, rfl, .ref l, rfl, .list (ps.map .int), .list (ps.map .int), .lst (sqlOf ((b5.trans (ExtN.of s')) _ _ hg4 nt)) (dp_ints ps), .lst (sqlOf (sall _ _ hl nt)) (dp_ints ps), shaped_ints ps, shaped_ints ps, ?_⟩
    rw [eqv_intsL]
    exact q _ sall (T8_.ext (b11.trans s'))
end
end K05
set_option Elab.async false
set_option linter.all false
set_option maxRecDepth 100000
namespace K05
open PySem PySem.Spec PyProof.Rows L2 R1 ZN
theorem unit_split {i m : Nat} (h : i < m) : unit i m = List.replicate i 0 ++ [1] ++ List.replicate (m - 1 - i) 0 := by
  apply List.ext_getElem?
  intro j
  unfold unit
  rw [List.getElem?_map]
  by_cases hj : j < m
  · rw [List.getElem?_range hj]
    rcases Nat.lt_trichotomy j i with h1 | h1 | h1
    · rw [List.append_assoc, List.getElem?_append_left (by rw [List.length_replicate]; exact h1), List.getElem?_replicate, if_pos h1]
      show some (if (j : Int) = i then (1 : Int) else 0) = some 0
      rw [if_neg (by omega)]
    · subst h1
      rw [List.getElem?_append_left (by simp), List.getElem?_append_right (by simp), List.length_replicate, Nat.sub_self]
      show some (if (j : Int) = j then (1 : Int) else 0) = some 1
      rw [if_pos rfl]
    · rw [List.getElem?_append_right (by simp; omega), List.getElem?_replicate, if_pos (by simp; omega)]
      show some (if (j : Int) = i then (1 : Int) else 0) = some 0
      rw [if_neg (by omega)]
  · rw [List.getElem?_eq_none (by rw [List.length_range]; omega), List.getElem?_eq_none (by simp; omega)]
    rfl
theorem rep_flat2 {m : Nat} : (List.replicate m [V.int 0]).flatten = (List.replicate m (0 : Int)).map V.int := by
  have := rep_flat (m := m)
  rw [Int.toNat_natCast] at this
  exact this
/-- sums at a row of addresses -/
def SumsAt (H : Hp) (m : Nat) (ts : List Addr) : Prop := ∀ (j : Nat) (t : Addr), ts[j]? = some t → ∃ M, SumAt H t M ∧ M.map Trm.d = [(unit j m, 1)]
theorem SumAt.keepT {H H' : Hp} {t : Addr} {L : List Trm} (h : SumAt H t L) (k : KeepT H H') : SumAt H' t L := ⟨k _ _ h.at_, h.rows.keep k⟩
theorem SumsAt.keepT {H H' : Hp} {m : Nat} {ts : List Addr} (h : SumsAt H m ts) (k : KeepT H H') : SumsAt H' m ts := fun j t e => by
  obtain ⟨M, a, b⟩ := h j t e
  exact ⟨M, a.keepT k, b⟩
theorem keepT_list {H : Hp} {D : Addr} {xs ys : List V} (h : H D = some (.lst xs)) : KeepT H (upd H D (.lst ys)) := fun b zs e => by
  rw [upd_ne (ne_of e h (by intro z; cases z))]
  exact e
theorem keepT_tr {H H1 H2 : Hp} (x : R1.KeepT H H1) (y : R1.KeepT H1 H2) : R1.KeepT H H2 := fun b xs e => y _ _ (x _ _ e)
theorem SumsAt.snoc {H : Hp} {m : Nat} {ts : List Addr} {t : Addr} {M : List Trm} (h : SumsAt H m ts) (hM : SumAt H t M) (e : M.map Trm.d = [(unit ts.length m, 1)]) : SumsAt H m (ts ++ [t]) := fun j u hj => by
  by_cases hlt : j < ts.length
  · rw [List.getElem?_append_left hlt] at hj
    exact h j u hj
  · rw [List.getElem?_append_right (by omega)] at hj
    have h0 : j - ts.length = 0 := by
      have := (List.getElem?_eq_some_iff.mp hj).1
      simp at this
      omega
    rw [h0] at hj
    cases (Option.some.inj hj : t = u)
    have : j = ts.length := by omega
    rw [this]
    exact ⟨M, hM, e⟩
theorem unit_len {i : Int} {m : Nat} : (unit i m).length = m := by simp [unit]
theorem sm_unit {H : Hp} {n m : Nat} {a b : Addr} {M N : List Trm} {i : Int} (h1 : SumAt H a M) (h2 : SumAt H b N) (e1 : M.map Trm.d = [(unit i m, 1)]) (e2 : N.map Trm.d = [(unit i m, 1)]) (hm : m ≤ 1000) : Sm H (n + 3) (.ref a) (.ref b) := by
  refine sm_sum h1 h2 (e1.trans e2.symm) ?_ fun r hr => ?_
  · have := congrArg List.length e1
    simp at this
    omega
  · have : r.d ∈ M.map Trm.d := List.mem_map_of_mem hr
    rw [e1] at this
    have := List.mem_singleton.mp this
    show r.d.1.length ≤ 1000
    rw [this, unit_len]
    exact hm
section
variable {P : Program} {w : World} {K : PySem.W.Frag} {mg : Str → Option Value} {base : Heap} {f : Nat → Addr} {d : Nat → FuncData}
def spAreLetters : Sp := fun vs H Q _ => ∃ (m : Nat), vs = [.int m] ∧ 1 ≤ m ∧ m ≤ 12 ∧ ∀ H', Same H H' → Q (.bl true) H'
abbrev nmAreLetters : List Str := ["_law_many", "_law_due", "_law_at", "_law_powers"]
theorem scAreLetters : FnScope nmAreLetters ["_law_many"] (defScope sAreLetters) := ⟨rfl, rfl, rfl, by decide +kernel, rfl, by decide +kernel, by decide +kernel⟩
theorem ok_areLetters {fA : Addr} {fd : FuncData} (F : Fun K "_law_are_letters" "_law_are_letters" sAreLetters fA fd) (D : Defs K mg f d) : FnOk P w K mg base CX0 7 fA fd ["_law_many"] spAreLetters := by
  have GS : FnOk P w K mg base CX0 6 (f 16) (d 16) ["_law_told", "_law_due"] (spSame 5) := D.same
  have GL : FnOk P w K mg base CX0 2 (f 9) (d 9) ["at", "many"] spLetter := D.letter
  refine F.ok scAreLetters (fun vs H Q E h => ?_) (fun cdv A outer s H vs Q E hr h => ?_)
  · obtain ⟨m, rfl, _⟩ := h
    rfl
  · obtain ⟨m, rfl, hm1, hm2, q⟩ := h
    have r2 := hr.mono (show 2 ≤ 6 by decide)
    refine ⟨_, pss_cons (ps_set (i := 1) scAreLetters.nd rfl (.inl rfl) (pe_lst pa_nil))
      (pss_cons (ps_for PassesOwn.never rfl (pi_range1 rfl D.range (pa_cons (pv 0) pa_nil)) (pg_name (i := 2) scAreLetters.nd rfl (.inl rfl))
        (pss_cons (ps_set (i := 3) scAreLetters.nd rfl (.inl rfl) (pe_callTy call_tuple_of (by rfl) D.tuple (by decide +kernel) (pa_cons (pe_op op_cat (pe_op op_cat (pe_op op_rep (pe_lst (pa_cons pe_int pa_nil)) (pv 2)) (pe_lst (pa_cons pe_int pa_nil))) (pe_op op_rep (pe_lst (pa_cons pe_int pa_nil)) (pe_op op_sub (pe_op op_sub (pv 0) pe_int) (pv 2)))) pa_nil)))
        (pss_one (ps_expr (pe_bm PySem.F.plainAttrs_list PySem.F.slot_list_append PySem.F.type_list_append mt_append (pv 1) (pa_cons (pe_tup (pa_cons (pe_tup (pa_cons (pv 3) (pa_cons pe_int pa_nil))) pa_nil)) pa_nil))))))
      (pss_cons (ps_if (pt_not (pt_val (pe_call GS hr (by rfl) D.g16 D.F16.kp D.b16 .nil pass0 (pa_cons (pe_lc (own := [("_law_at", 2)]) (g := gName 2) (by rfl) scAreLetters.nd (pi_range1 rfl D.range (pa_cons (pv 0) pa_nil)) (blkOk_by (own := [("_law_at", 2)]) (N := nmAreLetters) (sc := defScope sAreLetters) (by decide +kernel))
          (fun _ _ _ _ _ => pg_name (i := 2) scAreLetters.nd rfl (.inl rfl)) (fun _ _ _ _ _ => pts_nil) (fun _ _ _ _ _ => pe_call GL r2 (by rfl) D.g9 D.F9.kp D.b9 .nil pass0 (pa_cons (pv 2) (pa_cons (pv 0) pa_nil)))) (pa_cons (pv 1) pa_nil))))) pss_never pss_nil)
      (pss_one (ps_ret (pe_call GS hr (by rfl) D.g16 D.F16.kp D.b16 .nil pass0 (pa_cons (pe_callK0 GL r2 (by rfl) D.g9 D.F9.kp (kb_letter D.F9) pass0 (pk_cons (pv 0) (pk_cons (pe_op op_sub (pv 0) pe_int) pk_nil))) (pa_cons (pe_ix ix_list (pv 1) (pe_un un_neg pe_int) (fun _ _ => rfl)) pa_nil))))))), ?_⟩
    refine ⟨Nat.zero_le _, fun du ndu => ?_⟩
    have s0 : Same H (upd H du (.lst [])) := same_new ndu
    refine ⟨.int m, rfl, m, rfl, by omega, by omega, for_range (n := m) (fun i σ H' => ∃ y2 y3, ∃ ts : List Addr, σ = [some (.int m), some (.ref du), y2, y3] ∧ H' du = some (.lst (ts.map V.ref)) ∧ ts.length = i ∧ SumsAt H' m ts ∧ But du H H')
      ⟨none, none, [], rfl, upd_same, rfl, (fun j t h => by simp at h), But.start⟩ (fun i σ H1 hi h => ?_) (fun σ H1 h => ?_)⟩
    · obtain ⟨y2, y3, ts, rfl, hdu, hts, hS, kp⟩ := h
      refine ⟨one1, fun z1 nz1 => ?_⟩
      have s1 := same_new (o := .lst [.int 0]) nz1
      refine ⟨.int (0 + i), rfl, z1, 0 + i, [.int 0], rfl, rfl, upd_same, by omega, by omega, (by rw [sizeLine_eq]; show 1 * (0 + (i : Int)).toNat ≤ 16777216; omega), fun z2 nz2 => ?_⟩
      rw [show ((0 : Int) + i).toNat = i by omega, rep_flat2]
      have s2 := same_new (o := .lst ((List.replicate i (0 : Int)).map V.int)) nz2
      refine ⟨one1, fun z3 nz3 => ?_⟩
      have s3 := same_new (o := .lst [.int 1]) nz3
      refine ⟨z2, z3, _, _, rfl, rfl, s3 _ _ upd_same, upd_same, (by rw [List.length_map, List.length_replicate, sizeLine_eq]; show i + 1 ≤ 16777216; omega), fun z4 nz4 => ?_⟩
      have s4 := same_new (o := .lst ((List.replicate i (0 : Int)).map V.int ++ [.int 1])) nz4
      refine ⟨one1, fun z5 nz5 => ?_⟩
      have s5 := same_new (o := .lst [.int 0]) nz5
      refine ⟨.int m, rfl, m, 1, rfl, rfl, .int (0 + i), rfl, (m : Int) - 1, 0 + i, rfl, rfl, z5, (m : Int) - 1 - (0 + i), [.int 0], rfl, rfl, upd_same, by omega, by omega, (by rw [sizeLine_eq]; show 1 * ((m : Int) - 1 - (0 + (i : Int))).toNat ≤ 16777216; omega), fun z6 nz6 => ?_⟩
      rw [show ((m : Int) - 1 - (0 + i)).toNat = m - 1 - i by omega, rep_flat2]
      have s6 := same_new (o := .lst ((List.replicate (m - 1 - i) (0 : Int)).map V.int)) nz6
      refine ⟨z4, z6, _, _, rfl, rfl, (s5.trans s6) _ _ upd_same, upd_same, (by rw [List.length_append, List.length_map, List.length_map, List.length_replicate, List.length_replicate, sizeLine_eq]; show i + 1 + (m - 1 - i) ≤ 16777216; omega), fun z7 nz7 => ?_⟩
      have eu : (List.replicate i (0 : Int)).map V.int ++ [V.int 1] ++ (List.replicate (m - 1 - i) (0 : Int)).map V.int = (unit i m).map V.int := by
        rw [unit_split hi, List.map_append, List.map_append]
        rfl
      rw [eu]
      have s7 := same_new (o := .lst ((unit i m).map V.int)) nz7
      refine ⟨z7, _, rfl, .inl ⟨sqlOf upd_same, fun p np => ?_⟩⟩
      have s8 := same_new (o := .tup ((unit i m).map V.int)) np
      have a8 := ((((((s1.trans s2).trans s3).trans s4).trans s5).trans s6).trans s7).trans s8
      refine ⟨.ref du, rfl, .inl ⟨rfl, _, sqlOf (a8 _ _ hdu)⟩, .ref p, rfl, size2', fun t nt => ⟨one1, fun u nu => ?_⟩⟩
      have s9 := same_new (o := .tup [.ref p, .int 1]) nt
      have s10 := same_new (o := .tup [.ref t]) nu
      have a10 := (a8.trans s9).trans s10
      have hdu10 := a10 _ _ hdu
      refine ⟨du, _, .ref u, rfl, rfl, hdu10, (by rw [List.length_map, sizeLine_eq]; omega), _, _, ts ++ [u], rfl, (by rw [upd_same, List.map_append]; rfl), by rw [List.length_append, hts]; rfl, ?_, kp.step a10⟩
      refine SumsAt.snoc (M := [⟨t, p, unit i m, 1⟩]) (hS.keepT (keepT_tr (same_keepT a10) (keepT_list hdu10))) (SumAt.keepT ⟨upd_same, fun r hr => ?_⟩ (keepT_list hdu10)) (by rw [hts]; rfl)
      rw [List.mem_singleton.mp hr]
      exact ⟨s10 _ _ upd_same, (s9.trans s10) _ _ upd_same⟩
    · obtain ⟨y2, y3, ts, rfl, hdu, hts, hS, kp⟩ := h
      have s1 : Same H H1 := kp.same ndu
      refine ⟨.int m, rfl, m, rfl, by omega, by omega, fun E nE => ?_⟩
      refine lc_range (lo := 0) (n := m) (fun i H' => ∃ us : List Addr, H' E = some (.lst (us.map V.ref)) ∧ us.length = i ∧ SumsAt H' m us ∧ But E H1 H') ⟨[], upd_same, rfl, (fun j t h => by simp at h), But.start⟩ (fun i H2 hi h => ?_) (fun H2 h => ?_)
      · obtain ⟨us, hE, hul, hU, kp2⟩ := h
        refine ⟨rfl, .int (0 + i), rfl, .int m, rfl, 0 + i, m, rfl, by omega, by omega, by omega, fun H3 u M s3 _ hM eM => ?_⟩
        have hE3 := s3 _ _ hE
        refine ⟨_, hE3, (by rw [List.length_map, sizeLine_eq]; omega), us ++ [u], (by rw [upd_same, List.map_append]; rfl), by rw [List.length_append, hul]; rfl, ?_, kp2.step s3⟩
        refine SumsAt.snoc (hU.keepT (keepT_tr (same_keepT s3) (keepT_list hE3))) (hM.keepT (keepT_list hE3)) ?_
        rw [eM, hul, show ((0 : Int) + i) = (i : Int) by omega]
      · obtain ⟨us, hE, hul, hU, kp2⟩ := h
        have s2 := kp2.same nE
        have hdu2 := s2 _ _ hdu
        have hS2 := hS.keepT (same_keepT s2)
        have hpair : ∀ (j : Nat) (x y : V), (us.map V.ref)[j]? = some x → (ts.map V.ref)[j]? = some y → Sm H2 3 x y := fun j x y e1 e2 => by
          rw [List.getElem?_map] at e1 e2
          obtain ⟨a, a1, rfl⟩ := Option.map_eq_some_iff.mp e1
          obtain ⟨b, b1, rfl⟩ := Option.map_eq_some_iff.mp e2
          obtain ⟨M, hM, eM⟩ := hU j a a1
          obtain ⟨N, hN, eN⟩ := hS2 j b b1
          exact sm_unit hM hN eM eN (by omega)
        refine ⟨.ref du, rfl, .ref E, .ref du, rfl, .lst hE hdu2 (by rw [List.length_map, List.length_map, hul, hts]) (by rw [List.length_map]; omega) hpair, fun H3 s3 => ⟨true, rfl, iteF ?_⟩⟩
        have hdu3 := s3 _ _ hdu2
        have hS3 := hS2.keepT (same_keepT s3)
        refine ⟨.int m, rfl, .int m, rfl, m, 1, rfl, rfl, (m : Int) - 1, m, rfl, by omega, by omega, by omega, fun H4 u M s4 _ hM eM => ?_⟩
        obtain ⟨ts', tl, rfl⟩ : ∃ ts' tl, ts = ts' ++ [tl] := by
          have hne : ts ≠ [] := fun z => by
            rw [z] at hts
            simp at hts
            omega
          exact ⟨ts.dropLast, ts.getLast hne, (List.dropLast_concat_getLast hne).symm⟩
        have htl : ts'.length = m - 1 := by
          rw [List.length_append] at hts
          simp at hts
          omega
        obtain ⟨N, hN, eN⟩ := hS3 ts'.length tl (by rw [List.getElem?_append_right (Nat.le_refl _)]; simp)
        have hdu4 := s4 _ _ hdu3
        rw [List.map_append] at hdu4
        rw [htl, show ((m - 1 : Nat) : Int) = (m : Int) - 1 by omega] at eN
        refine ⟨.ref du, rfl, 1, rfl, du, _, _, .ref tl, rfl, rfl, sqlOf hdu4, atI_last _ _, .ref u, .ref tl, rfl, sm_unit (n := 1) hM (hN.same s4) eM eN (by omega), fun H5 s5 => ?_⟩
        exact q _ ((((s1.trans s2).trans s3).trans s4).trans s5)
end
end K05
set_option Elab.async false
set_option linter.all false
set_option maxRecDepth 100000
namespace K05
open PySem PySem.Spec PyProof.Rows L2 R1 ZN LamX
theorem codeO_ext {c : Addr} {q : Str} : ∃ p, CodeO c q = .ext p := ⟨_, rfl⟩
theorem tabs_gen {T : List (Addr × Str)} {H H' : Hp} (h : Tabs T H) (k : ∀ b o, H b = some o → (∀ xs, o ≠ .lst xs) → (∀ kvs, o ≠ .dT kvs) → H' b = some o) : Tabs T H' := fun p hp => by
  obtain ⟨ps, h1, h2, h3⟩ := h p hp
  refine ⟨ps, k _ _ h1 (fun _ z => by cases z) (fun _ z => by cases z), h2, fun pos cv hc => ?_⟩
  obtain ⟨c, e1, e2⟩ := h3 pos cv hc
  refine ⟨c, e1, k _ _ e2 (fun _ z => ?_) (fun _ z => ?_)⟩
  · obtain ⟨p, e⟩ := codeO_ext (c := c) (q := p.2)
    rw [e] at z
    cases z
  · obtain ⟨p, e⟩ := codeO_ext (c := c) (q := p.2)
    rw [e] at z
    cases z
theorem not_lst {H : Hp} {a b : Addr} {o : HO} {xs : List V} (e : H b = some o) (ha : H a = some (.lst xs)) (n : ∀ xs, o ≠ .lst xs) : b ≠ a := fun z => by
  rw [z, ha] at e
  cases e
  exact n _ rfl
theorem not_dT {H : Hp} {a b : Addr} {o : HO} {kvs : List (List Key × V)} (e : H b = some o) (ha : H a = some (.dT kvs)) (n : ∀ xs, o ≠ .dT xs) : b ≠ a := fun z => by
  rw [z, ha] at e
  cases e
  exact n _ rfl
theorem tabs_keep {T : List (Addr × Str)} {H H' : Hp} {a c : Addr} {n : Nat} (h : Tabs T H) (S : Stock H a c n) (k : Keep a c H H') : Tabs T H' := by
  obtain ⟨_, _, _, _, ha, hc, _⟩ := S.ex
  exact tabs_gen h fun b o e n1 _ => k b o (not_lst e ha n1) (not_lst e hc n1) e
theorem Stock.ext {H H' : Hp} {a c : Addr} {n : Nat} (h : Stock H a c n) (s : ExtN H H') : Stock H' a c n := by
  obtain ⟨hne, cs, x, y, z, h1, h2, h3⟩ := h
  exact ⟨hne, cs, x, y, z, s _ _ h1 (fun _ z => by cases z), s _ _ h2 (fun _ z => by cases z), h3⟩
theorem DictAt.ext {H H' : Hp} {d : Addr} {m : Nat} {D : Ts} (h : DictAt H d m D) (s : ExtN H H') : DictAt H' d m D := ⟨s _ _ h.at_ (fun _ z => by cases z), h.nodup, h.len⟩
theorem size3 {a b c : V} : [a, b, c].length ≤ sizeLine := by
  rw [sizeLine_eq]
  show 3 ≤ 16777216
  decide
abbrev nmLaw : List Str := ["_law_script", "_law_stock_here", "_law_turn", "_law_many", "_law_way", "_law_span", "_law_great", "_law_terms_here", "_law_places_here", "_law_powers", "_law_key", "_law_k"]
theorem scLaw : FnScope nmLaw ["_law_script"] (defScope sLaw) := ⟨rfl, rfl, rfl, by decide +kernel, rfl, by decide +kernel, by decide +kernel⟩
theorem rgV_ints (m : Nat) : rgV 0 (m : Int) = ((List.range m).map fun (i : Nat) => (i : Int)).map V.int := by
  unfold rgV
  rw [List.map_map, show ((m : Int) - 0).toNat = m by omega]
  refine List.map_congr_left fun i _ => ?_
  show V.int (0 + (i : Nat)) = V.int i
  rw [Int.zero_add]
section
variable {P : Program} {w : World} {K : PySem.W.Frag} {mg : Str → Option Value} {base : Heap} {f : Nat → Addr} {d : Nat → FuncData}
def spLaw (K : PySem.W.Frag) (Pt : Addr) : Sp := fun vs H Q _ => ∃ (a : Addr) (ns : List Int), vs = [.ref a] ∧ SqL K H a (ns.map V.int) ∧ ns.length ≤ 63 ∧ Tabs (T5 Pt) H ∧ ∀ H', Q (.bl true) H'
theorem ok_law {fA c5 Pt : Addr} {fd : FuncData} (F : Fun K "law" "law" sLaw fA fd) (D : Defs K mg f d) (hc : (d 5).code = .ref c5) (TB : TabB base mg c5 Pt) : FnOk P w K mg base CX0 8 fA fd ["_law_script"] (spLaw K Pt) := by
  have GSt : FnOk P w K mg base CX0 1 (f 13) (d 13) ["_law_script"] (spStock K) := ok_stock (k := 0) D.F13 D.int
  have GP : FnOk P w K mg base CX0 1 (f 14) (d 14) ["_law_stock_here", "_law_limit"] spPick := ok_pick (k := 0) D.F14 D.int
  have GT : FnOk P w K mg base CX0 3 (f 18) (d 18) ["_law_stock_here", "_law_many", "_law_most", "_law_span", "_law_great"] spTerms := ok_terms (k := 0) D.F18 D.F14 D.b14 D.g14 D.F15 D.b15 D.g15 D.int D.range D.tuple
  have GX : FnOk P w K mg base CX0 2 (f 23) (d 23) ["_law_stock_here", "_law_many"] spPlaces := ok_places (k := 0) D.F23 D.F14 D.b14 D.g14 D.int D.range
  have GF : FnOk P w K mg base CX0 7 (f 21) (d 21) ["_law_terms_here", "_law_many"] spIsFreed := ok_isFreed D.F21 D
  have GA : FnOk P w K mg base CX0 7 (f 22) (d 22) ["_law_terms_here", "_law_places_here"] (spAreOnes Pt) := ok_areOnes D.F22 D hc TB
  have GL : FnOk P w K mg base CX0 7 (f 24) (d 24) ["_law_many"] spAreLetters := ok_areLetters D.F24 D
  have GS : FnOk P w K mg base CX0 6 (f 16) (d 16) ["_law_told", "_law_due"] (spSame 5) := D.same
  have GO : FnOk P w K mg base CX0 5 (f 12) (d 12) ["one", "places"] (spOnes Pt) := D.ones hc TB
  refine F.ok scLaw (fun vs H Q E h => ?_) (fun cdv A outer s H vs Q E hr h => ?_)
  · obtain ⟨a, ns, rfl, _⟩ := h
    rfl
  · obtain ⟨sc, ns, rfl, hS, hlen, hTb, q⟩ := h
    have hu := hu_of hr
    have r1 := hr.mono (show 1 ≤ 7 by decide)
    have r2 := hr.mono (show 2 ≤ 7 by decide)
    have r3 := hr.mono (show 3 ≤ 7 by decide)
    have r4 := hr.mono (show 5 ≤ 7 by decide)
    have r6 := hr.mono (show 6 ≤ 7 by decide)
    refine ⟨_, pss_cons (ps_set (i := 1) scLaw.nd rfl (.inr rfl) (pe_call GSt r1 (by rfl) D.g13 D.F13.kp D.b13 .nil pass0 (pa_cons (pv 0) pa_nil)))
      (pss_cons (ps_for PassesOwn.never rfl (pi_range1 rfl D.range (pa_cons pe_int pa_nil)) (pg_name (i := 2) scLaw.nd rfl (.inl rfl))
        (pss_cons (ps_par (i := 3) (j := 4) (by rfl) scLaw.nd rfl rfl (by decide) rfl rfl (pa_cons (pe_op op_add pe_int (pe_call GP r1 (by rfl) D.g14 D.F14.kp D.b14 .nil pass0 (pa_cons (pv 1) (pa_cons pe_int pa_nil)))) (pa_cons (pe_call GP r1 (by rfl) D.g14 D.F14.kp D.b14 .nil pass0 (pa_cons (pv 1) (pa_cons pe_int pa_nil))) pa_nil)) (by rfl))
        (pss_cons (ps_par (i := 5) (j := 6) (by rfl) scLaw.nd rfl rfl (by decide) rfl rfl (pa_cons (pe_ix ix_list (pe_lst (pa_cons pe_int (pa_cons pe_int (pa_cons pe_int pa_nil)))) (pe_call GP r1 (by rfl) D.g14 D.F14.kp D.b14 .nil pass0 (pa_cons (pv 1) (pa_cons pe_int pa_nil))) (fun _ _ => rfl))
            (pa_cons (pe_ix ix_list (pe_lst (pa_cons pe_int (pa_cons (pe_op op_sub (pe_op op_pow pe_int pe_int) pe_int) pa_nil))) (pe_call GP r1 (by rfl) D.g14 D.F14.kp D.b14 .nil pass0 (pa_cons (pv 1) (pa_cons pe_int pa_nil))) (fun _ _ => rfl)) pa_nil)) (by rfl))
        (pss_cons (ps_set (i := 7) scLaw.nd rfl (.inl rfl) (pe_call GT r3 (by rfl) D.g18 D.F18.kp D.b18 .nil pass0 (pa_cons (pv 1) (pa_cons (pv 3) (pa_cons pe_int (pa_cons (pv 5) (pa_cons (pv 6) pa_nil)))))))
        (pss_cons (ps_set (i := 8) scLaw.nd rfl (.inl rfl) (pe_call GX r2 (by rfl) D.g23 D.F23.kp D.b23 .nil pass0 (pa_cons (pv 1) (pa_cons (pv 3) pa_nil))))
        (Evl.pss_cut (ps_if (PW.pt (pw_and (pt_cmpR op_lt (pv 4) pe_int (nomark _)) (pw_and (pt_cmpR (op_neD hr.units) (pv 8) (pe_lst pa_nil) (nomark _)) (pw_and1 (pt_cmpR (op_neD0 (Nat.lt_of_succ_lt hu)) (pv 7) pe_dnewT (nomark _))))))
          (pss_cons (ps_set (i := 9) scLaw.nd rfl (.inl rfl) (pe_ix ix_list (pe_callB (cr_sortedDT rfl) (by rfl) D.sorted (by decide +kernel) (pa_cons (pv 7) pa_nil)) (pe_call GP r1 (by rfl) D.g14 D.F14.kp D.b14 .nil pass0 (pa_cons (pv 1) (pa_cons (pe_callB call_len_dT (by rfl) D.len PySem.boot_len (pa_cons (pv 7) pa_nil)) pa_nil))) (fun _ _ => rfl)))
          (pss_cons (ps_set (i := 10) scLaw.nd rfl (.inl rfl) (pe_callTy call_list_of (by rfl) D.list (by decide +kernel) (pa_cons (pv 9) pa_nil)))
          (pss_cons (ps_asg (pe_ix ix_list (pe_lst (pa_cons pe_int (pa_cons (pe_un un_neg pe_int) pa_nil))) (pv 4) (fun _ _ => rfl)) (pg_sub (pv 10) (pe_ix ix_list (pv 8) pe_int (fun _ _ => rfl)) set_list))
          (pss_one (ps_dput hu (pv 7) (pe_callTy call_tuple_of (by rfl) D.tuple (by decide +kernel) (pa_cons (pv 10) pa_nil)) (pe_op op_sub pe_int (pe_dget hu (pv 7) (pv 9) (fun _ _ => rfl))) rfl))))) pss_nil)
        (pss_cons (ps_if (PW.pt (pw_or (pt_not (pt_val (pe_call GF hr (by rfl) D.g21 D.F21.kp D.b21 .nil pass0 (pa_cons (pv 7) (pa_cons (pv 3) pa_nil))))) (pw_or1 (pt_not (pt_val (pe_call GA hr (by rfl) D.g22 D.F22.kp D.b22 .nil pass0 (pa_cons (pv 7) (pa_cons (pv 8) pa_nil)))))))) pss_never pss_nil)
        (pss_cons (ps_if (pt_not (pt_val (pe_call GA hr (by rfl) D.g22 D.F22.kp D.b22 .nil pass0 (pa_cons (pv 7) (pa_cons (pe_listRg rfl (by rfl) D.list (prg_1 (by rfl) D.range (pv 3))) pa_nil))))) pss_never pss_nil)
        (pss_one (ps_if (pt_not (pt_val (pe_call GS r6 (by rfl) D.g16 D.F16.kp D.b16 .nil pass0 (pa_cons (pe_call GO r4 (by rfl) D.g12 D.F12.kp D.b12 .nil pass0 (pa_cons (pe_tup pa_nil) (pa_cons (pe_lc (own := [("_law_k", 11)]) (g := gName 11) (by rfl) scLaw.nd (pi_range1 rfl D.range (pa_cons (pe_call GP r1 (by rfl) D.g14 D.F14.kp D.b14 .nil pass0 (pa_cons (pv 1) (pa_cons pe_int pa_nil))) pa_nil)) (blkOk_by (own := [("_law_k", 11)]) (N := nmLaw) (sc := defScope sLaw) (by decide +kernel))
            (fun _ _ _ _ _ => pg_name (i := 11) scLaw.nd rfl (.inl rfl)) (fun _ _ _ _ _ => pts_nil) (fun _ _ _ _ _ => pe_call GP r1 (by rfl) D.g14 D.F14.kp D.b14 .nil pass0 (pa_cons (pv 1) (pa_cons pe_int pa_nil)))) pa_nil))) (pa_cons (pe_tup pa_nil) pa_nil))))) pss_never pss_nil))))))))))
      (pss_one (ps_ret (pe_and (pe_call GF hr (by rfl) D.g21 D.F21.kp D.b21 .nil pass0 (pa_cons pe_dnewT (pa_cons pe_int pa_nil))) (pe_and (pe_call GL hr (by rfl) D.g24 D.F24.kp D.b24 .nil pass0 (pa_cons (pe_op op_add pe_int (pe_call GP r1 (by rfl) D.g14 D.F14.kp D.b14 .nil pass0 (pa_cons (pv 1) (pa_cons pe_int pa_nil)))) pa_nil)) (pe_one (pe_call GL hr (by rfl) D.g24 D.F24.kp D.b24 .nil pass0 (pa_cons pe_int pa_nil)))))))), ?_⟩
    refine ⟨.ref sc, rfl, sc, ns, rfl, hS, hlen, fun H1 a c S1 sm1 => ?_⟩
    refine ⟨8, rfl, by decide, by decide, for_range (n := 8) (fun i σ H' => ∃ y2 y3 y4 y5 y6 y7 y8 y9 y10, σ = [some (.ref sc), some (.ref a), y2, y3, y4, y5, y6, y7, y8, y9, y10, none] ∧ Stock H' a c (400 * i) ∧ Tabs (T5 Pt) H')
      ⟨none, none, none, none, none, none, none, none, none, rfl, S1, hTb.ext sm1⟩ (fun i σ H2 hi h => ?_) (fun σ H2 h => ?_)⟩
    · obtain ⟨y2, y3, y4, y5, y6, y7, y8, y9, y10, rfl, S2, TT2⟩ := h
      refine ⟨.ref a, rfl, a, c, _, 6, rfl, S2, by omega, by decide, by decide, fun H3 r3 S3 k3 r30 r31 => ⟨1, r3, rfl, rfl, .ref a, rfl, a, c, _, 4, rfl, S3, by omega, by decide, by decide, fun H4 way S4 k4 w0 w1 => ⟨_, _, rfl, ?_⟩⟩⟩
      obtain ⟨m, hm⟩ : ∃ m : Nat, 1 + r3 = (m : Int) := ⟨(1 + r3).toNat, by omega⟩
      dsimp only
      rw [hm]
      have hm1 : 1 ≤ m := by omega
      have hm2 : m ≤ 12 := by omega
      refine ⟨size3, fun p5 np5 => ?_⟩
      have S5 := S4.new (o := .lst [.int 1, .int 12, .int 3]) np5
      have ap5 := S4.fresh np5
      refine ⟨.ref a, rfl, a, c, _, 3, rfl, S5, by omega, by decide, by decide, fun H5 r5 S5' k5 u0 u1 => ?_⟩
      obtain ⟨sp, hsp, hsp2⟩ := pick3 (x := 1) (y := 12) (z := 3) u0 u1
      refine ⟨p5, _, r5, .int sp, rfl, rfl, sqlOf (k5 p5 _ ap5.1 ap5.2 upd_same), hsp, ?_⟩
      refine ⟨10, 30, rfl, rfl, ⟨by decide, by decide, by decide⟩, _, 1, rfl, rfl, size2', fun p6 np6 => ?_⟩
      have S6 := S5'.new (o := .lst [.int 2, .int ((10 : Int) ^ (30 : Int).toNat - 1)]) np6
      have ap6 := S5'.fresh np6
      refine ⟨.ref a, rfl, a, c, _, 2, rfl, S6, by omega, by decide, by decide, fun H6 r6 S6' k6 v0 v1 => ?_⟩
      obtain ⟨g, hg, hg2⟩ := pick2 (x := 2) (y := (10 : Int) ^ (30 : Int).toNat - 1) v0 v1
      have e30 : (10 : Int) ^ (30 : Int).toNat = 1000000000000000000000000000000 := by decide
      refine ⟨p6, _, r6, .int g, rfl, rfl, sqlOf (k6 p6 _ ap6.1 ap6.2 upd_same), hg, _, _, rfl, ?_⟩
      refine ⟨.ref a, rfl, .int m, rfl, .int sp, rfl, .int g, rfl, a, c, _, m, sp, g, rfl, S6', by omega, hm1, hm2, by omega, by omega, by omega, fun H7 t T S7 k7 nt hT hlow hTl => ?_⟩
      have at7 := S6'.fresh nt
      refine ⟨.ref a, rfl, .int m, rfl, a, c, _, m, rfl, S7, by omega, hm1, hm2, fun H8 l ps S8 k8 nl hl hpl hp => ?_⟩
      have al8 := S7.fresh nl
      have TT8 : Tabs (T5 Pt) H8 := tabs_keep TT2 S2 (((((((k3.trans k4).trans (Keep.new np5)).trans k5).trans (Keep.new np6)).trans k6).trans k7).trans k8)
      have hT8 : DictAt H8 t m T := ⟨k8 t _ at7.1 at7.2 hT.at_, hT.nodup, hT.len⟩
      refine ⟨fun σ' H' => ∃ y9 y10 T', σ' = [some (.ref sc), some (.ref a), some (.int (0 + i)), some (.int m), some (.int way), some (.int sp), some (.int g), some (.ref t), some (.ref l), y9, y10, none] ∧ Stock H' a c (400 * i + 300) ∧ DictAt H' t m T' ∧ Low T' ∧ T'.length ≤ 11 ∧ H' l = some (.lst (ps.map V.int)) ∧ Tabs (T5 Pt) H', ?_, ?_⟩
      · refine ⟨.int way, rfl, way, 2, rfl, rfl, _, rfl, ite2 (fun ew => ?_) (fun _ => iteF ⟨y9, y10, T, rfl, S8.more (by omega), hT8, hlow, by omega, hl, TT8⟩)⟩
        have hw2 : way < 2 := of_decide_eq_true ew
        refine ⟨.ref l, rfl, Nat.zero_le _, fun e1 ne1 => ?_⟩
        have s1 := same_new (o := .lst []) ne1
        have S9 := S8.new (o := .lst []) ne1
        refine ⟨.list (ps.map .int), .list [], .lst (sqlOf (s1 _ _ hl)) (dp_ints ps), .lst (sqlOf upd_same) .nil, shaped_ints ps, rfl, _, rfl, ite2 (fun e2 => ?_) (fun _ => iteF ⟨y9, y10, T, rfl, S9.more (by omega), hT8.same s1, hlow, by omega, s1 _ _ hl, TT8.ext s1⟩)⟩
        rw [eqv_nil] at e2
        have hps : ps ≠ [] := fun z => by
          rw [z] at e2
          simp at e2
        refine ⟨.ref t, rfl, fun d0 nd0 => ?_⟩
        have s2 := same_new (o := .dT []) nd0
        have s12 := s1.trans s2
        have S10 := S9.new (o := .dT []) nd0
        have hT10 := hT8.same s12
        have hl10 := s12 _ _ hl
        refine ⟨t, d0, T.map enc, rfl, rfl, hT10.at_, upd_same, _, rfl, ite2 (fun e3 => ?_) (fun _ => ⟨y9, y10, T, rfl, S10.more (by omega), hT10, hlow, by omega, hl10, TT8.ext s12⟩)⟩
        have hT0 : T.length ≠ 0 := fun z => by
          rw [List.length_map, decide_eq_true z] at e3
          cases e3
        refine ⟨.ref t, rfl, t, T.map fun q => (q.1, V.int q.2), rfl, .inl (by rw [dI_dZ]; exact hT10.at_), (fun p hp => ?_), fun ks p perm srt kt np => ?_⟩
        · obtain ⟨q1, hq, rfl⟩ := List.mem_map.mp hp
          intro z
          have := hT.len q1 hq
          have z : q1.1 = [] := z
          rw [z] at this
          simp at this
          omega
        have perm2 : (ks.map (·.2)).Perm (T.map (·.1)) := by
          rw [List.map_map] at perm
          exact perm
        have lks : ks.length = T.length := by
          have := perm2.length_eq
          rw [List.length_map, List.length_map] at this
          exact this
        have s3 := same_new (o := .lst (ks.map fun q => V.ref q.1)) np
        have S11 := S10.new (o := .lst (ks.map fun q => V.ref q.1)) np
        have ap := S10.fresh np
        refine ⟨.ref a, rfl, .ref t, rfl, t, T.map enc, rfl, s3 _ _ hT10.at_, a, c, _, _, rfl, S11, by omega, (by rw [List.length_map]; omega), (by rw [List.length_map]; omega), fun H12 r12 S12 k12 x0 x1 => ?_⟩
        rw [List.length_map] at x1
        have hp12 := k12 p _ ap.1 ap.2 upd_same
        have hr12 : r12.toNat < ks.length := by omega
        have hq12 : (ks.map fun q => V.ref q.1)[r12.toNat]? = some (V.ref ks[r12.toNat].1) := by
          rw [List.getElem?_map, List.getElem?_eq_getElem hr12]
          rfl
        have hm12 : ks[r12.toNat] ∈ ks := List.getElem_mem hr12
        generalize hkg : ks[r12.toNat] = kg at hq12 hm12
        have ht12 : H12 kg.1 = some (.tup (kg.2.map V.int)) := S11.keepT k12 _ _ (same_keepT s3 _ _ (kt _ hm12))
        have hT12 : H12 t = some (dZ T) := k12 t _ at7.1 at7.2 (s3 _ _ hT10.at_)
        have hl12 : H12 l = some (.lst (ps.map V.int)) := k12 l _ al8.1 al8.2 (s3 _ _ hl10)
        obtain ⟨q0, hq0, hq0e⟩ := List.mem_map.mp (perm2.mem_iff.mp (List.mem_map_of_mem hm12))
        have hlen : kg.2.length = m := by
          rw [← hq0e]
          exact hT.len q0 hq0
        have hgo : getO T kg.2 = some q0.2 := (getO_mem hT.nodup).mpr (by rw [← hq0e]; exact hq0)
        refine ⟨p, _, r12, _, rfl, rfl, sqlOf hp12, (by have := atI_nat hq12; rw [show ((r12.toNat : Nat) : Int) = r12 by omega] at this; exact this), ?_⟩
        refine ⟨.ref kg.1, rfl, kg.1, _, rfl, .inr (.inl (.inl ht12)), fun E nE => ?_⟩
        have s4 := same_new (o := .lst (kg.2.map V.int)) nE
        have S13 := S12.new (o := .lst (kg.2.map V.int)) nE
        have aE := S12.fresh nE
        refine ⟨12, rfl, size2', fun p7 np7 => ?_⟩
        obtain ⟨v, hv, hv2⟩ := pick2 (x := 12) (y := -12) w0 hw2
        have s5 := same_new (o := .lst [.int 12, .int (-12)]) np7
        have S14 := S13.new (o := .lst [.int 12, .int (-12)]) np7
        have s45 := s4.trans s5
        obtain ⟨p0, ps', hpe⟩ : ∃ p0 ps', ps = p0 :: ps' := by
          cases ps with
          | nil => exact absurd rfl hps
          | cons a b => exact ⟨a, b, rfl⟩
        have hp0 := hp p0 (by rw [hpe]; exact List.mem_cons_self)
        have hE5 := s5 _ _ (upd_same (H := H12) (a := E) (o := .lst (kg.2.map V.int)))
        refine ⟨.int way, rfl, p7, _, way, .int v, rfl, rfl, sqlOf upd_same, hv, .ref E, rfl, .ref l, rfl, l, _, 0, .int p0, rfl, rfl, sqlOf (s45 _ _ hl12), atI_nat (j := 0) (by rw [hpe]; rfl), E, _, p0, p0.toNat, rfl, rfl, hE5, ?_, ?_⟩
        · unfold ixN
          rw [List.length_map, hlen, if_pos hp0.1, if_pos hp0.2]
        · have tE : t ≠ E := ne_of_none hT12 nE
          have lE : l ≠ E := ne_of_none hl12 nE
          have kE : kg.1 ≠ E := ne_of_none ht12 nE
          rw [← List.map_set]
          refine ⟨.ref t, rfl, .ref kg.1, rfl, t, .int q0.2, rfl, ?_, 0, q0.2, rfl, rfl, .ref t, rfl, .ref E, rfl, E, _, rfl, .inl ⟨sqlOf upd_same, fun t3 nt3 => ?_⟩⟩
          · have := DictAt.get (m := m) (D := T) (k := kg.2) (.inl (by rw [upd_ne tE]; exact s45 _ _ hT12)) (H := upd (upd (upd H12 E (.lst (kg.2.map V.int))) p7 (.lst [.int 12, .int (-12)])) E (.lst ((kg.2.set p0.toNat v).map V.int))) (d := t) (b := kg.1) (by rw [upd_ne kE]; exact s45 _ _ ht12)
            rw [hgo] at this
            exact this
          · have s6 := same_new (o := .tup ((kg.2.set p0.toNat v).map V.int)) nt3
            refine ⟨t, _, rfl, DPut.t (k := (kg.2.set p0.toNat v).map Sum.inl) (s6 _ _ (by rw [upd_ne tE]; exact s45 _ _ hT12)) (by rw [map_kV]; exact upd_same) (by rw [List.length_map, sizeLine_eq]; omega), ?_⟩
            refine ⟨_, _, setD T (kg.2.set p0.toNat v) (0 - q0.2), rfl, ?_, ⟨by rw [upd_same, putK_enc], setD_nodup _ _ hT.nodup, fun q hq => ?_⟩, fun q hq => ?_, Nat.le_trans (setD_len _ _ _) (by omega), ?_, ?_⟩
            · exact (((S14.put aE).new nt3).put at7).more (by omega)
            · rcases setD_mem hq with ⟨hq, _⟩ | rfl
              · exact hT.len q hq
              · rw [List.length_set]
                exact hlen
            · rcases setD_mem hq with ⟨hq, _⟩ | rfl
              · exact hlow q hq
              · have := hlow q0 hq0
                refine ⟨by have := this.1; show 0 - q0.2 ≠ 0; omega, fun x hx => ?_⟩
                rcases List.mem_or_eq_of_mem_set hx with hx | rfl
                · exact this.2 x (by rw [hq0e]; exact hx)
                · omega
            · rw [upd_ne (ne_of hl12 hT12 (by intro z; cases z))]
              exact s6 _ _ (by rw [upd_ne lE]; exact s45 _ _ hl12)
            · obtain ⟨_, _, _, _, ha8, hc8, _⟩ := S8.ex
              refine tabs_gen TT8 fun b o e n1 n2 => ?_
              have na : b ≠ a := not_lst e ha8 n1
              have nc : b ≠ c := not_lst e hc8 n1
              have nt : b ≠ t := not_dT e hT8.at_ n2
              have e12 : H12 b = some o := k12 b o na nc (s3 _ _ (s12 _ _ e))
              rw [upd_ne nt]
              exact s6 _ _ (by rw [upd_ne (ne_of_none e12 nE)]; exact s45 _ _ e12)
      · rintro σ' H9 ⟨y9, y10, T', rfl, S9, hT9, hlow9, hTl9, hl9, TT9⟩
        refine ⟨.ref t, rfl, .int m, rfl, t, m, T', rfl, hT9, hlow9, by omega, hm1, hm2, fun H10 s10 => ⟨true, rfl, iteF ?_⟩⟩
        refine ⟨.ref t, rfl, .ref l, rfl, t, l, m, T', ps, rfl, hT9.same s10, hlow9, by omega, hm1, hm2, s10 _ _ hl9, by omega, hp, TT9.ext s10, fun H11 s11 TT11 => ⟨true, rfl, iteF ?_⟩⟩
        have s1011 := (ExtN.of s10).trans s11
        refine ⟨.ref t, rfl, .int m, rfl, m, rfl, RgOk.of_le (Int.le_refl _) (by omega) (by omega) (by omega), fun gl ngl => ?_⟩
        rw [rgV_ints]
        have s12 := same_new (o := .lst (((List.range m).map fun (i : Nat) => (i : Int)).map V.int)) ngl
        refine ⟨t, gl, m, T', (List.range m).map fun (i : Nat) => (i : Int), rfl, (hT9.ext s1011).same s12, hlow9, by omega, hm1, hm2, upd_same, (by rw [List.length_map, List.length_range]; omega), (fun p hp => ?_), TT11.ext s12, fun H13 s13 TT13 => ⟨true, rfl, iteF ?_⟩⟩
        · obtain ⟨j, hj, rfl⟩ := List.mem_map.mp hp
          have := List.mem_range.mp hj
          omega
        have S13 := S9.ext ((s1011.trans (ExtN.of s12)).trans s13)
        refine ⟨Nat.zero_le _, fun e ne => ?_⟩
        have S14 := S13.new (o := .tup []) ne
        have ae := S13.fresh ne
        refine ⟨.ref a, rfl, a, c, _, 4, rfl, S14, by omega, by decide, by decide, fun H15 r15 S15 k15 z0 z1 => ?_⟩
        have TT15 := tabs_keep (TT13.ext (same_new (o := .tup []) ne)) S14 k15
        have he15 : H15 e = some (.tup []) := k15 e _ ae.1 ae.2 upd_same
        refine ⟨r15, rfl, by omega, by omega, fun E nE => ?_⟩
        have aE := S15.fresh nE
        have eE : e ≠ E := ne_of_none he15 nE
        refine lc_range (lo := 0) (n := r15.toNat) (fun j H' => ∃ qs : List Int, H' E = some (.lst (qs.map V.int)) ∧ qs.length = j ∧ (∀ x ∈ qs, 0 ≤ x) ∧ Stock H' a c (400 * i + 301 + j) ∧ H' e = some (.tup []) ∧ Tabs (T5 Pt) H') ⟨[], upd_same, rfl, (fun x h => by cases h), S15.new nE, (by rw [upd_ne eE]; exact he15), TT15.ext (same_new nE)⟩ (fun j H16 hj h => ?_) (fun H16 h => ?_)
        · obtain ⟨qs, hE, hql, hq0, S16, he16, TT16⟩ := h
          refine ⟨rfl, .ref a, rfl, a, c, _, 30, rfl, S16, by omega, by decide, by decide, fun H17 r17 S17 k17 b0 b1 => ?_⟩
          have hE17 := k17 E _ aE.1 aE.2 hE
          refine ⟨_, hE17, (by rw [List.length_map, sizeLine_eq]; omega), qs ++ [r17], (by rw [upd_same, List.map_append]; rfl), by rw [List.length_append, hql]; rfl, (fun x hx => ?_), S17.put aE, (by rw [upd_ne eE]; exact k17 e _ ae.1 ae.2 he16), tabs_gen (tabs_keep TT16 S16 k17) fun b o e n1 _ => (by
            rw [upd_ne (not_lst e hE17 n1)]
            exact e)⟩
          rcases List.mem_append.mp hx with hx | hx
          · exact hq0 x hx
          · rw [List.mem_singleton.mp hx]
            exact b0
        · obtain ⟨qs, hE, hql, hq0, S16, he16, TT16⟩ := h
          refine ⟨e, E, 1, [], qs, rfl, ⟨he16, fun r hr => by cases hr⟩, Nat.zero_le _, by decide, by decide, ⟨(fun q hq => by cases hq), List.Pairwise.nil⟩, hE, by omega, hq0, (fun z => absurd rfl z), TT16, fun H17 u M s17 TT17 hM _ hMl => ?_⟩
          have hMn : M = [] := List.length_eq_zero_iff.mp (Nat.le_zero.mp hMl)
          subst hMn
          refine ⟨Nat.zero_le _, fun e2 ne2 => ?_⟩
          have s18 := same_new (o := .tup []) ne2
          refine ⟨.ref u, .ref e2, rfl, sm_nil (s18 _ _ hM.at_) upd_same, fun H19 s19 => ⟨true, rfl, iteF ?_⟩⟩
          exact ⟨_, _, _, _, _, _, _, _, _, rfl, (((S16.ext s17).same s18).same s19).more (by omega), TT17.ext (s18.trans s19)⟩
    · obtain ⟨y2, y3, y4, y5, y6, y7, y8, y9, y10, rfl, S2, TT2⟩ := h
      refine fun d0 nd0 => ?_
      have S3 := S2.new (o := .dT []) nd0
      refine ⟨d0, 1, [], rfl, ⟨upd_same, by simp [NodupK], fun q hq => by cases hq⟩, (fun q hq => by cases hq), Nat.zero_le _, by decide, by decide, fun H3 s3 => ⟨true, rfl, iteT ?_⟩⟩
      have S4 := S3.same s3
      refine ⟨.ref a, rfl, a, c, _, 12, rfl, S4, by omega, by decide, by decide, fun H5 r5 S5 k5 u0 u1 => ⟨1, r5, rfl, rfl, ?_⟩⟩
      obtain ⟨m, hm⟩ : ∃ m : Nat, 1 + r5 = (m : Int) := ⟨(1 + r5).toNat, by omega⟩
      refine ⟨m, (by show [V.int (1 + r5)] = _; rw [hm]), by omega, by omega, fun H6 s6 => ⟨true, rfl, iteT ?_⟩⟩
      exact ⟨12, rfl, by decide, by decide, fun H7 s7 => q H7⟩
end
end K05
set_option Elab.async false
set_option linter.all false
set_option maxRecDepth 100000
namespace K05
open PySem PySem.Spec PyProof.Rows L2 R1 ZN LamX
theorem all_mk {l : PySem.W.OpenLaw} {w : World} {K : PySem.W.Frag} {h : Heap} {mg : Str → Option Value} {fa f0 f1 f2 f3 f4 f5 f6 f7 f8 f9 f10 f11 f12 f13 f14 f15 f16 f17 f18 f19 f20 f21 f22 f23 f24 f25 f26 : Addr} (X : K.In h) (G : h.Ns mainGlobals mg) (hfa : mg "law" = some (.ref fa))
    {od0 an0 : Option Addr} {sl0 : Array (Option Value)} {oc0 kV0 dc0 pm0 cd0 ct0 : Value}
    {od1 an1 : Option Addr} {sl1 : Array (Option Value)} {oc1 kV1 dc1 pm1 cd1 ct1 : Value}
    {od2 an2 : Option Addr} {sl2 : Array (Option Value)} {oc2 kV2 dc2 pm2 cd2 ct2 : Value}
    {od3 an3 : Option Addr} {sl3 : Array (Option Value)} {oc3 kV3 dc3 pm3 cd3 ct3 : Value}
    {od4 an4 : Option Addr} {sl4 : Array (Option Value)} {oc4 kV4 dc4 pm4 cd4 ct4 : Value}
    {od5 an5 : Option Addr} {sl5 : Array (Option Value)} {oc5 kV5 dc5 pm5 ct5 : Value} {cA Pt : Addr} {ts : List Addr}
    {od6 an6 : Option Addr} {sl6 : Array (Option Value)} {oc6 kV6 dc6 pm6 cd6 ct6 : Value}
    {od7 an7 : Option Addr} {sl7 : Array (Option Value)} {oc7 kV7 dc7 pm7 cd7 ct7 : Value}
    {od8 an8 : Option Addr} {sl8 : Array (Option Value)} {oc8 kV8 dc8 pm8 cd8 ct8 : Value}
    {od9 an9 : Option Addr} {sl9 : Array (Option Value)} {oc9 kV9 dc9 pm9 cd9 ct9 : Value}
    {od10 an10 : Option Addr} {sl10 : Array (Option Value)} {oc10 kV10 dc10 pm10 cd10 ct10 : Value}
    {od11 an11 : Option Addr} {sl11 : Array (Option Value)} {oc11 kV11 dc11 pm11 cd11 ct11 : Value}
    {od12 an12 : Option Addr} {sl12 : Array (Option Value)} {oc12 kV12 dc12 pm12 cd12 ct12 : Value}
    {od13 an13 : Option Addr} {sl13 : Array (Option Value)} {oc13 kV13 dc13 pm13 cd13 ct13 : Value}
    {od14 an14 : Option Addr} {sl14 : Array (Option Value)} {oc14 kV14 dc14 pm14 cd14 ct14 : Value}
    {od15 an15 : Option Addr} {sl15 : Array (Option Value)} {oc15 kV15 dc15 pm15 cd15 ct15 : Value}
    {od16 an16 : Option Addr} {sl16 : Array (Option Value)} {oc16 kV16 dc16 pm16 cd16 ct16 : Value}
    {od17 an17 : Option Addr} {sl17 : Array (Option Value)} {oc17 kV17 dc17 pm17 cd17 ct17 : Value}
    {od18 an18 : Option Addr} {sl18 : Array (Option Value)} {oc18 kV18 dc18 pm18 cd18 ct18 : Value}
    {od19 an19 : Option Addr} {sl19 : Array (Option Value)} {oc19 kV19 dc19 pm19 cd19 ct19 : Value}
    {od20 an20 : Option Addr} {sl20 : Array (Option Value)} {oc20 kV20 dc20 pm20 cd20 ct20 : Value}
    {od21 an21 : Option Addr} {sl21 : Array (Option Value)} {oc21 kV21 dc21 pm21 cd21 ct21 : Value}
    {od22 an22 : Option Addr} {sl22 : Array (Option Value)} {oc22 kV22 dc22 pm22 cd22 ct22 : Value}
    {od23 an23 : Option Addr} {sl23 : Array (Option Value)} {oc23 kV23 dc23 pm23 cd23 ct23 : Value}
    {od24 an24 : Option Addr} {sl24 : Array (Option Value)} {oc24 kV24 dc24 pm24 cd24 ct24 : Value}
    {od25 an25 : Option Addr} {sl25 : Array (Option Value)} {oc25 kV25 dc25 pm25 cd25 ct25 : Value}
    {od26 an26 : Option Addr} {sl26 : Array (Option Value)} {oc26 kV26 dc26 pm26 cd26 ct26 : Value}
    (a0 : PySem.W.nsIn K mainGlobals "letter_of" = some (some (.ref f0))) (l0 : K.lookup f0 = some ⟨oc0, od0, .func (PySem.W.fnOf "letter_of" "letter_of" (defArgs sLetterOf) (defBody sLetterOf) (defScope sLetterOf) .none kV0 dc0 pm0 an0 cd0 ct0), sl0⟩) (c0 : PySem.W.codeIn K cd0 "letter_of" = true) (k0 : PySem.W.keepIn K (.ref f0) = true)
    (a1 : PySem.W.nsIn K mainGlobals "lines_of" = some (some (.ref f1))) (l1 : K.lookup f1 = some ⟨oc1, od1, .func (PySem.W.fnOf "lines_of" "lines_of" (defArgs sLines) (defBody sLines) (defScope sLines) .none kV1 dc1 pm1 an1 cd1 ct1), sl1⟩) (c1 : PySem.W.codeIn K cd1 "lines_of" = true) (k1 : PySem.W.keepIn K (.ref f1) = true)
    (a2 : PySem.W.nsIn K mainGlobals "least_of" = some (some (.ref f2))) (l2 : K.lookup f2 = some ⟨oc2, od2, .func (PySem.W.fnOf "least_of" "least_of" (defArgs sLeast) (defBody sLeast) (defScope sLeast) .none kV2 dc2 pm2 an2 cd2 ct2), sl2⟩) (c2 : PySem.W.codeIn K cd2 "least_of" = true) (k2 : PySem.W.keepIn K (.ref f2) = true)
    (a3 : PySem.W.nsIn K mainGlobals "moved" = some (some (.ref f3))) (l3 : K.lookup f3 = some ⟨oc3, od3, .func (PySem.W.fnOf "moved" "moved" (defArgs sMoved) (defBody sMoved) (defScope sMoved) .none kV3 dc3 pm3 an3 cd3 ct3), sl3⟩) (c3 : PySem.W.codeIn K cd3 "moved" = true) (k3 : PySem.W.keepIn K (.ref f3) = true)
    (a4 : PySem.W.nsIn K mainGlobals "sum_of_terms" = some (some (.ref f4))) (l4 : K.lookup f4 = some ⟨oc4, od4, .func (PySem.W.fnOf "sum_of_terms" "sum_of_terms" (defArgs sSumOf) (defBody sSumOf) (defScope sSumOf) .none kV4 dc4 pm4 an4 cd4 ct4), sl4⟩) (c4 : PySem.W.codeIn K cd4 "sum_of_terms" = true) (k4 : PySem.W.keepIn K (.ref f4) = true)
    (a5 : PySem.W.nsIn K mainGlobals "without_letters" = some (some (.ref f5))) (l5 : K.lookup f5 = some ⟨oc5, od5, .func (PySem.W.fnOf "without_letters" "without_letters" (defArgs sWithout) (defBody sWithout) (defScope sWithout) .none kV5 dc5 pm5 an5 (.ref cA) ct5), sl5⟩) (c5 : PySem.W.codeIn K (.ref cA) "without_letters" = true) (k5 : PySem.W.keepIn K (.ref f5) = true)
    (a6 : PySem.W.nsIn K mainGlobals "is_sum" = some (some (.ref f6))) (l6 : K.lookup f6 = some ⟨oc6, od6, .func (PySem.W.fnOf "is_sum" "is_sum" (defArgs sIs) (defBody sIs) (defScope sIs) .none kV6 dc6 pm6 an6 cd6 ct6), sl6⟩) (c6 : PySem.W.codeIn K cd6 "is_sum" = true) (k6 : PySem.W.keepIn K (.ref f6) = true)
    (a7 : PySem.W.nsIn K mainGlobals "check_sum" = some (some (.ref f7))) (l7 : K.lookup f7 = some ⟨oc7, od7, .func (PySem.W.fnOf "check_sum" "check_sum" (defArgs sCheck) (defBody sCheck) (defScope sCheck) .none kV7 dc7 pm7 an7 cd7 ct7), sl7⟩) (c7 : PySem.W.codeIn K cd7 "check_sum" = true) (k7 : PySem.W.keepIn K (.ref f7) = true)
    (a8 : PySem.W.nsIn K mainGlobals "letters_of" = some (some (.ref f8))) (l8 : K.lookup f8 = some ⟨oc8, od8, .func (PySem.W.fnOf "letters_of" "letters_of" (defArgs sLettersOf) (defBody sLettersOf) (defScope sLettersOf) .none kV8 dc8 pm8 an8 cd8 ct8), sl8⟩) (c8 : PySem.W.codeIn K cd8 "letters_of" = true) (k8 : PySem.W.keepIn K (.ref f8) = true)
    (a9 : PySem.W.nsIn K mainGlobals "letter" = some (some (.ref f9))) (l9 : K.lookup f9 = some ⟨oc9, od9, .func (PySem.W.fnOf "letter" "letter" (defArgs sLetter) (defBody sLetter) (defScope sLetter) .none kV9 dc9 pm9 an9 cd9 ct9), sl9⟩) (c9 : PySem.W.codeIn K cd9 "letter" = true) (k9 : PySem.W.keepIn K (.ref f9) = true)
    (a10 : PySem.W.nsIn K mainGlobals "least_powers" = some (some (.ref f10))) (l10 : K.lookup f10 = some ⟨oc10, od10, .func (PySem.W.fnOf "least_powers" "least_powers" (defArgs sLeastP) (defBody sLeastP) (defScope sLeastP) .none kV10 dc10 pm10 an10 cd10 ct10), sl10⟩) (c10 : PySem.W.codeIn K cd10 "least_powers" = true) (k10 : PySem.W.keepIn K (.ref f10) = true)
    (a11 : PySem.W.nsIn K mainGlobals "freed" = some (some (.ref f11))) (l11 : K.lookup f11 = some ⟨oc11, od11, .func (PySem.W.fnOf "freed" "freed" (defArgs sFreed) (defBody sFreed) (defScope sFreed) .none kV11 dc11 pm11 an11 cd11 ct11), sl11⟩) (c11 : PySem.W.codeIn K cd11 "freed" = true) (k11 : PySem.W.keepIn K (.ref f11) = true)
    (a12 : PySem.W.nsIn K mainGlobals "ones" = some (some (.ref f12))) (l12 : K.lookup f12 = some ⟨oc12, od12, .func (PySem.W.fnOf "ones" "ones" (defArgs sOnes) (defBody sOnes) (defScope sOnes) .none kV12 dc12 pm12 an12 cd12 ct12), sl12⟩) (c12 : PySem.W.codeIn K cd12 "ones" = true) (k12 : PySem.W.keepIn K (.ref f12) = true)
    (a13 : PySem.W.nsIn K mainGlobals "_law_stock" = some (some (.ref f13))) (l13 : K.lookup f13 = some ⟨oc13, od13, .func (PySem.W.fnOf "_law_stock" "_law_stock" (defArgs sStock) (defBody sStock) (defScope sStock) .none kV13 dc13 pm13 an13 cd13 ct13), sl13⟩) (c13 : PySem.W.codeIn K cd13 "_law_stock" = true) (k13 : PySem.W.keepIn K (.ref f13) = true)
    (a14 : PySem.W.nsIn K mainGlobals "_law_pick" = some (some (.ref f14))) (l14 : K.lookup f14 = some ⟨oc14, od14, .func (PySem.W.fnOf "_law_pick" "_law_pick" (defArgs sPick) (defBody sPick) (defScope sPick) .none kV14 dc14 pm14 an14 cd14 ct14), sl14⟩) (c14 : PySem.W.codeIn K cd14 "_law_pick" = true) (k14 : PySem.W.keepIn K (.ref f14) = true)
    (a15 : PySem.W.nsIn K mainGlobals "_law_wide" = some (some (.ref f15))) (l15 : K.lookup f15 = some ⟨oc15, od15, .func (PySem.W.fnOf "_law_wide" "_law_wide" (defArgs sWide) (defBody sWide) (defScope sWide) .none kV15 dc15 pm15 an15 cd15 ct15), sl15⟩) (c15 : PySem.W.codeIn K cd15 "_law_wide" = true) (k15 : PySem.W.keepIn K (.ref f15) = true)
    (a16 : PySem.W.nsIn K mainGlobals "_law_same" = some (some (.ref f16))) (l16 : K.lookup f16 = some ⟨oc16, od16, .func (PySem.W.fnOf "_law_same" "_law_same" (defArgs sSame) (defBody sSame) (defScope sSame) .none kV16 dc16 pm16 an16 cd16 ct16), sl16⟩) (c16 : PySem.W.codeIn K cd16 "_law_same" = true) (k16 : PySem.W.keepIn K (.ref f16) = true)
    (a17 : PySem.W.nsIn K mainGlobals "_law_written" = some (some (.ref f17))) (l17 : K.lookup f17 = some ⟨oc17, od17, .func (PySem.W.fnOf "_law_written" "_law_written" (defArgs sWritten) (defBody sWritten) (defScope sWritten) .none kV17 dc17 pm17 an17 cd17 ct17), sl17⟩) (c17 : PySem.W.codeIn K cd17 "_law_written" = true) (k17 : PySem.W.keepIn K (.ref f17) = true)
    (a18 : PySem.W.nsIn K mainGlobals "_law_terms" = some (some (.ref f18))) (l18 : K.lookup f18 = some ⟨oc18, od18, .func (PySem.W.fnOf "_law_terms" "_law_terms" (defArgs sTerms) (defBody sTerms) (defScope sTerms) .none kV18 dc18 pm18 an18 cd18 ct18), sl18⟩) (c18 : PySem.W.codeIn K cd18 "_law_terms" = true) (k18 : PySem.W.keepIn K (.ref f18) = true)
    (a19 : PySem.W.nsIn K mainGlobals "_law_least" = some (some (.ref f19))) (l19 : K.lookup f19 = some ⟨oc19, od19, .func (PySem.W.fnOf "_law_least" "_law_least" (defArgs sLLeast) (defBody sLLeast) (defScope sLLeast) .none kV19 dc19 pm19 an19 cd19 ct19), sl19⟩) (c19 : PySem.W.codeIn K cd19 "_law_least" = true) (k19 : PySem.W.keepIn K (.ref f19) = true)
    (a20 : PySem.W.nsIn K mainGlobals "_law_ones" = some (some (.ref f20))) (l20 : K.lookup f20 = some ⟨oc20, od20, .func (PySem.W.fnOf "_law_ones" "_law_ones" (defArgs sLOnes) (defBody sLOnes) (defScope sLOnes) .none kV20 dc20 pm20 an20 cd20 ct20), sl20⟩) (c20 : PySem.W.codeIn K cd20 "_law_ones" = true) (k20 : PySem.W.keepIn K (.ref f20) = true)
    (a21 : PySem.W.nsIn K mainGlobals "_law_is_freed" = some (some (.ref f21))) (l21 : K.lookup f21 = some ⟨oc21, od21, .func (PySem.W.fnOf "_law_is_freed" "_law_is_freed" (defArgs sIsFreed) (defBody sIsFreed) (defScope sIsFreed) .none kV21 dc21 pm21 an21 cd21 ct21), sl21⟩) (c21 : PySem.W.codeIn K cd21 "_law_is_freed" = true) (k21 : PySem.W.keepIn K (.ref f21) = true)
    (a22 : PySem.W.nsIn K mainGlobals "_law_are_ones" = some (some (.ref f22))) (l22 : K.lookup f22 = some ⟨oc22, od22, .func (PySem.W.fnOf "_law_are_ones" "_law_are_ones" (defArgs sAreOnes) (defBody sAreOnes) (defScope sAreOnes) .none kV22 dc22 pm22 an22 cd22 ct22), sl22⟩) (c22 : PySem.W.codeIn K cd22 "_law_are_ones" = true) (k22 : PySem.W.keepIn K (.ref f22) = true)
    (a23 : PySem.W.nsIn K mainGlobals "_law_places" = some (some (.ref f23))) (l23 : K.lookup f23 = some ⟨oc23, od23, .func (PySem.W.fnOf "_law_places" "_law_places" (defArgs sPlaces) (defBody sPlaces) (defScope sPlaces) .none kV23 dc23 pm23 an23 cd23 ct23), sl23⟩) (c23 : PySem.W.codeIn K cd23 "_law_places" = true) (k23 : PySem.W.keepIn K (.ref f23) = true)
    (a24 : PySem.W.nsIn K mainGlobals "_law_are_letters" = some (some (.ref f24))) (l24 : K.lookup f24 = some ⟨oc24, od24, .func (PySem.W.fnOf "_law_are_letters" "_law_are_letters" (defArgs sAreLetters) (defBody sAreLetters) (defScope sAreLetters) .none kV24 dc24 pm24 an24 cd24 ct24), sl24⟩) (c24 : PySem.W.codeIn K cd24 "_law_are_letters" = true) (k24 : PySem.W.keepIn K (.ref f24) = true)
    (a25 : PySem.W.nsIn K mainGlobals "with_powers" = some (some (.ref f25))) (l25 : K.lookup f25 = some ⟨oc25, od25, .func (PySem.W.fnOf "with_powers" "with_powers" (defArgs sWith) (defBody sWith) (defScope sWith) .none kV25 dc25 pm25 an25 cd25 ct25), sl25⟩) (c25 : PySem.W.codeIn K cd25 "with_powers" = true) (k25 : PySem.W.keepIn K (.ref f25) = true)
    (a26 : PySem.W.nsIn K mainGlobals "law" = some (some (.ref f26))) (l26 : K.lookup f26 = some ⟨oc26, od26, .func (PySem.W.fnOf "law" "law" (defArgs sLaw) (defBody sLaw) (defScope sLaw) .none kV26 dc26 pm26 an26 cd26 ct26), sl26⟩) (c26 : PySem.W.codeIn K cd26 "law" = true) (k26 : PySem.W.keepIn K (.ref f26) = true)
    (z0 : PySem.W.nsIn K mainGlobals "int" = some none)
    (z1 : PySem.W.nsIn K mainGlobals "range" = some none)
    (z2 : PySem.W.nsIn K mainGlobals "list" = some none)
    (z3 : PySem.W.nsIn K mainGlobals "sorted" = some none)
    (z4 : PySem.W.nsIn K mainGlobals "len" = some none)
    (z5 : PySem.W.nsIn K mainGlobals "tuple" = some none)
    (z6 : PySem.W.nsIn K mainGlobals "min" = some none)
    (z7 : PySem.W.nsIn K mainGlobals "zip" = some none)
    (z8 : PySem.W.nsIn K mainGlobals "enumerate" = some none)
    (z9 : PySem.W.nsIn K mainGlobals "isinstance" = some none)
    (z10 : PySem.W.nsIn K mainGlobals "bool" = some none)
    (z11 : PySem.W.nsIn K mainGlobals "str" = some none) 
    (tabs : ∀ P ∈ ts, h.get? P = some (PySem.W.tabObj #[])) (hPt : Pt ∈ ts) (nT : K.lookup Pt = none) (hcd : PySem.W.codeHdIn K cA Pt = true) : LawAtS l w K CX0 8 63 "_law_script" mg fa h := by
  have e := hfa.symm.trans (PySem.W.mg_of X G a26)
  cases e
  have F0 := fun_mk (st := sLetterOf) l0 c0 k0
  have F1 := fun_mk (st := sLines) l1 c1 k1
  have F2 := fun_mk (st := sLeast) l2 c2 k2
  have F3 := fun_mk (st := sMoved) l3 c3 k3
  have F4 := fun_mk (st := sSumOf) l4 c4 k4
  have F5 := fun_mk (st := sWithout) l5 c5 k5
  have F6 := fun_mk (st := sIs) l6 c6 k6
  have F7 := fun_mk (st := sCheck) l7 c7 k7
  have F8 := fun_mk (st := sLettersOf) l8 c8 k8
  have F9 := fun_mk (st := sLetter) l9 c9 k9
  have F10 := fun_mk (st := sLeastP) l10 c10 k10
  have F11 := fun_mk (st := sFreed) l11 c11 k11
  have F12 := fun_mk (st := sOnes) l12 c12 k12
  have F13 := fun_mk (st := sStock) l13 c13 k13
  have F14 := fun_mk (st := sPick) l14 c14 k14
  have F15 := fun_mk (st := sWide) l15 c15 k15
  have F16 := fun_mk (st := sSame) l16 c16 k16
  have F17 := fun_mk (st := sWritten) l17 c17 k17
  have F18 := fun_mk (st := sTerms) l18 c18 k18
  have F19 := fun_mk (st := sLLeast) l19 c19 k19
  have F20 := fun_mk (st := sLOnes) l20 c20 k20
  have F21 := fun_mk (st := sIsFreed) l21 c21 k21
  have F22 := fun_mk (st := sAreOnes) l22 c22 k22
  have F23 := fun_mk (st := sPlaces) l23 c23 k23
  have F24 := fun_mk (st := sAreLetters) l24 c24 k24
  have F25 := fun_mk (st := sWith) l25 c25 k25
  have F26 := fun_mk (st := sLaw) l26 c26 k26
  have b0 := F0.binds (ps := ["at", "many"]) fun _ _ _ _ _ _ us hl => match us, hl with | [_, _], _ => rfl
  have b1 := F1.binds (ps := ["told"]) fun _ _ _ _ _ _ us hl => match us, hl with | [_], _ => rfl
  have b2 := F2.binds (ps := ["told"]) fun _ _ _ _ _ _ us hl => match us, hl with | [_], _ => rfl
  have b3 := F3.binds (ps := ["told", "powers", "sign"]) fun _ _ _ _ _ _ us hl => match us, hl with | [_, _, _], _ => rfl
  have b4 := F4.binds (ps := ["terms"]) fun _ _ _ _ _ _ us hl => match us, hl with | [_], _ => rfl
  have b5 := F5.binds (ps := ["told", "places"]) fun _ _ _ _ _ _ us hl => match us, hl with | [_, _], _ => rfl
  have b6 := F6.binds (ps := ["told", "many"]) fun _ _ _ _ _ _ us hl => match us, hl with | [_, _], _ => rfl
  have b7 := F7.binds (ps := ["told", "many"]) fun _ _ _ _ _ _ us hl => match us, hl with | [_, _], _ => rfl
  have b8 := F8.binds (ps := ["sums"]) fun _ _ _ _ _ _ us hl => match us, hl with | [_], _ => rfl
  have b9 := F9.binds (ps := ["at", "many"]) fun _ _ _ _ _ _ us hl => match us, hl with | [_, _], _ => rfl
  have b10 := F10.binds (ps := ["one"]) fun _ _ _ _ _ _ us hl => match us, hl with | [_], _ => rfl
  have b11 := F11.binds (ps := ["one"]) fun _ _ _ _ _ _ us hl => match us, hl with | [_], _ => rfl
  have b12 := F12.binds (ps := ["one", "places"]) fun _ _ _ _ _ _ us hl => match us, hl with | [_, _], _ => rfl
  have b13 := F13.binds (ps := ["_law_script"]) fun _ _ _ _ _ _ us hl => match us, hl with | [_], _ => rfl
  have b14 := F14.binds (ps := ["_law_stock_here", "_law_limit"]) fun _ _ _ _ _ _ us hl => match us, hl with | [_, _], _ => rfl
  have b15 := F15.binds (ps := ["_law_stock_here", "_law_limit"]) fun _ _ _ _ _ _ us hl => match us, hl with | [_, _], _ => rfl
  have b16 := F16.binds (ps := ["_law_told", "_law_due"]) fun _ _ _ _ _ _ us hl => match us, hl with | [_, _], _ => rfl
  have b17 := F17.binds (ps := ["_law_terms_here"]) fun _ _ _ _ _ _ us hl => match us, hl with | [_], _ => rfl
  have b18 := F18.binds (ps := ["_law_stock_here", "_law_many", "_law_most", "_law_span", "_law_great"]) fun _ _ _ _ _ _ us hl => match us, hl with | [_, _, _, _, _], _ => rfl
  have b19 := F19.binds (ps := ["_law_terms_here", "_law_many"]) fun _ _ _ _ _ _ us hl => match us, hl with | [_, _], _ => rfl
  have b20 := F20.binds (ps := ["_law_terms_here", "_law_places_here"]) fun _ _ _ _ _ _ us hl => match us, hl with | [_, _], _ => rfl
  have b21 := F21.binds (ps := ["_law_terms_here", "_law_many"]) fun _ _ _ _ _ _ us hl => match us, hl with | [_, _], _ => rfl
  have b22 := F22.binds (ps := ["_law_terms_here", "_law_places_here"]) fun _ _ _ _ _ _ us hl => match us, hl with | [_, _], _ => rfl
  have b23 := F23.binds (ps := ["_law_stock_here", "_law_many"]) fun _ _ _ _ _ _ us hl => match us, hl with | [_, _], _ => rfl
  have b24 := F24.binds (ps := ["_law_many"]) fun _ _ _ _ _ _ us hl => match us, hl with | [_], _ => rfl
  have b25 := F25.binds (ps := ["told", "change"]) fun _ _ _ _ _ _ us hl => match us, hl with | [_, _], _ => rfl
  have D : Defs K mg (fun i => [f0, f1, f2, f3, f4, f5, f6, f7, f8, f9, f10, f11, f12, f13, f14, f15, f16, f17, f18, f19, f20, f21, f22, f23, f24, f25].getD i f0) (fun i => [PySem.W.fnOf "letter_of" "letter_of" (defArgs sLetterOf) (defBody sLetterOf) (defScope sLetterOf) .none kV0 dc0 pm0 an0 cd0 ct0, PySem.W.fnOf "lines_of" "lines_of" (defArgs sLines) (defBody sLines) (defScope sLines) .none kV1 dc1 pm1 an1 cd1 ct1, PySem.W.fnOf "least_of" "least_of" (defArgs sLeast) (defBody sLeast) (defScope sLeast) .none kV2 dc2 pm2 an2 cd2 ct2, PySem.W.fnOf "moved" "moved" (defArgs sMoved) (defBody sMoved) (defScope sMoved) .none kV3 dc3 pm3 an3 cd3 ct3, PySem.W.fnOf "sum_of_terms" "sum_of_terms" (defArgs sSumOf) (defBody sSumOf) (defScope sSumOf) .none kV4 dc4 pm4 an4 cd4 ct4, PySem.W.fnOf "without_letters" "without_letters" (defArgs sWithout) (defBody sWithout) (defScope sWithout) .none kV5 dc5 pm5 an5 (.ref cA) ct5, PySem.W.fnOf "is_sum" "is_sum" (defArgs sIs) (defBody sIs) (defScope sIs) .none kV6 dc6 pm6 an6 cd6 ct6, PySem.W.fnOf "check_sum" "check_sum" (defArgs sCheck) (defBody sCheck) (defScope sCheck) .none kV7 dc7 pm7 an7 cd7 ct7, PySem.W.fnOf "letters_of" "letters_of" (defArgs sLettersOf) (defBody sLettersOf) (defScope sLettersOf) .none kV8 dc8 pm8 an8 cd8 ct8, PySem.W.fnOf "letter" "letter" (defArgs sLetter) (defBody sLetter) (defScope sLetter) .none kV9 dc9 pm9 an9 cd9 ct9, PySem.W.fnOf "least_powers" "least_powers" (defArgs sLeastP) (defBody sLeastP) (defScope sLeastP) .none kV10 dc10 pm10 an10 cd10 ct10, PySem.W.fnOf "freed" "freed" (defArgs sFreed) (defBody sFreed) (defScope sFreed) .none kV11 dc11 pm11 an11 cd11 ct11, PySem.W.fnOf "ones" "ones" (defArgs sOnes) (defBody sOnes) (defScope sOnes) .none kV12 dc12 pm12 an12 cd12 ct12, PySem.W.fnOf "_law_stock" "_law_stock" (defArgs sStock) (defBody sStock) (defScope sStock) .none kV13 dc13 pm13 an13 cd13 ct13, PySem.W.fnOf "_law_pick" "_law_pick" (defArgs sPick) (defBody sPick) (defScope sPick) .none kV14 dc14 pm14 an14 cd14 ct14, PySem.W.fnOf "_law_wide" "_law_wide" (defArgs sWide) (defBody sWide) (defScope sWide) .none kV15 dc15 pm15 an15 cd15 ct15, PySem.W.fnOf "_law_same" "_law_same" (defArgs sSame) (defBody sSame) (defScope sSame) .none kV16 dc16 pm16 an16 cd16 ct16, PySem.W.fnOf "_law_written" "_law_written" (defArgs sWritten) (defBody sWritten) (defScope sWritten) .none kV17 dc17 pm17 an17 cd17 ct17, PySem.W.fnOf "_law_terms" "_law_terms" (defArgs sTerms) (defBody sTerms) (defScope sTerms) .none kV18 dc18 pm18 an18 cd18 ct18, PySem.W.fnOf "_law_least" "_law_least" (defArgs sLLeast) (defBody sLLeast) (defScope sLLeast) .none kV19 dc19 pm19 an19 cd19 ct19, PySem.W.fnOf "_law_ones" "_law_ones" (defArgs sLOnes) (defBody sLOnes) (defScope sLOnes) .none kV20 dc20 pm20 an20 cd20 ct20, PySem.W.fnOf "_law_is_freed" "_law_is_freed" (defArgs sIsFreed) (defBody sIsFreed) (defScope sIsFreed) .none kV21 dc21 pm21 an21 cd21 ct21, PySem.W.fnOf "_law_are_ones" "_law_are_ones" (defArgs sAreOnes) (defBody sAreOnes) (defScope sAreOnes) .none kV22 dc22 pm22 an22 cd22 ct22, PySem.W.fnOf "_law_places" "_law_places" (defArgs sPlaces) (defBody sPlaces) (defScope sPlaces) .none kV23 dc23 pm23 an23 cd23 ct23, PySem.W.fnOf "_law_are_letters" "_law_are_letters" (defArgs sAreLetters) (defBody sAreLetters) (defScope sAreLetters) .none kV24 dc24 pm24 an24 cd24 ct24, PySem.W.fnOf "with_powers" "with_powers" (defArgs sWith) (defBody sWith) (defScope sWith) .none kV25 dc25 pm25 an25 cd25 ct25].getD i (PySem.W.fnOf "letter_of" "letter_of" (defArgs sLetterOf) (defBody sLetterOf) (defScope sLetterOf) .none kV0 dc0 pm0 an0 cd0 ct0)) := { F0 := F0, b0 := b0, g0 := PySem.W.mg_of X G a0, F1 := F1, b1 := b1, g1 := PySem.W.mg_of X G a1, F2 := F2, b2 := b2, g2 := PySem.W.mg_of X G a2, F3 := F3, b3 := b3, g3 := PySem.W.mg_of X G a3, F4 := F4, b4 := b4, g4 := PySem.W.mg_of X G a4, F5 := F5, b5 := b5, g5 := PySem.W.mg_of X G a5, F6 := F6, b6 := b6, g6 := PySem.W.mg_of X G a6, F7 := F7, b7 := b7, g7 := PySem.W.mg_of X G a7, F8 := F8, b8 := b8, g8 := PySem.W.mg_of X G a8, F9 := F9, b9 := b9, g9 := PySem.W.mg_of X G a9, F10 := F10, b10 := b10, g10 := PySem.W.mg_of X G a10, F11 := F11, b11 := b11, g11 := PySem.W.mg_of X G a11, F12 := F12, b12 := b12, g12 := PySem.W.mg_of X G a12, F13 := F13, b13 := b13, g13 := PySem.W.mg_of X G a13, F14 := F14, b14 := b14, g14 := PySem.W.mg_of X G a14, F15 := F15, b15 := b15, g15 := PySem.W.mg_of X G a15, F16 := F16, b16 := b16, g16 := PySem.W.mg_of X G a16, F17 := F17, b17 := b17, g17 := PySem.W.mg_of X G a17, F18 := F18, b18 := b18, g18 := PySem.W.mg_of X G a18, F19 := F19, b19 := b19, g19 := PySem.W.mg_of X G a19, F20 := F20, b20 := b20, g20 := PySem.W.mg_of X G a20, F21 := F21, b21 := b21, g21 := PySem.W.mg_of X G a21, F22 := F22, b22 := b22, g22 := PySem.W.mg_of X G a22, F23 := F23, b23 := b23, g23 := PySem.W.mg_of X G a23, F24 := F24, b24 := b24, g24 := PySem.W.mg_of X G a24, F25 := F25, b25 := b25, g25 := PySem.W.mg_of X G a25, int := PySem.W.mg_none_of X G z0, range := PySem.W.mg_none_of X G z1, list := PySem.W.mg_none_of X G z2, sorted := PySem.W.mg_none_of X G z3, len := PySem.W.mg_none_of X G z4, tuple := PySem.W.mg_none_of X G z5, min := PySem.W.mg_none_of X G z6, zip := PySem.W.mg_none_of X G z7, enumerate := PySem.W.mg_none_of X G z8, isinstance := PySem.W.mg_none_of X G z9, bool := PySem.W.mg_none_of X G z10, str := PySem.W.mg_none_of X G z11 }
  refine ⟨PySem.W.fnOf "law" "law" (defArgs sLaw) (defBody sLaw) (defScope sLaw) .none kV26 dc26 pm26 an26 cd26 ct26, [(cA, Pt)], spLaw K Pt, fun p hp => ?_, fun p hp => ?_, fun p hp => ?_, fun s v => .of_eq rfl, fun H a ns hl _ hH hS => ⟨a, ns, rfl, hS, hl, fun p hp => ?_, fun _ => rfl⟩, fun base _ _ hTB => ok_law F26 D rfl (hTB (cA, Pt) (List.mem_singleton.mpr rfl))⟩
  · cases List.mem_singleton.mp hp
    exact tabs _ hPt
  · cases List.mem_singleton.mp hp
    exact nT
  · cases List.mem_singleton.mp hp
    exact PySem.W.codeHd_of_K X hcd
  · cases List.mem_singleton.mp hp
    exact TabS.nil (hH (cA, Pt) (List.mem_singleton.mpr rfl))
end K05
open PySem PySem.W PyProof.Rows
set_option maxHeartbeats 0 in
theorem PySem.Challenge.cw_neverhalves_k05_letters_freed_and_ones_holds : PySem.Challenge.rw_neverhalves_k05_letters_freed_and_ones.Holds := by
  w_on; o_law; k_head; (case hw => w_witness2)
  k_fill
  refine LamX.walk_ofTs (l := PySem.Challenge.rw_neverhalves_k05_letters_freed_and_ones) (n := 63) (k := 8) (x := "_law_script") (CX := fun _ => L2.CX0) rfl (by decide) rfl ⟨rfl, by decide, by decide⟩ (fun w h Y => PySem.W.km_in_of Y) ?F (fun _ _ _ _ _ h => h)
  case F =>
    intro w mg fa h Y KX G hmg
    have tabs := PySem.W.km_tabs_of Y
    refine' K05.all_mk KX G hmg ?a0 ?l0 ?c0 ?k0 ?a1 ?l1 ?c1 ?k1 ?a2 ?l2 ?c2 ?k2 ?a3 ?l3 ?c3 ?k3 ?a4 ?l4 ?c4 ?k4 ?a5 ?l5 ?c5 ?k5 ?a6 ?l6 ?c6 ?k6 ?a7 ?l7 ?c7 ?k7 ?a8 ?l8 ?c8 ?k8 ?a9 ?l9 ?c9 ?k9 ?a10 ?l10 ?c10 ?k10 ?a11 ?l11 ?c11 ?k11 ?a12 ?l12 ?c12 ?k12 ?a13 ?l13 ?c13 ?k13 ?a14 ?l14 ?c14 ?k14 ?a15 ?l15 ?c15 ?k15 ?a16 ?l16 ?c16 ?k16 ?a17 ?l17 ?c17 ?k17 ?a18 ?l18 ?c18 ?k18 ?a19 ?l19 ?c19 ?k19 ?a20 ?l20 ?c20 ?k20 ?a21 ?l21 ?c21 ?k21 ?a22 ?l22 ?c22 ?k22 ?a23 ?l23 ?c23 ?k23 ?a24 ?l24 ?c24 ?k24 ?a25 ?l25 ?c25 ?k25 ?a26 ?l26 ?c26 ?k26 ?z0 ?z1 ?z2 ?z3 ?z4 ?z5 ?z6 ?z7 ?z8 ?z9 ?z10 ?z11 tabs ?hPt ?nT ?hcd
    (case a0 => k_is); (case l0 => k_is); (case c0 => k_is); (case k0 => k_is); (case a1 => k_is); (case l1 => k_is); (case c1 => k_is); (case k1 => k_is); (case a2 => k_is); (case l2 => k_is); (case c2 => k_is); (case k2 => k_is); (case a3 => k_is); (case l3 => k_is); (case c3 => k_is); (case k3 => k_is); (case a4 => k_is); (case l4 => k_is); (case c4 => k_is); (case k4 => k_is); (case a5 => k_is); (case l5 => k_is); (case c5 => k_is); (case k5 => k_is); (case a6 => k_is); (case l6 => k_is); (case c6 => k_is); (case k6 => k_is); (case a7 => k_is); (case l7 => k_is); (case c7 => k_is); (case k7 => k_is); (case a8 => k_is); (case l8 => k_is); (case c8 => k_is); (case k8 => k_is); (case a9 => k_is); (case l9 => k_is); (case c9 => k_is); (case k9 => k_is); (case a10 => k_is); (case l10 => k_is); (case c10 => k_is); (case k10 => k_is); (case a11 => k_is); (case l11 => k_is); (case c11 => k_is); (case k11 => k_is); (case a12 => k_is); (case l12 => k_is); (case c12 => k_is); (case k12 => k_is); (case a13 => k_is); (case l13 => k_is); (case c13 => k_is); (case k13 => k_is); (case a14 => k_is); (case l14 => k_is); (case c14 => k_is); (case k14 => k_is); (case a15 => k_is); (case l15 => k_is); (case c15 => k_is); (case k15 => k_is); (case a16 => k_is); (case l16 => k_is); (case c16 => k_is); (case k16 => k_is); (case a17 => k_is); (case l17 => k_is); (case c17 => k_is); (case k17 => k_is); (case a18 => k_is); (case l18 => k_is); (case c18 => k_is); (case k18 => k_is); (case a19 => k_is); (case l19 => k_is); (case c19 => k_is); (case k19 => k_is); (case a20 => k_is); (case l20 => k_is); (case c20 => k_is); (case k20 => k_is); (case a21 => k_is); (case l21 => k_is); (case c21 => k_is); (case k21 => k_is); (case a22 => k_is); (case l22 => k_is); (case c22 => k_is); (case k22 => k_is); (case a23 => k_is); (case l23 => k_is); (case c23 => k_is); (case k23 => k_is); (case a24 => k_is); (case l24 => k_is); (case c24 => k_is); (case k24 => k_is); (case a25 => k_is); (case l25 => k_is); (case c25 => k_is); (case k25 => k_is); (case a26 => k_is); (case l26 => k_is); (case c26 => k_is); (case k26 => k_is); (case z0 => k_is); (case z1 => k_is); (case z2 => k_is); (case z3 => k_is); (case z4 => k_is); (case z5 => k_is); (case z6 => k_is); (case z7 => k_is); (case z8 => k_is); (case z9 => k_is); (case z10 => k_is); (case z11 => k_is); (case hPt => exact List.mem_singleton.mpr rfl); (case nT => first | k_is | rfl | decide +kernel); (case hcd => first | k_is | rfl | decide +kernel)
