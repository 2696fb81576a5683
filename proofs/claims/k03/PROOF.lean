import PyProof.Rows.All
import Wide.All
import OpenK.AllK
import Wide.FinOn
import PySem.Challenge.RW_neverhalves_k03_whole_values_as_fraction
import HandS.ForMost
import HandS.ForExc
import HandS.Wide
import HandS.Evl
import HandS.Codes
import HandS.Style
import HandS.Defaults
import HandS.IsInst
import HandS.Exc
import HandS.ExcInit
import HandS.ExcField
import HandS.ExcIs
import HandS.TryMany
import HandS.Conv
import HandS.TupLe
import HandS.TupAny
import HandS.TupMul
import HandS.TupLen
import HandS.TupSets
import HandS.SortOrd
import HandS.Walk
import HandS.DictComp
import PyProof.FactsAll.tuple_2
import KE.GoesMore
import HandS.Gcd
import HandS.Words
import KE.KDictZip
import KE.KItemsList
import HandS.Star
import HandS.Zip
import KE.GoesZip
import PyProof.Draws
import HandS.WideBits
import HandS.Dict
import HandS.ListItems
import HandS.SetKeys
import HandS.Iter
import HandS.More
import HandS.SortKw
import HandS.DictSubView
import KE.KDictSum
import KE.KDictList
import PyProof.MinMaxWalk
import PyProof.WalkInts
import HandS.WordsDict
import PyProof.DictDisplay
import PyProof.DictTable
import PyProof.DictRoadsH
import HandS.EndBits
import HandS.Sort
import PyProof.Rows.StrJoinMade
import PyProof.Rows.StrDigitsNeg
set_option Elab.async false
set_option linter.all false
set_option maxRecDepth 100000
set_option maxHeartbeats 4000000
namespace NH
open PySem PySem.Spec PyProof.Rows L2
def topS (i : Nat) : Stmt := PySem.Challenge.pw_neverhalves_k03_whole_values_as_fraction.main.body.getD i (.Pass ⟨0, 0, 0, 0⟩)
abbrev s_lines_of : Stmt := topS 6
abbrev N_lines_of : List Str := ["told", "rows", "powers", "_"]
theorem sc_lines_of : FnScope N_lines_of ["told"] (defScope s_lines_of) := ⟨rfl, rfl, rfl, by decide +kernel, rfl, by decide +kernel, by decide +kernel⟩
abbrev s_least_of : Stmt := topS 7
abbrev N_least_of : List Str := ["told", "line"]
theorem sc_least_of : FnScope N_least_of ["told"] (defScope s_least_of) := ⟨rfl, rfl, rfl, by decide +kernel, rfl, by decide +kernel, by decide +kernel⟩
abbrev s_moved : Stmt := topS 8
abbrev N_moved : List Str := ["told", "powers", "sign", "own", "coefficient", "one", "other"]
theorem sc_moved : FnScope N_moved ["told", "powers", "sign"] (defScope s_moved) := ⟨rfl, rfl, rfl, by decide +kernel, rfl, by decide +kernel, by decide +kernel⟩
abbrev s_packed_plus : Stmt := topS 9
abbrev N_packed_plus : List Str := ["one", "other", "key", "terms", "coefficient"]
theorem sc_packed_plus : FnScope N_packed_plus ["one", "other"] (defScope s_packed_plus) := ⟨rfl, rfl, rfl, by decide +kernel, rfl, by decide +kernel, by decide +kernel⟩
abbrev s_packed_times : Stmt := topS 10
abbrev N_packed_times : List Str := ["one", "other", "pairs", "terms", "key", "coefficient", "further", "factor", "at"]
theorem sc_packed_times : FnScope N_packed_times ["one", "other"] (defScope s_packed_times) := ⟨rfl, rfl, rfl, by decide +kernel, rfl, by decide +kernel, by decide +kernel⟩
abbrev s_whole_power : Stmt := topS 11
abbrev N_whole_power : List Str := ["base", "times", "result"]
theorem sc_whole_power : FnScope N_whole_power ["base", "times"] (defScope s_whole_power) := ⟨rfl, rfl, rfl, by decide +kernel, rfl, by decide +kernel, by decide +kernel⟩
abbrev s_packed_by_power : Stmt := topS 12
abbrev N_packed_by_power : List Str := ["terms", "factor", "times", "key", "_"]
theorem sc_packed_by_power : FnScope N_packed_by_power ["terms", "factor", "times"] (defScope s_packed_by_power) := ⟨rfl, rfl, rfl, by decide +kernel, rfl, by decide +kernel, by decide +kernel⟩
abbrev s_lifted : Stmt := topS 13
abbrev N_lifted : List Str := ["told", "missing", "low"]
theorem sc_lifted : FnScope N_lifted ["told"] (defScope s_lifted) := ⟨rfl, rfl, rfl, by decide +kernel, rfl, by decide +kernel, by decide +kernel⟩
abbrev s_value_of : Stmt := topS 14
abbrev N_value_of : List Str := ["told", "numbers", "missing", "terms", "number", "top", "bottom", "times", "common"]
theorem sc_value_of : FnScope N_value_of ["told", "numbers"] (defScope s_value_of) := ⟨rfl, rfl, rfl, by decide +kernel, rfl, by decide +kernel, by decide +kernel⟩
abbrev s_gathered : Stmt := topS 15
abbrev N_gathered : List Str := ["terms", "factors", "many", "groups", "powers", "coefficient", "result", "ahead", "power"]
theorem sc_gathered : FnScope N_gathered ["terms", "factors", "many"] (defScope s_gathered) := ⟨rfl, rfl, rfl, by decide +kernel, rfl, by decide +kernel, by decide +kernel⟩
abbrev s_is_sum : Stmt := topS 17
abbrev N_is_sum : List Str := ["told", "many", "at", "powers", "coefficient"]
theorem sc_is_sum : FnScope N_is_sum ["told", "many"] (defScope s_is_sum) := ⟨rfl, rfl, rfl, by decide +kernel, rfl, by decide +kernel, by decide +kernel⟩
abbrev s_check_sum : Stmt := topS 18
abbrev N_check_sum : List Str := ["told", "many"]
theorem sc_check_sum : FnScope N_check_sum ["told", "many"] (defScope s_check_sum) := ⟨rfl, rfl, rfl, by decide +kernel, rfl, by decide +kernel, by decide +kernel⟩
abbrev s_letters_of : Stmt := topS 19
abbrev N_letters_of : List Str := ["sums", "many", "told"]
theorem sc_letters_of : FnScope N_letters_of ["sums"] (defScope s_letters_of) := ⟨rfl, rfl, rfl, by decide +kernel, rfl, by decide +kernel, by decide +kernel⟩
abbrev s_value : Stmt := topS 20
abbrev N_value : List Str := ["one", "numbers", "many"]
theorem sc_value : FnScope N_value ["one", "numbers"] (defScope s_value) := ⟨rfl, rfl, rfl, by decide +kernel, rfl, by decide +kernel, by decide +kernel⟩
abbrev s__law_stock : Stmt := topS 22
abbrev N__law_stock : List Str := ["_law_script", "_law_stock_here", "_law_cell"]
theorem sc__law_stock : FnScope N__law_stock ["_law_script"] (defScope s__law_stock) := ⟨rfl, rfl, rfl, by decide +kernel, rfl, by decide +kernel, by decide +kernel⟩
abbrev s__law_pick : Stmt := topS 23
abbrev N__law_pick : List Str := ["_law_stock_here", "_law_limit", "_law_found", "_law_turn"]
theorem sc__law_pick : FnScope N__law_pick ["_law_stock_here", "_law_limit"] (defScope s__law_pick) := ⟨rfl, rfl, rfl, by decide +kernel, rfl, by decide +kernel, by decide +kernel⟩
abbrev s__law_wide : Stmt := topS 24
abbrev N__law_wide : List Str := ["_law_stock_here", "_law_limit", "_law_total", "_law_k"]
theorem sc__law_wide : FnScope N__law_wide ["_law_stock_here", "_law_limit"] (defScope s__law_wide) := ⟨rfl, rfl, rfl, by decide +kernel, rfl, by decide +kernel, by decide +kernel⟩
abbrev s__law_same : Stmt := topS 25
abbrev N__law_same : List Str := ["_law_told", "_law_due", "_law_one", "_law_other"]
theorem sc__law_same : FnScope N__law_same ["_law_told", "_law_due"] (defScope s__law_same) := ⟨rfl, rfl, rfl, by decide +kernel, rfl, by decide +kernel, by decide +kernel⟩
abbrev s__law_written : Stmt := topS 26
abbrev N__law_written : List Str := ["_law_terms_here", "_law_powers"]
theorem sc__law_written : FnScope N__law_written ["_law_terms_here"] (defScope s__law_written) := ⟨rfl, rfl, rfl, by decide +kernel, rfl, by decide +kernel, by decide +kernel⟩
abbrev s__law_plus : Stmt := topS 27
abbrev N__law_plus : List Str := ["_law_one", "_law_other", "_law_result", "_law_terms_here", "_law_powers"]
theorem sc__law_plus : FnScope N__law_plus ["_law_one", "_law_other"] (defScope s__law_plus) := ⟨rfl, rfl, rfl, by decide +kernel, rfl, by decide +kernel, by decide +kernel⟩
abbrev s__law_times : Stmt := topS 28
abbrev N__law_times : List Str := ["_law_one", "_law_other", "_law_result", "_law_powers", "_law_more", "_law_key", "_law_a", "_law_b"]
theorem sc__law_times : FnScope N__law_times ["_law_one", "_law_other"] (defScope s__law_times) := ⟨rfl, rfl, rfl, by decide +kernel, rfl, by decide +kernel, by decide +kernel⟩
abbrev s__law_terms : Stmt := topS 29
abbrev N__law_terms : List Str := ["_law_stock_here", "_law_many", "_law_most", "_law_span", "_law_great", "_law_terms_here", "_law_k", "_law_powers", "_law_j"]
theorem sc__law_terms : FnScope N__law_terms ["_law_stock_here", "_law_many", "_law_most", "_law_span", "_law_great"] (defScope s__law_terms) := ⟨rfl, rfl, rfl, by decide +kernel, rfl, by decide +kernel, by decide +kernel⟩
abbrev s__law_gcd : Stmt := topS 30
abbrev N__law_gcd : List Str := ["_law_one", "_law_other"]
theorem sc__law_gcd : FnScope N__law_gcd ["_law_one", "_law_other"] (defScope s__law_gcd) := ⟨rfl, rfl, rfl, by decide +kernel, rfl, by decide +kernel, by decide +kernel⟩
abbrev s__law_lowest : Stmt := topS 31
abbrev N__law_lowest : List Str := ["_law_top", "_law_bottom", "_law_shared"]
theorem sc__law_lowest : FnScope N__law_lowest ["_law_top", "_law_bottom"] (defScope s__law_lowest) := ⟨rfl, rfl, rfl, by decide +kernel, rfl, by decide +kernel, by decide +kernel⟩
abbrev s__law_worth : Stmt := topS 32
abbrev N__law_worth : List Str := ["_law_terms_here", "_law_numbers_here", "_law_rows", "_law_number", "_law_row", "_law_k", "_law_top", "_law_bottom", "_law_powers", "_law_part", "_law_power"]
theorem sc__law_worth : FnScope N__law_worth ["_law_terms_here", "_law_numbers_here"] (defScope s__law_worth) := ⟨rfl, rfl, rfl, by decide +kernel, rfl, by decide +kernel, by decide +kernel⟩
abbrev s__law_numbers : Stmt := topS 33
abbrev N__law_numbers : List Str := ["_law_stock_here", "_law_many", "_law_numbers_here", "_law_j", "_law_number"]
theorem sc__law_numbers : FnScope N__law_numbers ["_law_stock_here", "_law_many"] (defScope s__law_numbers) := ⟨rfl, rfl, rfl, by decide +kernel, rfl, by decide +kernel, by decide +kernel⟩
abbrev s__law_balanced : Stmt := topS 34
abbrev N__law_balanced : List Str := ["_law_stock_here", "_law_many", "_law_more", "_law_terms_here", "_law_numbers_here", "_law_top", "_law_bottom", "_law_result", "_law_powers", "_law_j"]
theorem sc__law_balanced : FnScope N__law_balanced ["_law_stock_here", "_law_many", "_law_more"] (defScope s__law_balanced) := ⟨rfl, rfl, rfl, by decide +kernel, rfl, by decide +kernel, by decide +kernel⟩
abbrev s__law_long : Stmt := topS 35
abbrev N__law_long : List Str := ["_law_stock_here", "_law_many", "_law_steps", "_law_great", "_law_terms_here", "_law_k", "_law_powers", "_law_j", "_law_a", "_law_b", "_law_c"]
theorem sc__law_long : FnScope N__law_long ["_law_stock_here", "_law_many"] (defScope s__law_long) := ⟨rfl, rfl, rfl, by decide +kernel, rfl, by decide +kernel, by decide +kernel⟩
abbrev s__law_is_told : Stmt := topS 36
abbrev N__law_is_told : List Str := ["_law_terms_here", "_law_numbers_here", "_law_one", "_law_given", "_law_due"]
theorem sc__law_is_told : FnScope N__law_is_told ["_law_terms_here", "_law_numbers_here"] (defScope s__law_is_told) := ⟨rfl, rfl, rfl, by decide +kernel, rfl, by decide +kernel, by decide +kernel⟩
abbrev s_law : Stmt := topS 37
abbrev N_law : List Str := ["_law_script", "_law_stock_here", "_law_turn", "_law_many", "_law_way", "_law_span", "_law_great", "_law_terms_here", "_law_numbers_here", "_law_given", "_law_j", "_law_number"]
theorem sc_law : FnScope N_law ["_law_script"] (defScope s_law) := ⟨rfl, rfl, rfl, by decide +kernel, rfl, by decide +kernel, by decide +kernel⟩
abbrev s_SwapError_init : Stmt := (match topS 2 with | .ClassDef _ _ _ b _ _ _ _ _ _ _ => b.getD 0 (.Pass ⟨0, 0, 0, 0⟩) | _ => .Pass ⟨0, 0, 0, 0⟩)
abbrev i_lines_of : Nat := 0
abbrev i_least_of : Nat := 1
abbrev i_moved : Nat := 2
abbrev i_packed_plus : Nat := 3
abbrev i_packed_times : Nat := 4
abbrev i_whole_power : Nat := 5
abbrev i_packed_by_power : Nat := 6
abbrev i_lifted : Nat := 7
abbrev i_value_of : Nat := 8
abbrev i_gathered : Nat := 9
abbrev i_is_sum : Nat := 10
abbrev i_check_sum : Nat := 11
abbrev i_letters_of : Nat := 12
abbrev i_value : Nat := 13
abbrev i__law_stock : Nat := 14
abbrev i__law_pick : Nat := 15
abbrev i__law_wide : Nat := 16
abbrev i__law_same : Nat := 17
abbrev i__law_written : Nat := 18
abbrev i__law_plus : Nat := 19
abbrev i__law_times : Nat := 20
abbrev i__law_terms : Nat := 21
abbrev i__law_gcd : Nat := 22
abbrev i__law_lowest : Nat := 23
abbrev i__law_worth : Nat := 24
abbrev i__law_numbers : Nat := 25
abbrev i__law_balanced : Nat := 26
abbrev i__law_long : Nat := 27
abbrev i__law_is_told : Nat := 28
abbrev i_law : Nat := 29
abbrev c_SwapError : Nat := 0
abbrev c_InvalidSum : Nat := 1
abbrev c_InvalidNumbers : Nat := 2
/-- where the defs stand -/
structure Defs (K : PySem.W.Frag) (mg : Str → Option Value) (f : Nat → Addr) (d : Nat → FuncData) : Prop where
  F_lines_of : Fun K "lines_of" "lines_of" s_lines_of (f i_lines_of) (d i_lines_of)
  b_lines_of : Binds K (d i_lines_of) ["told"] []
  g_lines_of : mg "lines_of" = some (.ref (f i_lines_of))
  F_least_of : Fun K "least_of" "least_of" s_least_of (f i_least_of) (d i_least_of)
  b_least_of : Binds K (d i_least_of) ["told"] []
  g_least_of : mg "least_of" = some (.ref (f i_least_of))
  F_moved : Fun K "moved" "moved" s_moved (f i_moved) (d i_moved)
  b_moved : Binds K (d i_moved) ["told", "powers", "sign"] []
  g_moved : mg "moved" = some (.ref (f i_moved))
  F_packed_plus : Fun K "packed_plus" "packed_plus" s_packed_plus (f i_packed_plus) (d i_packed_plus)
  b_packed_plus : Binds K (d i_packed_plus) ["one", "other"] []
  g_packed_plus : mg "packed_plus" = some (.ref (f i_packed_plus))
  F_packed_times : Fun K "packed_times" "packed_times" s_packed_times (f i_packed_times) (d i_packed_times)
  b_packed_times : Binds K (d i_packed_times) ["one", "other"] []
  g_packed_times : mg "packed_times" = some (.ref (f i_packed_times))
  F_whole_power : Fun K "whole_power" "whole_power" s_whole_power (f i_whole_power) (d i_whole_power)
  b_whole_power : Binds K (d i_whole_power) ["base", "times"] []
  g_whole_power : mg "whole_power" = some (.ref (f i_whole_power))
  F_packed_by_power : Fun K "packed_by_power" "packed_by_power" s_packed_by_power (f i_packed_by_power) (d i_packed_by_power)
  b_packed_by_power : Binds K (d i_packed_by_power) ["terms", "factor", "times"] []
  g_packed_by_power : mg "packed_by_power" = some (.ref (f i_packed_by_power))
  F_lifted : Fun K "lifted" "lifted" s_lifted (f i_lifted) (d i_lifted)
  b_lifted : Binds K (d i_lifted) ["told"] []
  g_lifted : mg "lifted" = some (.ref (f i_lifted))
  F_value_of : Fun K "value_of" "value_of" s_value_of (f i_value_of) (d i_value_of)
  b_value_of : Binds K (d i_value_of) ["told", "numbers"] []
  g_value_of : mg "value_of" = some (.ref (f i_value_of))
  F_gathered : Fun K "gathered" "gathered" s_gathered (f i_gathered) (d i_gathered)
  b_gathered : Binds K (d i_gathered) ["terms", "factors", "many"] []
  g_gathered : mg "gathered" = some (.ref (f i_gathered))
  F_is_sum : Fun K "is_sum" "is_sum" s_is_sum (f i_is_sum) (d i_is_sum)
  b_is_sum : Binds K (d i_is_sum) ["told", "many"] []
  g_is_sum : mg "is_sum" = some (.ref (f i_is_sum))
  F_check_sum : Fun K "check_sum" "check_sum" s_check_sum (f i_check_sum) (d i_check_sum)
  b_check_sum : Binds K (d i_check_sum) ["told", "many"] []
  g_check_sum : mg "check_sum" = some (.ref (f i_check_sum))
  F_letters_of : Fun K "letters_of" "letters_of" s_letters_of (f i_letters_of) (d i_letters_of)
  b_letters_of : Binds K (d i_letters_of) ["sums"] []
  g_letters_of : mg "letters_of" = some (.ref (f i_letters_of))
  F_value : Fun K "value" "value" s_value (f i_value) (d i_value)
  b_value : Binds K (d i_value) ["one", "numbers"] []
  g_value : mg "value" = some (.ref (f i_value))
  F__law_stock : Fun K "_law_stock" "_law_stock" s__law_stock (f i__law_stock) (d i__law_stock)
  b__law_stock : Binds K (d i__law_stock) ["_law_script"] []
  g__law_stock : mg "_law_stock" = some (.ref (f i__law_stock))
  F__law_pick : Fun K "_law_pick" "_law_pick" s__law_pick (f i__law_pick) (d i__law_pick)
  b__law_pick : Binds K (d i__law_pick) ["_law_stock_here", "_law_limit"] []
  g__law_pick : mg "_law_pick" = some (.ref (f i__law_pick))
  F__law_wide : Fun K "_law_wide" "_law_wide" s__law_wide (f i__law_wide) (d i__law_wide)
  b__law_wide : Binds K (d i__law_wide) ["_law_stock_here", "_law_limit"] []
  g__law_wide : mg "_law_wide" = some (.ref (f i__law_wide))
  F__law_same : Fun K "_law_same" "_law_same" s__law_same (f i__law_same) (d i__law_same)
  b__law_same : Binds K (d i__law_same) ["_law_told", "_law_due"] []
  g__law_same : mg "_law_same" = some (.ref (f i__law_same))
  F__law_written : Fun K "_law_written" "_law_written" s__law_written (f i__law_written) (d i__law_written)
  b__law_written : Binds K (d i__law_written) ["_law_terms_here"] []
  g__law_written : mg "_law_written" = some (.ref (f i__law_written))
  F__law_plus : Fun K "_law_plus" "_law_plus" s__law_plus (f i__law_plus) (d i__law_plus)
  b__law_plus : Binds K (d i__law_plus) ["_law_one", "_law_other"] []
  g__law_plus : mg "_law_plus" = some (.ref (f i__law_plus))
  F__law_terms : Fun K "_law_terms" "_law_terms" s__law_terms (f i__law_terms) (d i__law_terms)
  b__law_terms : Binds K (d i__law_terms) ["_law_stock_here", "_law_many", "_law_most", "_law_span", "_law_great"] []
  g__law_terms : mg "_law_terms" = some (.ref (f i__law_terms))
  F__law_gcd : Fun K "_law_gcd" "_law_gcd" s__law_gcd (f i__law_gcd) (d i__law_gcd)
  b__law_gcd : Binds K (d i__law_gcd) ["_law_one", "_law_other"] []
  g__law_gcd : mg "_law_gcd" = some (.ref (f i__law_gcd))
  F__law_lowest : Fun K "_law_lowest" "_law_lowest" s__law_lowest (f i__law_lowest) (d i__law_lowest)
  b__law_lowest : Binds K (d i__law_lowest) ["_law_top", "_law_bottom"] []
  g__law_lowest : mg "_law_lowest" = some (.ref (f i__law_lowest))
  F__law_worth : Fun K "_law_worth" "_law_worth" s__law_worth (f i__law_worth) (d i__law_worth)
  b__law_worth : Binds K (d i__law_worth) ["_law_terms_here", "_law_numbers_here"] []
  g__law_worth : mg "_law_worth" = some (.ref (f i__law_worth))
  F__law_numbers : Fun K "_law_numbers" "_law_numbers" s__law_numbers (f i__law_numbers) (d i__law_numbers)
  b__law_numbers : Binds K (d i__law_numbers) ["_law_stock_here", "_law_many"] []
  g__law_numbers : mg "_law_numbers" = some (.ref (f i__law_numbers))
  F__law_balanced : Fun K "_law_balanced" "_law_balanced" s__law_balanced (f i__law_balanced) (d i__law_balanced)
  b__law_balanced : Binds K (d i__law_balanced) ["_law_stock_here", "_law_many", "_law_more"] []
  g__law_balanced : mg "_law_balanced" = some (.ref (f i__law_balanced))
  F__law_long : Fun K "_law_long" "_law_long" s__law_long (f i__law_long) (d i__law_long)
  b__law_long : Binds K (d i__law_long) ["_law_stock_here", "_law_many"] []
  g__law_long : mg "_law_long" = some (.ref (f i__law_long))
  F__law_is_told : Fun K "_law_is_told" "_law_is_told" s__law_is_told (f i__law_is_told) (d i__law_is_told)
  b__law_is_told : Binds K (d i__law_is_told) ["_law_terms_here", "_law_numbers_here"] []
  g__law_is_told : mg "_law_is_told" = some (.ref (f i__law_is_told))
  z_ValueError : mg "ValueError" = none
  z_abs : mg "abs" = none
  z_bool : mg "bool" = none
  z_enumerate : mg "enumerate" = none
  z_int : mg "int" = none
  z_isinstance : mg "isinstance" = none
  z_len : mg "len" = none
  z_list : mg "list" = none
  z_max : mg "max" = none
  z_min : mg "min" = none
  z_range : mg "range" = none
  z_sorted : mg "sorted" = none
  z_str : mg "str" = none
  z_tuple : mg "tuple" = none
  z_zip : mg "zip" = none
end NH
set_option Elab.async false
set_option linter.all false
set_option maxRecDepth 100000
namespace R1
open PySem PySem.Spec PyProof.Rows L2
/-! ### the order of lists of ints -/
theorem lex_irrefl : ∀ ns : List Int, HT.lexLt ns ns = false
  | [] => rfl
  | x :: r => by rw [HT.lexLt_cons, if_pos rfl]; exact lex_irrefl r
theorem lex_asym : ∀ ns ms : List Int, HT.lexLt ns ms = true → HT.lexLt ms ns = false
  | [], [], h => by cases h
  | [], _ :: _, _ => rfl
  | _ :: _, [], h => by cases h
  | x :: r, y :: q, h => by
    rw [HT.lexLt_cons] at h ⊢
    by_cases e : x = y
    · rw [if_pos e] at h
      rw [if_pos e.symm]
      exact lex_asym r q h
    · rw [if_neg e] at h
      rw [if_neg (fun z => e z.symm)]
      have := of_decide_eq_true h
      exact decide_eq_false (by omega)
theorem lex_tr : ∀ x y z : List Int, HT.lexLt x y = false → HT.lexLt z x = false → HT.lexLt z y = false
  | [], [], z, _, h => h
  | [], _ :: _, _, h, _ => by cases h
  | _ :: _, _, [], _, h => by cases h
  | _ :: _, [], _ :: _, _, _ => rfl
  | x :: r, y :: q, z :: s, h1, h2 => by
    rw [HT.lexLt_cons] at h1 h2 ⊢
    by_cases e1 : x = y
    · rw [if_pos e1] at h1
      by_cases e2 : z = x
      · rw [if_pos e2] at h2
        rw [if_pos (e2.trans e1)]
        exact lex_tr r q s h1 h2
      · rw [if_neg e2] at h2
        have := of_decide_eq_false h2
        rw [if_neg (by omega)]
        exact decide_eq_false (by omega)
    · rw [if_neg e1] at h1
      have a1 := of_decide_eq_false h1
      by_cases e2 : z = x
      · rw [if_neg (by omega)]
        exact decide_eq_false (by omega)
      · rw [if_neg e2] at h2
        have a2 := of_decide_eq_false h2
        rw [if_neg (by omega)]
        exact decide_eq_false (by omega)

theorem swo_lexK {α : Type} (k : α → List Int) : SrtO.Swo fun v u => HT.lexLt (k v) (k u) :=
  ⟨fun x y h => lex_asym _ _ h, fun x y z h1 h2 => lex_tr _ _ _ h1 h2⟩
section
variable {prog : Program} {w : World} {A : Around} {E : Value → Shared → Prop} {s : Shared}
theorem kat_ints {Q : Bool → Shared → Prop} : ∀ (i : Nat) {vs us : List Value} {ns ms : List Int}, IntsAre vs ns → IntsAre us ms → Q (HT.lexLt ns ms) s → PySem.W.KatLex prog w A true (decide (ns.length < ms.length)) Q (vs.zip us) i s
  | i, _, _, [], [], .nil, .nil, q => q
  | i, _, _, [], m :: ms, .nil, .cons _ _ _, q => by
    have e : decide (([] : List Int).length < (m :: ms).length) = true := decide_eq_true (by simp)
    rw [e]
    exact q
  | i, _, _, _ :: _, [], .cons _ _ _, .nil, q => by
    rw [decide_eq_false (by simp)]
    exact q
  | i, _, _, n :: ns, m :: ms, .cons _ t r, .cons _ t' r', q => by
    refine PySem.W.kat_cons (SeqAt.EqAt.int_int _ _ _ _ prog w _ _ ?_)
    rw [HT.lexLt_cons] at q
    refine PySem.W.kat_go (fun e1 => ?_) (fun e1 => ?_)
    · have ex : n = m := by simpa using e1
      rw [if_pos ex] at q
      have z := kat_ints (Q := Q) (i + 1) r r' q
      refine PySem.W.kat_yes ?_
      have e2 : decide ((n :: ns).length < (m :: ms).length) = decide (ns.length < ms.length) := by simp
      rw [e2]
      exact z
    · have ex : ¬ n = m := by simpa using e1
      rw [if_neg ex] at q
      exact PySem.W.kat_no (TS.oneLt_ints _ q)
theorem firsts {h : Heap} : ∀ vs : List Value, (∀ v ∈ vs, ∃ ns, TS.TupInts h v ns ∧ ns ≠ []) → ∃ fs, PySem.W.KatTups h vs fs ∧ fs.length = vs.length ∧ ∀ f, f ∈ fs → ∃ n t, f = Value.int n t
  | [], _ => ⟨[], PySem.W.KatTups.nil, rfl, fun f hf => by simp at hf⟩
  | v :: vs, x => by
    obtain ⟨fs, k, hl, hi⟩ := firsts vs fun u hu => x u (List.mem_cons_of_mem _ hu)
    obtain ⟨ns, ⟨a, xs, rfl, ⟨o, ho, hc, n, hdt⟩, i⟩, hn⟩ := x v (List.mem_cons_self ..)
    obtain ⟨y, ys, e⟩ : ∃ y ys, xs.toList = y :: ys := by
      cases q : xs.toList with
      | nil =>
        rw [q] at i
        cases i
        exact absurd rfl hn
      | cons y ys => exact ⟨y, ys, rfl⟩
    obtain ⟨m, t, hy⟩ := i.all y (by rw [e]; exact List.mem_cons_self ..)
    refine ⟨y :: fs, PySem.W.KatTups.cons ho hc hdt ?_ k, by simp [hl], ?_⟩
    · have z := congrArg (fun l : List Value => l[0]?) e
      simpa using z
    · intro f hf
      rcases List.mem_cons.mp hf with rfl | hf
      · exact ⟨m, t, hy⟩
      · exact hi f hf
theorem tup_cmp {vs : List Value} {k : Value → List Int} (hp : ∀ v ∈ vs, TS.TupInts s.heap v (k v)) : SrtO.Cmp prog w A s (tuples' true) (fun p => p.1 ∈ vs) (SrtO.lt2 fun v u => HT.lexLt (k v) (k u)) := by
  intro p q hm hm'
  obtain ⟨a, xs, e1, ⟨o, ho, hc, n, hdt⟩, i⟩ := hp _ hm
  obtain ⟨a', ys, e2, ⟨o', ho', hc', n', hdt'⟩, i'⟩ := hp _ hm'
  show wpAny (model prog w) A (keyLt' (tuples' true) p.1 q.1) (fun r s' => s' = s ∧ r = HT.lexLt (k p.1) (k q.1)) (fun _ _ => False) s
  have z := kat_ints (prog := prog) (w := w) (A := A) (s := s) (Q := fun r s' => s' = s ∧ r = HT.lexLt (k p.1) (k q.1)) 0 i i' ⟨rfl, rfl⟩
  rw [e1, e2] at z ⊢
  refine PySem.W.kat_lt ho hdt ho' hdt' ?_
  have l1 := i.length
  have l2 := i'.length
  rw [Array.length_toList] at l1 l2
  rw [e1] at l1
  rw [e2] at l2
  rw [l1, l2]
  exact z
theorem tups_sortable {a : Addr} {vs : List Value} {k : Value → List Int} (h0 : 0 < vs.length) (hp : ∀ v ∈ vs, TS.TupInts s.heap v (k v) ∧ k v ≠ []) (ha : ∀ o, s.heap.get? a = some o → o.cls ≠ .type "tuple") : SrtO.SortableO prog w A s a vs fun v u => HT.lexLt (k v) (k u) := by
  intro h' keep
  have hp' : ∀ v ∈ vs, TS.TupInts h' v (k v) := fun v hm => (hp v hm).1.keeps fun b o e c => keep b o (fun z => by subst z; exact ha o e c) e
  obtain ⟨fs, h1, h2, h3⟩ := firsts vs fun v hm => ⟨_, hp' v hm, (hp v hm).2⟩
  refine ⟨tuples' true, fun Q E hq => ?_, tup_cmp hp'⟩
  refine PySem.W.kat_kind (T := .type "int") h1 (by omega) (fun f hm => ?_) (by rfl) ?_
  · obtain ⟨x, t, rfl⟩ := h3 f hm
    exact PySem.W.Looks.now
  · have e : (Value.type "int" != Value.type "tuple") = true := by first | decide +kernel | rfl | decide
    rw [e]
    exact hq
end
/-! ### sorted(d), the keys of d tuples of ints -/
/-- a dict whose keys are tuples of ints -/
abbrev dI (kvs : List (List Int × V)) : HO := .dT (kvs.map fun p => (p.1.map Sum.inl, p.2))
def rSortedDT : List V → Hp → VK → Prop := fun vs H Q => ∃ (a : Addr) (kvs : List (List Int × V)), vs = [V.ref a] ∧ Rd H a (dI kvs) ∧ (∀ p ∈ kvs, p.1 ≠ []) ∧
  ∀ (ks : List (Addr × List Int)) (p : Addr), (ks.map (·.2)).Perm (kvs.map (·.1)) → ks.Pairwise (fun x y => HT.lexLt y.2 x.2 = false) → (∀ q ∈ ks, H q.1 = some (.tup (q.2.map V.int))) → H p = none →
    Q (.ref p) (upd H p (.lst (ks.map fun q => V.ref q.1)))
section
variable {X : Cx}
theorem keyIs_int {i : Int} {v : Value} (h : keyIs (.inl i) v = true) : ∃ t, v = .int i t := by
  rcases keyIs_shape h with ⟨j, t, e, ev⟩ | ⟨z, t, e, ev⟩
  · cases e
    exact ⟨t, ev⟩
  · cases e
theorem map_kV (ns : List Int) : (ns.map Sum.inl : List Key).map kV = ns.map V.int := by
  rw [List.map_map]
  rfl
theorem perm_lift {α β : Type} {f : α → β} {l₁ l₂ : List β} (h : l₁.Perm l₂) : ∀ L : List α, L.map f = l₂ → ∃ L' : List α, L'.Perm L ∧ L'.map f = l₁ := by
  induction h with
  | nil =>
    intro L e
    exact ⟨L, .refl _, e⟩
  | cons x _ ih =>
    intro L e
    cases L with
    | nil => cases e
    | cons y L =>
      obtain ⟨e1, e2⟩ := List.cons.inj e
      obtain ⟨L', p, em⟩ := ih L e2
      exact ⟨y :: L', p.cons y, by rw [List.map_cons, em, e1]⟩
  | swap x y l =>
    intro L e
    match L, e with
    | u :: v :: L, e =>
      obtain ⟨e1, e2⟩ := List.cons.inj e
      obtain ⟨e3, e4⟩ := List.cons.inj e2
      exact ⟨v :: u :: L, .swap _ _ _, by rw [List.map_cons, List.map_cons, e1, e3, e4]⟩
  | trans _ _ ih1 ih2 =>
    intro L e
    obtain ⟨L1, p1, e1⟩ := ih2 L e
    obtain ⟨L2, p2, e2⟩ := ih1 L1 e1
    exact ⟨L2, p2.trans p1, e2⟩
theorem rows_of {H : Hp} : ∀ {kvs : List (List Int × V)} {xs : List (List Key × Addr × Value)},
    Paired (fun (p : List Key × V) (q : List Key × Addr × Value) => p.1 = q.1 ∧ H q.2.1 = some (HO.tup (p.1.map kV)) ∧ L2.RelV p.2 q.2.2) (kvs.map fun p => ((p.1.map Sum.inl : List Key), p.2)) xs →
    ∃ L0 : List (Addr × List Int), L0.map (·.2) = kvs.map (·.1) ∧ xs.map (fun x => Value.ref x.2.1) = L0.map (fun q => Value.ref q.1) ∧ ∀ q ∈ L0, H q.1 = some (.tup (q.2.map V.int))
  | [], _, .nil => ⟨[], rfl, rfl, fun q h => by cases h⟩
  | p :: kvs, x :: xs, .cons r t => by
    obtain ⟨L0, e1, e2, e3⟩ := rows_of t
    refine ⟨(x.2.1, p.1) :: L0, by rw [List.map_cons, List.map_cons, e1], by rw [List.map_cons, List.map_cons, e2], fun q hq => ?_⟩
    rcases List.mem_cons.mp hq with rfl | hq
    · have := r.2.1
      rw [map_kV] at this
      exact this
    · exact e3 q hq
theorem cr_sortedDT (hc : X.calm = true) : CallR X (.builtin "sorted") rSortedDT := by
  intro pins s σ H vs us Q I r h
  obtain ⟨a, kvs, rfl, hd, hk, q⟩ := h
  obtain ⟨u, rfl, rx⟩ := vals1 r
  cases rx
  obtain ⟨z, hs, xs, pr, o, es, ep, ho, hx, hdt, he, hn⟩ := (show ObjOk X.prog X.w H s.heap a (dI kvs) from hd.ok I.hok)
  have l1 : es.size = xs.length := size_of_entries he
  have l2 : (kvs.map fun p => ((p.1.map Sum.inl : List Key), p.2)).length = xs.length := Paired.length pr
  rw [List.length_map] at l2 z
  refine Calls.call_function_entry PyProof.Rows.kind_sorted PyProof.Rows.plain_sorted PyProof.Rows.entry_sorted (PyProof.Rows.args_sorted1 _) ?_
  unfold Builtin.«sorted»
  refine wpAny_bind (m := checkCount "sorted" 1 1 _) (wpAny_pure ?_)
  refine wpAny_bind (PySem.W.kdu_collect (A := X.A.in1) (kdl_raw hs hx hdt) (I.ok.hd hc) ho (by omega) fun h' tk acc hk' hacc => ?_)
  have ea : acc.toList = xs.map fun x => Value.ref x.2.1 := by
    have hl : acc.toList.length = xs.length := by rw [Array.length_toList, hacc.1]; exact l1
    apply List.ext_getElem?
    intro j
    rw [List.getElem?_map]
    cases hj : acc.toList[j]? with
    | none =>
      have h1 := List.getElem?_eq_none_iff.mp hj
      rw [List.getElem?_eq_none (by omega)]
      all_goals rfl
    | some v =>
      obtain ⟨en, hen, hv⟩ := hacc.2 j v (by rw [← Array.getElem?_toList]; exact hj)
      have qe := entry_at he j
      rw [hen] at qe
      cases hb : xs[j]? with
      | none =>
        rw [hb] at qe
        exact nomatch (show some en = none from qe)
      | some b =>
        rw [hb] at qe
        have e2 : en = entryOfKey (tupleKind (mixKind X.prog X.w)) b := Option.some.inj qe
        rw [hv, e2]
        all_goals rfl
  have I1 : Inv X pins σ H { s with heap := h', toks := tk } := I.kept hk'
  obtain ⟨L0, m1, m2, m3⟩ := rows_of pr
  rw [m2] at ea
  have hvl : acc.toList.length ≤ sizeLine := by
    rw [ea, List.length_map]
    have := congrArg List.length m1
    rw [List.length_map, List.length_map] at this
    omega
  refine wpAny_bind (wpAny_newList ?_ hvl)
  have hoL : (h'.push (seqObj "list" acc.toList.toArray 0)).get? h'.objs.size = some (seqObj "list" acc.toList.toArray 0) := Heap.get?_push_size _ rfl
  have I2 : Inv X pins σ H { s with heap := h'.push (seqObj "list" acc.toList.toArray 0), toks := tk } := I1.kept fun b o e => Heap.get?_push_of_some _ e
  show wpAny _ _ _ _ _ { s with heap := h'.push (seqObj "list" acc.toList.toArray 0), toks := tk }
  have tk2 : ∀ q ∈ L0, TS.TupInts (h'.push (seqObj "list" acc.toList.toArray 0)) (.ref q.1) q.2 := fun q hq => tupI_raw I2 (.inl (.inl (m3 q hq)))
  have hne : ∀ q ∈ L0, q.2 ≠ [] := fun q hq => by
    have : q.2 ∈ kvs.map (·.1) := by
      rw [← m1]
      exact List.mem_map.mpr ⟨q, hq, rfl⟩
    obtain ⟨p, hp, e⟩ := List.mem_map.mp this
    rw [← e]
    exact hk p hp
  refine wpAny_bind (wpAny_holding (wpAny_call_entry PyProof.Rows.slot_list_sort ⟨_, hoL, rfl⟩ PyProof.Rows.entry_list_sort
    (SrtO.list_sort_ord (s := { s with heap := h'.push (seqObj "list" acc.toList.toArray 0), toks := tk }) (swo_lexK (TS.intsOf (h'.push (seqObj "list" acc.toList.toArray 0)))) hoL hvl
      (fun h2 => tups_sortable (by omega) (fun v hv => ?_) fun o e => ?_) fun out hs1 hb => ⟨_, rfl, ?_⟩) (PyProof.Rows.args_list_sort _)))
  · rw [ea] at hv
    obtain ⟨q, hq, e⟩ := List.mem_map.mp hv
    subst e
    have t := tk2 q hq
    rw [t.ints]
    exact ⟨t, hne q hq⟩
  · have e' : some o = some (seqObj "list" acc.toList.toArray 0) := e.symm.trans hoL
    cases e'
    intro c
    exact absurd (Value.type.inj c) (by decide)
  · obtain ⟨L', p1, e1⟩ := perm_lift (f := fun q : Addr × List Int => Value.ref q.1) hb.perm L0 ea.symm
    obtain ⟨e', he'⟩ := PyProof.Rows.sortedHeap_at (vs := acc.toList) (out := out.toArray) hoL
    have hlen : (L'.map fun q => V.ref q.1).length ≤ sizeLine := by
      rw [List.length_map, p1.length_eq]
      rw [ea, List.length_map] at hvl
      exact hvl
    have rv : Vals (L'.map fun q => V.ref q.1) out := by
      rw [← e1]
      clear e1 p1 hlen
      induction L' with
      | nil => exact .nil
      | cons q L ih => exact .cons rfl ih
    refine wpAny_pure ⟨_, rfl, .ref h'.objs.size, upd H h'.objs.size (.lst (L'.map fun q => V.ref q.1)), I1.laid (t' := tk) (fun b u e => ?_) (Nat.le_refl _)
      (show ObjOk X.prog X.w _ _ _ (.lst (L'.map fun q => V.ref q.1)) from ⟨hlen, out, e', rv, he'⟩), rfl, q L' _ ?_ ?_ (fun q hq => m3 q (p1.mem_iff.mp hq)) (I1.hok.fresh (Nat.le_refl _))⟩
    · have hb : b < h'.objs.size := Heap.lt_size e
      rw [PyProof.Rows.sortedHeap_old (Nat.ne_of_lt hb) (by rw [size_push']; exact Nat.lt_succ_of_lt hb)]
      exact Heap.get?_push_of_some _ e
    · rw [← m1]
      exact p1.map _
    · rw [← e1] at hs1
      refine List.Pairwise.imp_of_mem (fun {x y} hx hy h => ?_) (List.pairwise_map.mp hs1)
      have h : HT.lexLt (TS.intsOf (h'.push (seqObj "list" acc.toList.toArray 0)) (Value.ref y.1)) (TS.intsOf (h'.push (seqObj "list" acc.toList.toArray 0)) (Value.ref x.1)) = false := h
      rw [(tk2 x (p1.mem_iff.mp hx)).ints, (tk2 y (p1.mem_iff.mp hy)).ints] at h
      exact h
end
end R1
set_option Elab.async false
set_option linter.all false
set_option maxRecDepth 100000
namespace R1
open PySem PySem.Spec PyProof.Rows L2
/-! ### d != {} -/
section
variable {prog : Program} {w : World} {A : Around} {E : Value → Shared → Prop} {s : Shared}
theorem samePairs0 {nm : String} {a b : Addr} {oa ob : Obj} {es es' : Array DictEntry} {ep ep' : Nat} {Q : Bool → Shared → Prop} (ha : (a == sysModules) = false) (hb : (b == sysModules) = false)
    (hoa : s.heap.get? a = some oa) (hda : oa.data = .dict es ep) (hob : s.heap.get? b = some ob) (hdb : ob.data = .dict es' ep') (h0 : es'.size = 0) (h : Q (decide (es.size = 0)) s) :
    wpAny (model prog w) A (Builtin.Dict.samePairs nm a b) Q E s := by
  unfold Builtin.Dict.samePairs Builtin.Dict.showsAll
  rw [if_neg (show ¬ (a == sysModules) = true by rw [ha]; exact Bool.false_ne_true), if_neg (show ¬ (b == sysModules) = true by rw [hb]; exact Bool.false_ne_true)]
  refine wpAny_bind (wpAny_pure (wpAny_bind (wpAny_pure ?_)))
  refine wpAny_bind (wpAny_dictEntries hoa hda ?_)
  dsimp only
  refine wpAny_bind (wpAny_dictEntries hob hdb ?_)
  by_cases hsz : es.size = es'.size
  case neg =>
    rw [if_pos (by simpa using hsz)]
    rw [decide_eq_false (by omega)] at h
    exact wpAny_bind (wpAny_rule (wpAny_pure h))
  case pos =>
    rw [decide_eq_true (by omega)] at h
    rw [if_neg (by rw [hsz]; simp)]
    refine wpAny_bind (wpAny_dictEpoch hoa hda ?_)
    refine wpAny_bind ?_
    rw [Std.Legacy.Range.forIn_eq_forIn_range']
    have e0 : es.size = 0 := by omega
    simp only [Std.Legacy.Range.size, Nat.sub_zero, Nat.add_sub_cancel, Nat.div_one, e0, List.range'_zero]
    exact wpAny_pure (wpAny_pure h)
theorem dicts_ne0 {a b : Addr} {oa ob : Obj} {es es' : Array DictEntry} {ep ep' : Nat} {Q : Value → Shared → Prop} (ha : (a == sysModules) = false) (hb : (b == sysModules) = false)
    (hoa : s.heap.get? a = some oa) (xa : oa.ExactDict) (hda : oa.data = .dict es ep) (hob : s.heap.get? b = some ob) (xb : ob.ExactDict) (hdb : ob.data = .dict es' ep') (h0 : es'.size = 0) (hu : A.units < cLine) (h : Q (.bool (!decide (es.size = 0))) s) :
    wpAny (model prog w) A (compareOp .NotEq (.ref a) (.ref b)) Q E s := by
  have ta : s.TypeIs (.ref a) "dict" := ⟨oa, hoa, xa.1⟩
  have tb : s.TypeIs (.ref b) "dict" := ⟨ob, hob, xb.1⟩
  refine wpAny_richCompare_same_room (op := .NotEq) ta tb PySem.F.slot_dict_ne (wpAny_call_entry PySem.F.slot_dict_ne ta PySem.F.entry_dict_ne ?_ (PySem.F.args_dict_ne_2 _ _)) hu
  show wpAny _ _ (Builtin.Dict.dictSlotArgs "__ne__" ⟨[.ref a, .ref b], []⟩ >>= _) _ _ s
  refine wpAny_bind ?_
  unfold Builtin.Dict.dictSlotArgs
  refine wpAny_bind (wpAny_notOrdered_dict ta ?_)
  show wpAny _ _ (pure (Value.ref a, Value.ref b)) _ _ s
  refine wpAny_pure ?_
  refine wpAny_bind (wpAny_isInstance (T := "dict") tb PySem.F.sub_dict_dict ?_)
  simp only [Bool.not_true, Bool.false_eq_true, if_false]
  refine wpAny_bind (wpAny_pure (wpAny_bind (wpAny_pure ?_)))
  refine wpAny_bind (samePairs0 ha hb hoa hda hob hdb h0 ?_)
  refine wpAny_pure ⟨_, rfl, ?_, ?_⟩
  · exact fun x => nomatch x
  · simpa using h
end
/-- d != {} -/
def rNeD0 : R2 := fun x y H Q => ∃ (a b : Addr) (kvs : List (List Key × V)), x = .ref a ∧ y = .ref b ∧ H a = some (.dT kvs) ∧ H b = some (.dT []) ∧ Q (.bl (!decide (kvs.length = 0))) H
section
variable {X : Cx}
theorem op_neD0 (hu : X.A.units < cLine) : OpR X (compareOp .NotEq) rNeD0 := by
  intro pins s σ H x y v u Q I rx ry h
  obtain ⟨a, b, kvs, rfl, rfl, ea, eb, q⟩ := h
  obtain rfl : v = Value.ref a := rx
  obtain rfl : u = Value.ref b := ry
  obtain ⟨_, ya, va, ra, oa, es, ep, ho, hx, hd, he, _⟩ := (show ObjOk X.prog X.w H s.heap a (.dT kvs) from I.hok a _ ea)
  obtain ⟨_, yb, vb, rb, ob, es', ep', ho', hx', hd', he', _⟩ := (show ObjOk X.prog X.w H s.heap b (.dT []) from I.hok b _ eb)
  have l1 : es.size = va.length := size_of_entries he
  have l2 : es'.size = vb.length := size_of_entries he'
  have l3 : kvs.length = va.length := Paired.length ra
  have l4 : ([] : List (List Key × V)).length = vb.length := Paired.length rb
  refine dicts_ne0 ya yb ho hx hd ho' hx' hd' (by rw [l2, ← l4]; rfl) hu ⟨.bl _, H, I, rfl, ?_⟩
  rw [l1, ← l3]
  exact q
/-! ### t >= u of tuples of ints -/
theorem lexAt_shift (e r : Nat → Bool) (z : Bool) : ∀ (k i : Nat), Ob.lexAt e r z (i + 1) k = Ob.lexAt (fun j => e (j + 1)) (fun j => r (j + 1)) z i k
  | 0, _ => rfl
  | k + 1, i => by
    rw [Ob.lexAt_succ, Ob.lexAt_succ, lexAt_shift e r z k (i + 1)]
theorem lexGe : ∀ ns ms : List Int, Ob.lexAt (fun j => decide (ns.getD j 0 = ms.getD j 0)) (fun j => decide (ms.getD j 0 ≤ ns.getD j 0)) (decide (ns.length ≥ ms.length)) 0 (min ns.length ms.length) = !HT.lexLt ns ms
  | [], [] => rfl
  | [], y :: q => rfl
  | x :: r, [] => rfl
  | x :: r, y :: q => by
    have ih := lexGe r q
    have em : min (x :: r).length (y :: q).length = min r.length q.length + 1 := by
      rw [List.length_cons, List.length_cons]
      omega
    have el : decide ((x :: r).length ≥ (y :: q).length) = decide (r.length ≥ q.length) := by
      rw [List.length_cons, List.length_cons]
      simp
    rw [em, el, Ob.lexAt_succ, HT.lexLt_cons]
    simp only [List.getD_cons_zero]
    by_cases e : x = y
    · rw [if_pos (decide_eq_true e), if_pos e, lexAt_shift]
      simp only [List.getD_cons_succ]
      exact ih
    · rw [if_neg (by rw [decide_eq_false e]; exact Bool.false_ne_true), if_neg e]
      by_cases h : x < y
      · rw [decide_eq_true h, decide_eq_false (by omega)]
        rfl
      · rw [decide_eq_false h, decide_eq_true (by omega)]
        rfl
def rGeT (K : PySem.W.Frag) : R2 := fun x y H Q => ∃ (a b : Addr) (ns ms : List Int), x = .ref a ∧ y = .ref b ∧ SqT K H a (ns.map V.int) ∧ SqT K H b (ms.map V.int) ∧ Q (.bl (!HT.lexLt ns ms)) H
theorem op_geT (hu : X.A.units < cLine) : OpR X (compareOp .GtE) (rGeT X.K) := by
  intro pins s σ H x y v u Q I rx ry h
  obtain ⟨a, b, ns, ms, rfl, rfl, ha, hb, q⟩ := h
  cases rx
  cases ry
  obtain ⟨its, r1, p1, _⟩ := I.tuple ha
  obtain ⟨its2, r2, p2, _⟩ := I.tuple hb
  have i1 : IntsAre its ns := Vals.ints r1
  have i2 : IntsAre its2 ms := Vals.ints r2
  have e1 : its.toArray.size = ns.length := by rw [List.size_toArray]; exact i1.length
  have e2 : its2.toArray.size = ms.length := by rw [List.size_toArray]; exact i2.length
  have at1 : ∀ j (h1 : j < its.toArray.size), ∃ t, its.toArray[j] = .int (ns.getD j 0) t := fun j h1 => PyProof.Rows.IntsAre.int_at i1 _ _ (by simp at h1; simp [h1])
  have at2 : ∀ j (h1 : j < its2.toArray.size), ∃ t, its2.toArray[j] = .int (ms.getD j 0) t := fun j h1 => PyProof.Rows.IntsAre.int_at i2 _ _ (by simp at h1; simp [h1])
  have R := Ob.RcOp.tuples_ge (A := X.A) (s := s) (e := fun j => decide (ns.getD j 0 = ms.getD j 0)) (r := fun j => decide (ms.getD j 0 ≤ ns.getD j 0)) p1 p2 hu (fun j h1 h2 => by
    obtain ⟨t, et⟩ := at1 j h1
    obtain ⟨t', et'⟩ := at2 j h2
    rw [et, et']
    have z : (ns.getD j 0 == ms.getD j 0) = decide (ns.getD j 0 = ms.getD j 0) := by
      by_cases q : ns.getD j 0 = ms.getD j 0
      · rw [decide_eq_true q]; exact beq_iff_eq.mpr q
      · rw [decide_eq_false q]; exact beq_eq_false_iff_ne.mpr q
    rw [← z]
    exact SeqAt.EqAt.int_int _ _ _ _) (fun j h1 h2 _ => by
    obtain ⟨t, et⟩ := at1 j h1
    obtain ⟨t', et'⟩ := at2 j h2
    rw [et, et']
    exact Ob.RcOp.ge_int _ _ _ _)
  rw [e1, e2, lexGe] at R
  have z : wpAny (model X.prog X.w) X.A (compareOp .GtE (.ref a) (.ref b)) (EP X pins σ Q) X.xe s := R X.prog X.w X.xe (EP X pins σ Q) ⟨.bl _, H, I, rfl, q⟩
  exact z
end
end R1
set_option Elab.async false
set_option linter.all false
set_option maxRecDepth 100000
namespace R1
open PySem PySem.Spec PyProof.Rows L2
open AutoSeq1 (wpAny_loadPart')
/-! ### enumerate(tuple) -/
theorem meets_enumerate_newT (l : Addr) (items : Array Value) (n : Nat) (dct : Option Addr) (sl : Array (Option Value)) :
    Meets (Builtin.«enumerate.__new__» ⟨[.type "enumerate", .ref l], []⟩) (fun _ R s => s.heap.get? l = some { cls := .type "tuple", dict := dct, data := .seq items n, slots := sl } ∧
      R (.ok (.ret (.ref (s.heap.push { cls := .type "tuple_iterator", data := .fields #[.ref l, .int 0 0] }).objs.size)))
        { s with heap := (s.heap.push { cls := .type "tuple_iterator", data := .fields #[.ref l, .int 0 0] }).push { cls := .type "enumerate", data := .fields #[.none, .bool false, .ref s.heap.objs.size, rawInt 0, .none, .none] } }) :=
  .of_wp fun prog w A R s h => by
    obtain ⟨hp, g, d, tk, os⟩ := s; obtain ⟨hl, h⟩ := h
    have hsub := sub_enumerate
    have hL : Heap.IsTuple (Shared.heap ⟨hp, g, d, tk, os⟩) l items := ⟨_, hl, rfl, n, rfl⟩
    wp_walk using wpAny_loadPart' hl
    refine wpAny_stack_any fun st => wpAny_pure ?_
    split
    · rename_i c _ _ _ _ _
      cases (c == Value.type "enumerate")
      · wp_walk using wpAny_loadPart' hl, wpAny_pyIter_tuple hL
        exact ⟨_, rfl, h⟩
      · wp_walk using wpAny_loadPart' hl, wpAny_pyIter_tuple hL
        exact ⟨_, rfl, h⟩
    · wp_walk using wpAny_loadPart' hl, wpAny_pyIter_tuple hL
      exact ⟨_, rfl, h⟩
theorem call_enumerate_tuple {prog : Program} {w : World} {A : Around} {E : Value → Shared → Prop} {s : Shared} {l : Addr} {items : Array Value} {Q : Value → Shared → Prop} (hL : s.heap.IsTuple l items)
    (h : ∀ h', IsEnum h' (s.heap.objs.size + 1) s.heap.objs.size 0 .none → h'.IsTupleIter s.heap.objs.size l 0 → h'.objs.size = s.heap.objs.size + 2 →
      (∀ b o, s.heap.get? b = some o → h'.get? b = some o) → Q (.ref (s.heap.objs.size + 1)) { s with heap := h' }) :
    wpAny (model prog w) A (call (.type "enumerate") [.ref l]) Q E s := by
  obtain ⟨⟨c, dct, dt, sl⟩, hl, hc, n, hd⟩ := hL
  replace hc : c = .type "tuple" := hc
  replace hd : dt = .seq items n := hd
  subst hc hd
  refine callType_new F.called_enumerate (by decide) (F.typeCall_enumerate_1 _) (F.newCall_enumerate_1 _) (fun obj => F.args_object_init_2 obj _) F.entry_enumerate_new
    (meets_enumerate_newT l items n dct sl) ⟨hl, ?_⟩
  have hz : (s.heap.push { cls := .type "tuple_iterator", data := .fields #[.ref l, .int 0 0] }).objs.size = s.heap.objs.size + 1 := Heap.size_push ..
  show _ ∧ _
  rw [hz]
  have he : IsEnum ((s.heap.push { cls := .type "tuple_iterator", data := .fields #[.ref l, .int 0 0] }).push
      { cls := .type "enumerate", data := .fields #[.none, .bool false, .ref s.heap.objs.size, rawInt 0, .none, .none] }) (s.heap.objs.size + 1) s.heap.objs.size 0 .none := by
    have := Heap.get?_push_size (s.heap.push { cls := .type "tuple_iterator", data := .fields #[.ref l, .int 0 0] })
      (o := { cls := .type "enumerate", data := .fields #[.none, .bool false, .ref s.heap.objs.size, rawInt 0, .none, .none] }) rfl
    rw [hz] at this; exact this
  refine ⟨⟨_, he, rfl⟩, h _ he ⟨_, Heap.get?_push_of_some _ (Heap.get?_push_size _ rfl), rfl, rfl⟩ (by rw [Heap.size_push, hz]) fun b o x => Heap.get?_push_of_some _ (Heap.get?_push_of_some _ x)⟩
/-- the tuple at a, each item in a new pair -/
def IteT (K : PySem.W.Frag) (a : Addr) : It :=
  ⟨fun i H => ∃ (xs : List V) (x : V), SqT K H a xs ∧ xs[i]? = some x, fun i H v H' => ∃ T x, v = .ref T ∧ H T = none ∧ H' = upd H T (.tup [.int (i : Nat), x]) ∧ ∀ xs, SqT K H a xs → xs[i]? = some x, fun i H => ∃ xs : List V, SqT K H a xs ∧ xs.length ≤ i⟩
theorem apart {h : Heap} {a b c : Addr} {items : Array Value} {i : Nat} (p : IsTup h a items) (q : h.IsTupleIter b c i) : a ≠ b := by
  rintro rfl
  obtain ⟨o, ho, hc, _⟩ := p
  obtain ⟨o', ho', hc', _⟩ := q
  rw [ho] at ho'
  cases ho'
  rw [hc] at hc'
  exact absurd (Value.type.inj hc') (by decide)
theorem apartE {h : Heap} {a b it : Addr} {items : Array Value} {i : Int} {old : Value} (p : IsTup h a items) (q : IsEnum h b it i old) : a ≠ b := by
  rintro rfl
  obtain ⟨o, ho, hc, _⟩ := p
  have ho' : h.get? a = some _ := q
  rw [ho] at ho'
  have e := Option.some.inj ho'
  rw [e] at hc
  exact absurd (Value.type.inj hc) (by decide)
theorem turn_enumT {P : Program} {w : World} {K : PySem.W.Frag} {elts : List Expr} {kk : Nat} {tpos : Pos} (a e it : Addr) :
    Turn P w K (.Tuple elts kk tpos) (IteT K a) [e, it] e (fun i h => (∃ old, IsEnum h e it ((i : Nat) : Int) old) ∧ h.IsTupleIter it a i ∧ e ≠ it) where
  mem := by simp
  obj := fun i h st b hb => by
    obtain ⟨⟨old, he⟩, ⟨o, ho, hc, hd⟩, _⟩ := st
    have e' : b = e ∨ b = it := by simpa using hb
    rcases e' with z | z
    · rw [z]; exact ⟨_, he, fun v q => nomatch q⟩
    · rw [z]; exact ⟨o, ho, fun v q => by rw [hd] at q; cases q⟩
  keep := fun i h h' st k => let ⟨⟨old, he⟩, hi, hne⟩ := st; ⟨⟨old, k e (by simp) _ he⟩, hi.at fun o q => k it (by simp) o q, hne⟩
  item := by
    intro X hP hw hK hc i pins s σ H E I hf st hg
    subst hP hw hK
    obtain ⟨⟨old, he⟩, hit, hne⟩ := st
    obtain ⟨xs, x, hq, hx⟩ := hg
    obtain ⟨its, rv, p, hz⟩ := I.tuple hq
    obtain ⟨u, hu, ru⟩ := rv.get hx
    have hel : e < s.heap.objs.size := Heap.lt_size he
    have hil : it < s.heap.objs.size := by obtain ⟨_, q, _⟩ := hit; exact Heap.lt_size q
    have nai : a ≠ it := apart p hit
    have nae : a ≠ e := apartE p he
    have hlt : i < its.toArray.size := by
      rw [List.size_toArray]
      exact (List.getElem?_eq_some_iff.mp hu).1
    have D := Draws.tuple (prog := X.prog) (w := X.w) (A := X.A.in1) (I.ok.hd hc) it a nai its.toArray
    refine wpAny_pyNext_enum_itemD D he ⟨hit, show s.heap.IsTuple a its.toArray from p⟩ hlt hne (by simp; exact ⟨hne, nae.symm⟩) fun y h' tk hP ho hst' hT hsz hk => ?_
    have ey : y = u := by
      have := hP.symm.trans (show its.toArray[i]? = some u by simpa using hu)
      exact Option.some.inj this
    subst ey
    refine ⟨_, rfl, wpAny_letOwnedTupleGo_enum (s := { s with heap := h', toks := tk + 1 }) ho fun h'' he' sb => ?_⟩
    have hT2 : h''.get? s.heap.objs.size = some { cls := .type "tuple", data := .seq #[.int i tk, y] } := (sb.2 _ (Nat.ne_of_gt hel)).trans hT
    have new : ObjOk X.prog X.w (upd H s.heap.objs.size (.tup [.int (i : Nat), x])) h'' s.heap.objs.size (.tup [.int (i : Nat), x]) :=
      ⟨by show 2 ≤ sizeLine; decide, [.int i tk, y], .cons ⟨_, rfl⟩ (.cons ru .nil), ⟨_, hT2, rfl, _, rfl⟩⟩
    have I1 : Inv X pins σ (upd H s.heap.objs.size (.tup [.int (i : Nat), x])) { s with heap := h'', toks := tk + 1 } :=
      I.turnedNew (ch := [e, it]) (fun b ob hb q => (sb.2 b (fun z => hb (by simp [z]))).trans (hk b ob (fun z => hb (by simp [z])) (fun z => hb (by simp [z])) q)) hf (Nat.le_refl _) new
    refine ⟨.ref s.heap.objs.size, _, I1, rfl, ⟨_, x, rfl, I.hok.fresh (Nat.le_refl _), rfl, fun ys hy => by rw [I.tuple_inj hy hq]; exact hx⟩, ⟨⟨y, ?_⟩, hst'.1.at fun o q => (sb.2 it (Ne.symm hne)).trans q, hne⟩, fun b hb => ?_⟩
    · have e1 : ((i + 1 : Nat) : Int) = (i : Int) + 1 := by omega
      rw [e1]; exact he'
    · have hb' : b < s.heap.objs.size := by
        have e' : b = e ∨ b = it := by simpa using hb
        rcases e' with z | z
        · rw [z]; exact hel
        · rw [z]; exact hil
      rw [upd_ne (Nat.ne_of_lt hb')]
      exact (hf b hb).1
  done := by
    intro X hP hw hK hc i pins s σ H E I hf st hg
    subst hP hw hK
    obtain ⟨⟨old, he⟩, hit, hne⟩ := st
    obtain ⟨xs, hq, hx⟩ := hg
    obtain ⟨its, rv, p, hz⟩ := I.tuple hq
    obtain ⟨f0, f1, f2, f3, f4, f5⟩ := hf it (by simp)
    have hl := rv.length
    have hT : s.TypeIs (.ref e) "enumerate" := ⟨_, he, rfl⟩
    unfold pyNext
    refine wpAny_bind (wpAny_attempt (wpAny_callSpecial?_slot (name := Str.ofString "__next__") hT F.slot_enumerate_next
      (wpAny_call_entry F.slot_enumerate_next hT F.entry_enumerate_next ?_ (F.args_enumerate_next_1 _))))
    show wpAny _ _ (field (.ref e) 2 >>= _) _ _ _
    refine wpAny_bind (wpAny_field he rfl (x := .ref it) rfl ?_)
    refine wpAny_bind (wpAny_nextOf_tuple_end (I.ok.hd hc) hit (show s.heap.IsTuple a its.toArray from p) (Array.getElem?_eq_none (by rw [List.size_toArray]; omega)) fun h' x he' hx' => ?_)
    obtain ⟨o, ho, hc'⟩ := hx'
    refine wpAny_bind (wpAny_isInstance (T := "StopIteration") (b := true) ⟨o, ho, hc'⟩ isSubtype_stop ?_)
    exact wpAny_pure ⟨rfl, I.turned (t' := s.toks) (fun b o hb q => he' b o hb q) f0 f1 f3 f4 f5⟩
  self := fun A i s Q E st h => let ⟨⟨_, he⟩, _⟩ := st; wpAny_pyIter_enum he h
def iEnumT (K : PySem.W.Frag) (ta : TA) : TI := fun σ H R => ta σ H fun vs H1 => ∃ a xs, vs = [.ref a] ∧ SqT K H1 a xs ∧ R (IteT K a) H1
theorem pi_enumT {X : Cx} {e : Expr} {ta : TA} {p pos tpos : Pos} {elts : List Expr} {kk : Nat} (hg : Gl X "enumerate") (hm : X.mg "enumerate" = none) (ha : PA X [e] ta) (hs : starEach [e] X.env = [(false, eval e X.env)] := by rfl) :
    PI X (.Tuple elts kk tpos) (.Call (.Name "enumerate" p) [e] [] pos) (iEnumT X.K ta) := by
  refine ⟨fun pins s σ H R I h => ?_⟩
  refine Call_ (ld_blt I hg hm boot_enumerate (PyProof.Rows.callWith_type1 (thn (ha.run pos pins s σ H _ I h) fun us s1 ⟨vs, H1, I1, r1, q1⟩ => ?_) hs rfl))
  obtain ⟨a, xs, ex, hq, q⟩ := q1
  subst ex
  cases r1 with
  | cons r rr =>
    cases rr
    cases r
    obtain ⟨its, rv, p', hz⟩ := I1.tuple hq
    refine call_enumerate_tuple (show s1.heap.IsTuple a its.toArray from p') fun h' he hit hsz hk => wpAny_pyIter_enum he ?_
    have I2 : Inv X pins σ H1 { s1 with heap := h' } := I1.kept (t' := s1.toks) hk
    refine ⟨s1.heap.objs.size + 1, [s1.heap.objs.size + 1, s1.heap.objs.size], _, _, H1, rfl, I2, turn_enumT a (s1.heap.objs.size + 1) s1.heap.objs.size, ⟨⟨.none, he⟩, hit, Nat.succ_ne_self _⟩, fun b hb => ?_, q⟩
    have e' : b = s1.heap.objs.size + 1 ∨ b = s1.heap.objs.size := by simpa using hb
    have hle : s1.heap.objs.size ≤ b := by
      rcases e' with z | z
      · rw [z]; exact Nat.le_add_right _ _
      · rw [z]; exact Nat.le_refl _
    exact I1.fpOk hle (I1.hok.fresh hle)
theorem walk_enumT {K : PySem.W.Frag} {a : Addr} {xs : List V} : Walk (IteT K a) xs.length (fun H => SqT K H a xs) (YPair (fun i => some (.int (i : Nat))) (fun i => xs[i]?)) := by
  refine ⟨fun i _ hi q => ⟨xs, xs[i], q, by simp [hi]⟩, fun _ q => ⟨xs, q, Nat.le_refl _⟩, fun i H v H' _ q y => ?_⟩
  obtain ⟨T, x, h1, h2, h3, h4⟩ := y
  exact ⟨T, .int (i : Nat), x, h1, h2, h3, rfl, h4 xs q⟩
end R1
set_option Elab.async false
set_option linter.all false
set_option maxRecDepth 100000
namespace R1
open PySem PySem.Spec PyProof.Rows L2
open AutoSeq1 (wpAny_loadPart')
set_option maxHeartbeats 4000000 in
theorem tuple_mul1 (l : Addr) (items : Array Value) (n : Nat) (dd : Option Addr) (sl : Array (Option Value)) (u : Tok) :
    Meets (Builtin.«tuple.__mul__» ⟨[.ref l, .int 1 u], []⟩) (fun _ R s => s.heap.get? l = some { cls := .type "tuple", dict := dd, data := .seq items n, slots := sl } ∧ R (.ok (.ret (Value.ref l))) s) :=
  .of_wp fun prog w A R s h => by
    obtain ⟨hp, g, d, tk, os⟩ := s
    obtain ⟨hl, h⟩ := h
    have f1 := AutoSeq1.idx_int
    have c0 : (decide ((1 : Int) < -(2 ^ 63)) || decide ((1 : Int) ≥ 2 ^ 63)) = false := by decide
    have c1 : (items.isEmpty || (1 : Int) == 1) = true := by rw [Bool.or_eq_true]; exact .inr rfl
    wp_walk using wpAny_loadPart' hl
    exact ⟨_, rfl, h⟩
set_option maxHeartbeats 4000000 in
theorem tuple_mul0 (l : Addr) (items : Array Value) (n : Nat) (dd : Option Addr) (sl : Array (Option Value)) (u : Tok) (c : items.isEmpty = false) :
    Meets (Builtin.«tuple.__mul__» ⟨[.ref l, .int 0 u], []⟩) (fun _ R s => s.heap.get? l = some { cls := .type "tuple", dict := dd, data := .seq items n, slots := sl } ∧
      R (.ok (.ret (Value.ref s.heap.objs.size))) { s with heap := s.heap.push { cls := Value.type "tuple", data := Data.seq #[] }, toks := s.toks }) :=
  .of_wp fun prog w A R s h => by
    obtain ⟨hp, g, d, tk, os⟩ := s
    obtain ⟨hl, h⟩ := h
    have f1 := AutoSeq1.idx_int
    have c0 : (decide ((0 : Int) < -(2 ^ 63)) || decide ((0 : Int) ≥ 2 ^ 63)) = false := by decide
    have c1 : (items.isEmpty || (0 : Int) == 1) = false := by rw [c]; rfl
    have c2 : (decide ((0 : Int) ≤ 0) || items.isEmpty) = true := by rw [Bool.or_eq_true]; exact .inl rfl
    wp_walk using wpAny_loadPart' hl
    exact ⟨_, rfl, h⟩
/-- t * k, k 0 or 1 -/
def rRepT01 (K : PySem.W.Frag) : R2 := fun x y H Q => ∃ l k xs, x = .ref l ∧ y = .int k ∧ SqT K H l xs ∧ xs ≠ [] ∧ (k = 0 ∨ k = 1) ∧ (k = 1 → Q (.ref l) H) ∧ (k = 0 → ∀ p, H p = none → Q (.ref p) (upd H p (.tup [])))
theorem op_repT01 {X : Cx} : OpR X (binaryOp .Mult) (rRepT01 X.K) := by
  intro pins s σ H x y v u Q I rx ry h
  obtain ⟨l, k, xs, rfl, rfl, hT, hne, hk, q1, q0⟩ := h
  cases rx
  obtain ⟨t, rfl⟩ := ry
  obtain ⟨its, r, ⟨⟨cls, dd, data, sl⟩, ho, hc, n, hd⟩, hs⟩ := I.tuple hT
  simp only at hc hd
  subst hc hd
  have hle : its.length = xs.length := r.length.symm
  have hn : its ≠ [] := fun e => hne (by
    rw [e] at hle
    exact List.eq_nil_of_length_eq_zero hle.symm)
  have hi : its.toArray.isEmpty = false := by
    cases its with
    | nil => exact absurd rfl hn
    | cons a b => rfl
  refine wpAny_binaryOp_repeat_ref (T := "tuple") (U := "int") (by decide) ⟨_, ho, rfl⟩ (fun s' => typeIs_int s' k t) noFill_tuple_mul F.fills_int_mul F.slot_int_rmul repeat_tuple F.slot_int_index.lookup
    (call_meets F.slot_int_rmul (typeIs_int s k t) F.entry_int_rmul (F.args_int_rmul_2 _ _) (int_rmul_tuple k t l its.toArray n dd sl)
      ⟨ho, rfl, ⟨_, ho, rfl⟩, ?_⟩)
  rcases hk with rfl | rfl
  · refine call_meets F.slot_tuple_mul ⟨_, ho, rfl⟩ F.entry_tuple_mul (F.args_tuple_mul_2 _ _) (tuple_mul0 l its.toArray n dd sl t hi) ⟨ho, ?_⟩
    refine ⟨.ref s.heap.objs.size, _, I.laid (t' := s.toks) (o := .tup []) (fun b ob q => Heap.get?_push_of_some _ q) (Nat.le_refl _) ?_, rfl, q0 rfl _ (I.hok.fresh (Nat.le_refl _))⟩
    exact ⟨Nat.zero_le _, [], .nil, IsTup.new _ _⟩
  · refine call_meets F.slot_tuple_mul ⟨_, ho, rfl⟩ F.entry_tuple_mul (F.args_tuple_mul_2 _ _) (tuple_mul1 l its.toArray n dd sl t) ⟨ho, ?_⟩
    exact ⟨.ref l, H, I, rfl, q1 rfl⟩
end R1
set_option Elab.async false
set_option linter.all false
set_option maxRecDepth 100000
set_option maxHeartbeats 4000000
/-! what all laws share: the heap, small rules -/
namespace NH
open PySem PySem.Spec PyProof.Rows L2 R1
theorem sqlOf {K : PySem.W.Frag} {H : Hp} {a : Addr} {xs : List V} (h : H a = some (.lst xs)) : SqL K H a xs := .inl (.inl h)
theorem sqtOf {K : PySem.W.Frag} {H : Hp} {a : Addr} {xs : List V} (h : H a = some (.tup xs)) : SqT K H a xs := .inl (.inl h)
theorem same_new {H : Hp} {p : Addr} {o : HO} (h : H p = none) : Same H (upd H p o) := fun b u e => by
  rw [upd_ne (ne_of_none e h)]
  exact e
theorem same_put {H H' : Hp} {p : Addr} {o : HO} (s : Same H H') (h : H p = none) : Same H (upd H' p o) := fun b u e => by
  rw [upd_ne (ne_of_none e h)]
  exact s b u e
theorem sqt_same {K : PySem.W.Frag} {H H' : Hp} {t : Addr} {xs : List V} (s : Same H H') (h : SqT K H t xs) : SqT K H' t xs := by
  rcases h with (h | ⟨o, h⟩) | h
  · exact .inl (.inl (s _ _ h))
  · exact .inl (.inr ⟨o, s _ _ h⟩)
  · exact .inr h
/-- all but what stands at D is as it was -/
def But (D : Addr) (H H' : Hp) : Prop := ∀ b o, b ≠ D → H b = some o → H' b = some o
theorem But.start {D : Addr} {H : Hp} {o : HO} : But D H (upd H D o) := fun b u hb e => by
  rw [upd_ne hb]
  exact e
theorem But.step {D : Addr} {H H1 H2 : Hp} {o : HO} (h : But D H H1) (s : Same H1 H2) : But D H (upd H2 D o) := fun b u hb e => by
  rw [upd_ne hb]
  exact s _ _ (h b u hb e)
theorem But.then {D : Addr} {H H1 H2 : Hp} (h : But D H H1) (s : Same H1 H2) : But D H H2 := fun b u hb e => s _ _ (h b u hb e)
theorem But.same {D : Addr} {H H' : Hp} (h : But D H H') (n : H D = none) : Same H H' := fun b o e => h b o (ne_of_none e n) e
theorem But.at_ {D b : Addr} {H H' : Hp} {o : HO} (h : But D H H') (n : H D = none) (e : H b = some o) : H' b = some o := h b o (ne_of_none e n) e
/-- all but what stands at two places is as it was -/
def But2 (D W : Addr) (H H' : Hp) : Prop := ∀ b o, b ≠ D → b ≠ W → H b = some o → H' b = some o
theorem But2.refl {D W : Addr} {H : Hp} : But2 D W H H := fun _ _ _ _ h => h
theorem But2.at1 {D W : Addr} {H H1 : Hp} {o : HO} (h : But2 D W H H1) : But2 D W H (upd H1 D o) := fun b u h1 h2 e => by
  rw [upd_ne h1]
  exact h b u h1 h2 e
theorem But2.at2 {D W : Addr} {H H1 : Hp} {o : HO} (h : But2 D W H H1) : But2 D W H (upd H1 W o) := fun b u h1 h2 e => by
  rw [upd_ne h2]
  exact h b u h1 h2 e
theorem But2.then {D W : Addr} {H H1 H2 : Hp} (h : But2 D W H H1) (s : Same H1 H2) : But2 D W H H2 := fun b u h1 h2 e => s _ _ (h b u h1 h2 e)
theorem But2.trans {D W : Addr} {H H1 H2 : Hp} (h : But2 D W H H1) (s : But2 D W H1 H2) : But2 D W H H2 := fun b u h1 h2 e => s _ _ h1 h2 (h b u h1 h2 e)
theorem But2.same {D W : Addr} {H H' : Hp} (h : But2 D W H H') (n1 : H D = none) (n2 : H W = none) : Same H H' := fun b o e => h b o (ne_of_none e n1) (ne_of_none e n2) e
theorem small1k {n : Nat} (h : n ≤ 1000) : n ≤ sizeLine := by
  rw [sizeLine_eq]
  omega
theorem small1k' {n : Nat} (h : n ≤ 1000) : n < sizeLine := by
  rw [sizeLine_eq]
  omega
theorem put_len {κ : Type} [DecidableEq κ] (kvs : List (κ × V)) (k : κ) (v : V) : (putK kvs k v).length ≤ kvs.length + 1 := by
  unfold putK
  split
  · rw [List.length_map]
    omega
  · rw [List.length_append]
    exact Nat.le_refl _
def tTru (K : PySem.W.Frag) (te : TE) : TT := fun σ H Q => te σ H fun x H' => ∃ k, TruV K x H' k ∧ Q k H'
/-! ### f(k = v, ..), nothing by position -/
theorem pe_callK0 {X : Cx} {CX : CXT} {k : Nat} {f : Addr} {fd : FuncData} {ps ks : List Str} {sp : Sp} {E : XK} {x : Str} {p pos : Pos} {kws : List Keyword} {tk : TA} {g : List Value → List Value → List Value} {gV : List V → List V → List V}
    (F : FnOk X.prog X.w X.K X.mg X.base CX k f fd ps sp) (hr : Room k X.A) (hg : Gl X x) (hm : X.mg x = some (.ref f)) (hk : PySem.W.keepIn X.K (.ref f) = true) (hb : KBinds X.K fd ps ks g gV) (hx : Passes CX X E)
    (hkw : PK X kws tk) (hall : (backToKw pos (keywordEach kws X.env)).all (·.1.isSome) = true := by rfl) (hks : (backToKw pos (keywordEach kws X.env)).filterMap (·.1) = ks := by rfl)
    (hdb : (x == ("__debug__" : Str)) = false := by decide) (hpl : ((backTo pos (starEach [] X.env)).any (·.1) || (backToKw pos (keywordEach kws X.env)).any (·.1.isNone)) = false := by rfl) :
    PE X (.Call (.Name x p) [] kws pos) (tCallK sp gV E tNil tk) := by
  refine ⟨fun pins s σ H Q I h => ?_⟩
  refine wpAny_Call_Name_kw (ld_glob I hg hm ?_ hdb)
  refine PySem.W.callWith_KW0 (h₀ := X.base) I.ok.mod.kin hk hall (thn (hkw.run pos pins s σ H _ I h) fun ws s2 ⟨zs, H2, I2, rz, q2⟩ => ⟨I2.kIn, ?_⟩) hpl
  rw [hks]
  exact run_fnk F hr hb hx I2 .nil rz q2
/-! ### // by a positive number that is small or leaves a small quotient -/
def CDivQ (i j : Int) : Prop := 0 < j ∧ Builtin.divisionGoesByPylong i j = false
theorem op_fdivQ {X : Cx} : OpR X (binaryOp .FloorDiv) (rI CDivQ fun i j => .int (i / j)) := opI fun i j _ _ _ _ _ hc q => by
  have h1 : (0 : Int) < j := hc.1
  exact floordiv_int (by omega) (by rw [Int.fdiv_eq_ediv_of_nonneg i (by omega)]; exact q) (.inl hc.2)
theorem log2_lt {n b : Nat} (h : n < 2 ^ b) (h0 : 0 < b) : n.log2 < b := PySem.Flt.log2_lt_of h0 h
theorem log2_ge {n b : Nat} (h : 2 ^ b ≤ n) : b ≤ n.log2 := by
  have h0 : n ≠ 0 := by
    have := Nat.two_pow_pos b
    omega
  exact (Nat.le_log2 h0).mpr h
theorem cdivq_small {i j : Int} (h0 : 0 < j) {b : Nat} (hb : j.natAbs < 2 ^ b) (h1 : 0 < b) (h9 : b ≤ 9000) : CDivQ i j := ⟨h0, PyProof.noPylong_of_log2 (Nat.lt_of_lt_of_le (log2_lt hb h1) h9)⟩
/-- the quotient has few bits -/
theorem cdivq_quot {i j q : Int} (h0 : 0 < j) (hi : i = j * q) {b : Nat} (hb : q.natAbs < 2 ^ b) (h4 : b ≤ 4000) : CDivQ i j := by
  refine ⟨h0, ?_⟩
  have key : i.natAbs.log2 < j.natAbs.log2 + 1 + b + 1 := by
    refine log2_lt ?_ (by omega)
    have h1 : j.natAbs < 2 ^ (j.natAbs.log2 + 1) := Nat.lt_log2_self
    have h2 : i.natAbs < 2 ^ (j.natAbs.log2 + 1 + b) := by
      rw [hi]
      exact wide_lt h1 hb
    exact Nat.lt_trans h2 (Nat.pow_lt_pow_right (by decide) (by omega))
  show (decide ((if j == 0 then 0 else j.natAbs.log2 / 30 + 1) > 300) && decide ((if i == 0 then 0 else i.natAbs.log2 / 30 + 1) > (if j == 0 then 0 else j.natAbs.log2 / 30 + 1) + 150)) = false
  have hj : (j == 0) = false := by
    simp
    omega
  rw [hj, if_neg Bool.false_ne_true]
  rw [Bool.and_eq_false_iff]
  right
  apply decide_eq_false
  split <;> omega
end NH
set_option Elab.async false
set_option linter.all false
set_option maxRecDepth 100000
set_option maxHeartbeats 4000000
/-! ints of any size: *, ** -/
namespace NH
open PySem PySem.Spec PyProof.Rows L2
def CMulX (i j : Int) : Prop := i.natAbs.log2 + j.natAbs.log2 < 100000000
theorem bits_log (x : Int) : Builtin.Int.intBits x ≤ x.natAbs.log2 + 1 := by
  unfold Builtin.Int.intBits
  split <;> omega
theorem CMulX.ok {i j : Int} (h : CMulX i j) : IntMulOk i j := by
  have h1 := bits_log i
  have h2 := bits_log j
  have h3 : i.natAbs.log2 + j.natAbs.log2 < 100000000 := h
  have e : bitsLine = 134217728 := by decide
  unfold IntMulOk
  intro z
  rw [Bool.and_eq_true] at z
  have z2 := z.2
  unfold Builtin.Int.intTooBig at z2
  have z3 := of_decide_eq_true z2
  rw [e] at z3
  omega
theorem op_mulX {X : Cx} : OpR X (binaryOp .Mult) (rI CMulX fun i j => .int (i * j)) := opI fun _ _ _ _ _ _ _ hc q => mul_int q hc.ok
theorem log2_le_of' {n b : Nat} (h : n < 2 ^ b) : n.log2 ≤ b := by
  by_cases h0 : n = 0
  · subst h0
    exact Nat.zero_le _
  · exact Nat.le_of_lt ((Nat.log2_lt h0).mpr h)
theorem mulx {i j : Int} {a b : Nat} (ha : i.natAbs < 2 ^ a) (hb : j.natAbs < 2 ^ b) (h : a + b ≤ 90000000) : CMulX i j := by
  have := log2_le_of' ha
  have := log2_le_of' hb
  unfold CMulX
  omega
/-- both of fewer than 62 bits -/
theorem mulS {i j : Int} (ha : i.natAbs < 4611686018427387904) (hb : j.natAbs < 4611686018427387904) : CMulX i j := mulx (a := 62) (b := 62) ha hb (by decide)
def CPowX (i j : Int) : Prop := 0 ≤ j ∧ j ≤ 64 ∧ i.natAbs.log2 ≤ 2000000
theorem op_powX {X : Cx} : OpR X (binaryOp .Pow) (rI CPowX fun i j => .int (i ^ j.toNat)) := opI fun i j _ _ _ _ _ hc q => by
  obtain ⟨h0, h1, h2⟩ := hc
  refine pow_int h0 ?_ q
  have b := bits_log i
  have b2 : (Builtin.Int.intBits i : Int) ≤ 2000001 := by omega
  have m : (Builtin.Int.intBits i : Int) * j ≤ 2000001 * 64 := Int.mul_le_mul b2 h1 h0 (by decide)
  exact Int.le_trans m (by decide)
theorem powx {i j : Int} {a : Nat} (h0 : 0 ≤ j) (h1 : j ≤ 64) (ha : i.natAbs < 2 ^ a) (h : a ≤ 2000000) : CPowX i j := ⟨h0, h1, Nat.le_trans (log2_le_of' ha) h⟩
end NH
set_option Elab.async false
set_option linter.all false
set_option maxRecDepth 100000
namespace NH
open PySem PySem.Spec PyProof.Rows L2
/-! ### the text -/
abbrev sLines : Stmt := s_lines_of
abbrev sLeast : Stmt := s_least_of
abbrev sMoved : Stmt := s_moved
abbrev sIs : Stmt := s_is_sum
abbrev sCheck : Stmt := s_check_sum
abbrev sLettersOf : Stmt := s_letters_of
abbrev sStock : Stmt := s__law_stock
abbrev sPick : Stmt := s__law_pick
abbrev sWide : Stmt := s__law_wide
abbrev sSame : Stmt := s__law_same
abbrev sWritten : Stmt := s__law_written
abbrev sPlus : Stmt := s__law_plus
abbrev sTerms : Stmt := s__law_terms
abbrev sLaw : Stmt := s_law
theorem scStock : FnScope ["_law_script", "_law_stock_here", "_law_cell"] ["_law_script"] (defScope sStock) := ⟨rfl, rfl, rfl, by decide +kernel, rfl, by decide +kernel, by decide +kernel⟩
theorem scPick : FnScope ["_law_stock_here", "_law_limit", "_law_found", "_law_turn"] ["_law_stock_here", "_law_limit"] (defScope sPick) := ⟨rfl, rfl, rfl, by decide +kernel, rfl, by decide +kernel, by decide +kernel⟩
theorem scWide : FnScope ["_law_stock_here", "_law_limit", "_law_total", "_law_k"] ["_law_stock_here", "_law_limit"] (defScope sWide) := ⟨rfl, rfl, rfl, by decide +kernel, rfl, by decide +kernel, by decide +kernel⟩
/-! ### what is known of the stock -/
structure Stock (H : Hp) (a c : Addr) (n : Nat) : Prop where
  ne : a ≠ c
  ex : ∃ (cs : List Int) (x y z : Int), H a = some (.lst [.ref c, .int x, .int y, .int z]) ∧ H c = some (.lst (cs.map V.int)) ∧ cs.length ≤ 63 ∧ (∀ i ∈ cs, 0 ≤ i) ∧ 0 ≤ x ∧ 0 ≤ y ∧ y ≤ 10000000000000066 ∧ 0 ≤ z ∧ z ≤ n
/-- all but the stock is as it was -/
def Keep (a c : Addr) (H H' : Hp) : Prop := ∀ b o, b ≠ a → b ≠ c → H b = some o → H' b = some o
theorem Keep.refl {a c : Addr} {H : Hp} : Keep a c H H := fun _ _ _ _ h => h
theorem Keep.trans {a c : Addr} {H H1 H2 : Hp} (x : Keep a c H H1) (y : Keep a c H1 H2) : Keep a c H H2 := fun b o h1 h2 h => y b o h1 h2 (x b o h1 h2 h)
theorem Keep.new {a c p : Addr} {o : HO} {H : Hp} (h : H p = none) : Keep a c H (upd H p o) := fun b u _ _ e => by
  rw [upd_ne (ne_of_none e h)]
  exact e
theorem Keep.at_a {a c : Addr} {o : HO} {H : Hp} : Keep a c H (upd H a o) := fun b u h _ e => by
  rw [upd_ne h]
  exact e
theorem Keep.at_c {a c : Addr} {o : HO} {H : Hp} : Keep a c H (upd H c o) := fun b u _ h e => by
  rw [upd_ne h]
  exact e
theorem Stock.new {H : Hp} {a c p : Addr} {n : Nat} {o : HO} (S : Stock H a c n) (h : H p = none) : Stock (upd H p o) a c n := by
  obtain ⟨ne, cs, x, y, z, h1, h2, r⟩ := S
  exact ⟨ne, cs, x, y, z, by rw [upd_ne (ne_of_none h1 h)]; exact h1, by rw [upd_ne (ne_of_none h2 h)]; exact h2, r⟩
theorem Stock.more {H : Hp} {a c : Addr} {n m : Nat} (S : Stock H a c n) (h : n ≤ m) : Stock H a c m := by
  obtain ⟨ne, cs, x, y, z, h1, h2, h3, h4, h5, h6, h7, h8, h9⟩ := S
  exact ⟨ne, cs, x, y, z, h1, h2, h3, h4, h5, h6, h7, h8, by omega⟩
theorem canLay_ints : ∀ cs : List Int, PyData.canLayAll0 (cs.map PyData.int) = true
  | [] => rfl
  | _ :: r => by simp [PyData.canLayAll0, PyData.canLay0, canLay_ints r]
theorem depth_ints : ∀ cs : List Int, PyData.depthAll (cs.map PyData.int) ≤ 1
  | [] => by simp [PyData.depthAll]
  | _ :: r => by
    have := depth_ints r
    simp [PyData.depthAll, PyData.depth]
    omega
theorem shaped_ints (cs : List Int) : SeqAt.shaped (.list (cs.map PyData.int)) = true := by
  have := depth_ints cs
  simp [SeqAt.shaped, PyData.canLay0, canLay_ints, PyData.depth]
  omega
theorem dp_ints {K : PySem.W.Frag} {H : Hp} : ∀ cs : List Int, DpAll K H (cs.map V.int) (cs.map PyData.int)
  | [] => .nil
  | i :: r => .cons (.int i) (dp_ints r)
theorem eqv_nil (ds : List PyData) : PyData.eqv (.list ds) (.list []) = ds.isEmpty := by
  cases ds <;> simp [PyData.eqv, PyData.eqvAll]
section
variable {P : Program} {w : World} {K : PySem.W.Frag} {mg : Str → Option Value} {base : Heap}
/-! ### pick -/
def spPick : Sp := fun vs H Q _ => ∃ (a c : Addr) (n : Nat) (L : Int), vs = [.ref a, .int L] ∧ Stock H a c n ∧ n ≤ 1000000 ∧ 1 ≤ L ∧ L.natAbs < 2 ^ 200 ∧
  ∀ H' (r : Int), Stock H' a c (n + 1) → Keep a c H H' → 0 ≤ r → r < L → Q (.int r) H'
theorem ok_pick {f : Addr} {fd : FuncData} {k : Nat} (F : Fun K "_law_pick" "_law_pick" sPick f fd) (mi : mg "int" = none) : FnOk P w K mg base CX0 (k + 1) f fd ["_law_stock_here", "_law_limit"] spPick := by
  refine F.ok scPick (fun vs H Q E h => ?_) (fun cdv A outer s H vs Q E hr h => ?_)
  · obtain ⟨a, c, n, L, rfl, _⟩ := h
    rfl
  · obtain ⟨a, c, n, L, rfl, S, hn, hL, hL2, q⟩ := h
    refine ⟨_, Evl.pss_cut (ps_if (PW.pt (pw_and (pt_cmpR op_eq (pe_ix ix_list (pv 0) pe_int (fun _ _ => rfl)) pe_int (nomark _)) (pw_and1 (pt_cmpR (op_neD hr.units) (pe_ix ix_list (pv 0) pe_int (fun _ _ => rfl)) (pe_lst pa_nil) (nomark _)))))
        (pss_one (ps_asg (pe_bm0 PySem.F.plainAttrs_list PySem.F.slot_list_pop PySem.F.type_list_pop mt_pop (pe_ix ix_list (pv 0) pe_int (fun _ _ => rfl))) (pg_sub (pv 0) pe_int set_list))) pss_nil)
      (pss_cons (ps_if (pt_cmpR op_gt (pe_ix ix_list (pv 0) pe_int (fun _ _ => rfl)) pe_int (nomark _))
        (pss_cons (ps_set (i := 2) scPick.nd rfl (.inl rfl) (pe_op op_mod (pe_callTy call_int1 (by rfl) mi PyProof.Rows.boot_int (pa_cons (pe_ix ix_list (pv 0) pe_int (fun _ _ => rfl)) pa_nil)) (pv 1)))
        (pss_cons (ps_asg (pe_op op_fdivW (pe_ix ix_list (pv 0) pe_int (fun _ _ => rfl)) (pv 1)) (pg_sub (pv 0) pe_int set_list))
        (pss_one (ps_ret (pv 2))))) pss_nil)
      (pss_cons (ps_asg (pe_op op_add (pe_ix ix_list (pv 0) pe_int (fun _ _ => rfl)) pe_int) (pg_sub (pv 0) pe_int set_list))
      (pss_cons (ps_set (i := 3) scPick.nd rfl (.inl rfl) (pe_op op_mod (pe_callTy call_int1 (by rfl) mi PyProof.Rows.boot_int (pa_cons (pe_op op_pow (pe_op op_add (pe_ix ix_list (pv 0) pe_int (fun _ _ => rfl)) (pe_op op_mul (pe_op op_mul pe_int (pe_ix ix_list (pv 0) pe_int (fun _ _ => rfl))) (pe_ix ix_list (pv 0) pe_int (fun _ _ => rfl)))) pe_int) pa_nil)) pe_int))
      (pss_one (ps_ret (pe_op op_mod (pe_op op_fdiv (pe_op op_mod (pe_callTy call_int1 (by rfl) mi PyProof.Rows.boot_int (pa_cons (pe_op op_mulW (pv 3) (pe_op op_add (pe_op op_add (pv 3) (pe_op op_mul pe_int (pe_ix ix_list (pv 0) pe_int (fun _ _ => rfl)))) pe_int)) pa_nil)) pe_int) pe_int) (pv 1))))))), ?_⟩
    obtain ⟨ne, cs, x, y, z, h1, h2, h3, h4, h5, h6, h7, h8, h9⟩ := S
    refine ⟨fun σ' H' => σ' = [some (.ref a), some (.int L), none, none] ∧ Keep a c H H' ∧ ∃ (cs : List Int) (x : Int), H' a = some (.lst [.ref c, .int x, .int y, .int z]) ∧ H' c = some (.lst (cs.map V.int)) ∧ cs.length ≤ 63 ∧ (∀ i ∈ cs, 0 ≤ i) ∧ 0 ≤ x, ?_, ?_⟩
    · -- if stock[1] == 0 and stock[0] != []
      refine ⟨.ref a, rfl, a, _, 1, .int x, rfl, rfl, sqlOf h1, atI_nat (j := 1) rfl, rfl, _, rfl, ite2 (fun e => ?_) (fun e => iteF ?_)⟩
      · refine ⟨.ref a, rfl, a, _, 0, .ref c, rfl, rfl, sqlOf h1, atI_nat (j := 0) rfl, Nat.zero_le _, fun p hp => ?_⟩
        have s1 : Same H (upd H p (.lst [])) := fun b o e => by
          rw [upd_ne (ne_of_none e hp)]
          exact e
        refine ⟨.list (cs.map .int), .list [], .lst (sqlOf (s1 _ _ h2)) (dp_ints cs), .lst (sqlOf upd_same) .nil, shaped_ints cs, rfl, _, rfl, ite2 (fun e2 => ?_) (fun e2 => ?_)⟩
        · rw [eqv_nil] at e2
          have hne : cs ≠ [] := fun z => by
            subst z
            simp at e2
          obtain ⟨ds, l, rfl⟩ : ∃ ds l, cs = ds ++ [l] := ⟨cs.dropLast, cs.getLast hne, (List.dropLast_concat_getLast hne).symm⟩
          refine ⟨.ref a, rfl, a, _, 0, .ref c, rfl, rfl, sqlOf (s1 _ _ h1), atI_nat (j := 0) rfl, .inl ⟨rfl, _, sqlOf (s1 _ _ h2)⟩, c, _, .int l, rfl, rfl, s1 _ _ h2, by simp, .ref a, rfl, a, _, 1, 1, rfl, rfl, (by rw [upd_ne ne]; exact s1 _ _ h1), rfl, rfl, ?_, ds, l, upd_same, ?_, ?_, ?_, ?_⟩
          · exact (Keep.new hp).trans (Keep.at_c.trans Keep.at_a)
          · rw [upd_ne ne.symm, upd_same]
            simp
          · rw [List.length_append] at h3
            omega
          · exact fun i hi => h4 i (List.mem_append.mpr (.inl hi))
          · exact h4 l (List.mem_append.mpr (.inr (List.mem_singleton.mpr rfl)))
        · exact ⟨rfl, Keep.new hp, cs, x, s1 _ _ h1, s1 _ _ h2, h3, h4, h5⟩
      · exact ⟨rfl, Keep.refl, cs, x, h1, h2, h3, h4, h5⟩
    · rintro σ' H' ⟨rfl, kp, cs, x, h1, h2, h3, h4, h5⟩
      -- if stock[1] > 0
      refine ⟨.ref a, rfl, a, _, 1, .int x, rfl, rfl, sqlOf h1, atI_nat (j := 1) rfl, x, 0, rfl, rfl, _, rfl, ite2 (fun e => ?_) (fun e => ?_)⟩
      · have hL0 : (0 : Int) < L := by omega
        refine ⟨.ref a, rfl, a, _, 1, .int x, rfl, rfl, sqlOf h1, atI_nat (j := 1) rfl, .inl ⟨x, rfl, .int L, rfl, x, L, rfl, rfl, hL0, ?_⟩⟩
        refine ⟨.ref a, rfl, a, _, 1, .int x, rfl, rfl, sqlOf h1, atI_nat (j := 1) rfl, .int L, rfl, x, L, rfl, rfl, wide_div hL0 hL2 (by decide) (by decide), .ref a, rfl, a, _, 1, 1, rfl, rfl, h1, rfl, .int (x % L), rfl, ?_⟩
        refine q _ _ ⟨ne, cs, x / L, y, z, upd_same, (by rw [upd_ne ne.symm]; exact h2), h3, h4, Int.ediv_nonneg h5 (by omega), h6, h7, h8, by omega⟩ (kp.trans Keep.at_a) (Int.emod_nonneg _ (by omega)) (Int.emod_lt_of_pos _ hL0)
      · have hL0 : (0 : Int) < L := by omega
        have g1 : upd H' a (.lst [.ref c, .int x, .int y, .int (z + 1)]) a = some (.lst [.ref c, .int x, .int y, .int (z + 1)]) := upd_same
        have hz : z + 1 ≤ 1000001 := by omega
        have hzz : 104729 * (z + 1) * (z + 1) ≤ 104729 * 1000001 * 1000001 := Int.mul_le_mul (by omega) hz (by omega) (by decide)
        have hz0 : 0 ≤ 104729 * (z + 1) * (z + 1) := Int.mul_nonneg (by omega) (by omega)
        have hb : (y + 104729 * (z + 1) * (z + 1)).natAbs < 2 ^ 64 := by omega
        have ht0 : 0 ≤ (y + 104729 * (z + 1) * (z + 1)) ^ (2 : Int).toNat % 1000000000000000000117 := Int.emod_nonneg _ (by decide)
        have ht1 : (y + 104729 * (z + 1) * (z + 1)) ^ (2 : Int).toNat % 1000000000000000000117 < 1000000000000000000117 := Int.emod_lt_of_pos _ (by decide)
        refine ⟨.ref a, rfl, a, _, 3, .int z, rfl, rfl, sqlOf h1, atI_nat (j := 3) rfl, z, 1, rfl, rfl, .ref a, rfl, a, _, 3, 3, rfl, rfl, h1, rfl, ?_⟩
        refine ⟨.ref a, rfl, a, _, 2, .int y, rfl, rfl, sqlOf g1, atI_nat (j := 2) rfl, .ref a, rfl, a, _, 3, .int (z + 1), rfl, rfl, sqlOf g1, atI_nat (j := 3) rfl, 104729, z + 1, rfl, rfl, .inl ⟨by decide, by decide⟩,
          .ref a, rfl, a, _, 3, .int (z + 1), rfl, rfl, sqlOf g1, atI_nat (j := 3) rfl, _, z + 1, rfl, rfl, .inr ⟨by omega, by omega⟩, y, _, rfl, rfl, _, 2, rfl, rfl, ⟨by decide, by decide, hb⟩, .inl ⟨_, rfl, _, 1000000000000000000117, rfl, rfl, (by show (0 : Int) < 1000000000000000000117; decide), ?_⟩⟩
        generalize ht : (y + 104729 * (z + 1) * (z + 1)) ^ (2 : Int).toNat % 1000000000000000000117 = t at ht0 ht1
        refine ⟨.int t, (by rw [← ht]; rfl), .int t, (by rw [← ht]; rfl), .ref a, rfl, a, _, 3, .int (z + 1), rfl, rfl, sqlOf g1, atI_nat (j := 3) rfl, 2, z + 1, rfl, rfl, .inl ⟨by decide, by decide⟩, t, _, rfl, rfl, _, 1, rfl, rfl, t, _, rfl, rfl,
          wide_mul (a := 80) (b := 80) (by omega) (by omega) (by decide) (by decide) (by decide), .inl ⟨_, rfl, _, 1000000000000000000000007, rfl, rfl, (by show (0 : Int) < 1000000000000000000000007; decide), _, 65537, rfl, rfl, ⟨by decide, by decide⟩, .int L, rfl, _, L, rfl, rfl, hL0, ?_⟩⟩
        exact q _ _ ⟨ne, cs, x, y, z + 1, g1, (by rw [upd_ne ne.symm]; exact h2), h3, h4, h5, h6, h7, by omega, by omega⟩ (kp.trans Keep.at_a) (Int.emod_nonneg _ (by omega)) (Int.emod_lt_of_pos _ hL0)
end
end NH
set_option Elab.async false
set_option linter.all false
set_option maxRecDepth 100000
namespace NH
open PySem PySem.Spec PyProof.Rows L2
theorem same_keep {a c : Addr} {H H' : Hp} (h : Same H H') : Keep a c H H' := fun b o _ _ e => h b o e
section
variable {P : Program} {w : World} {K : PySem.W.Frag} {mg : Str → Option Value} {base : Heap}
/-! ### the stock -/
def spStock (K : PySem.W.Frag) : Sp := fun vs H Q _ => ∃ (sc : Addr) (ns : List Int), vs = [.ref sc] ∧ SqL K H sc (ns.map V.int) ∧ ns.length ≤ 63 ∧
  ∀ H' a c, Stock H' a c 0 → Same H H' → Q (.ref a) H'
theorem ok_stock {f : Addr} {fd : FuncData} {k : Nat} (F : Fun K "_law_stock" "_law_stock" sStock f fd) (mi : mg "int" = none) : FnOk P w K mg base CX0 (k + 1) f fd ["_law_script"] (spStock K) := by
  refine F.ok scStock (fun vs H Q E h => ?_) (fun cdv A outer s H vs Q E hr h => ?_)
  · obtain ⟨sc, ns, rfl, _⟩ := h
    rfl
  · obtain ⟨sc, ns, rfl, hS, hlen, q⟩ := h
    refine ⟨_, pss_cons (ps_set (i := 1) scStock.nd rfl (.inl rfl) (pe_lst (pa_cons (pe_lst pa_nil) (pa_cons pe_int (pa_cons pe_int (pa_cons pe_int pa_nil))))))
      (pss_cons (ps_for PassesOwn.never rfl (pi_list (pv 0)) (pg_name (i := 2) scStock.nd rfl (.inl rfl))
        (pss_one (ps_if (pt_cmpR op_lt (pv 2) (pe_op op_pow pe_int pe_int) (nomark _))
          (pss_one (ps_asg (pe_op op_add (pe_op op_mod (pe_callTy call_int1 (by rfl) mi PyProof.Rows.boot_int (pa_cons (pe_op op_pow (pe_op op_add (pe_ix ix_list (pv 1) pe_int (fun _ _ => rfl)) (pe_op op_mod (pe_callTy call_int1 (by rfl) mi PyProof.Rows.boot_int (pa_cons (pv 2) pa_nil)) pe_int)) pe_int) pa_nil)) pe_int) pe_int) (pg_sub (pv 1) pe_int set_list)))
          (pss_one (ps_asg (pe_op op_cat (pe_lst (pa_cons (pe_op op_sub (pv 2) (pe_op op_pow pe_int pe_int)) pa_nil)) (pe_ix ix_list (pv 1) pe_int (fun _ _ => rfl))) (pg_sub (pv 1) pe_int set_list))))))
      (pss_one (ps_ret (pv 1)))), ?_⟩
    refine ⟨Nat.zero_le _, fun c nc => ⟨(by rw [sizeLine_eq]; show 4 ≤ 16777216; decide), fun a na => ?_⟩⟩
    have nac : a ≠ c := fun e => by
      rw [e, upd_same] at na
      cases na
    have na0 : H a = none := by
      rw [upd_ne nac] at na
      exact na
    refine ⟨.ref sc, rfl, sc, rfl, ⟨_, (same_new na).seq ((same_new nc).seq hS)⟩, for_list (xs := ns.map V.int) (fun i σ H' => ∃ c cs y y2, σ = [some (.ref sc), some (.ref a), y2] ∧ Same H H' ∧ H c = none ∧ a ≠ c ∧ H' a = some (.lst [.ref c, .int 0, .int y, .int 0]) ∧ H' c = some (.lst (cs.map V.int)) ∧ cs.length ≤ i ∧ (∀ j ∈ cs, 0 ≤ j) ∧ 0 ≤ y ∧ y ≤ 10000000000000066)
      ⟨c, [], 77029, none, rfl, (same_new nc).trans (same_new na), nc, nac, upd_same, (by rw [upd_ne nac.symm, upd_same]; rfl), Nat.le_refl _, (fun j h => by cases h), by decide, by decide⟩ (fun i σ H' _ h => ?_) (fun i x σ H' hx h => ?_) (fun σ H' h => ?_)⟩
    · obtain ⟨c, cs, y, y2, rfl, sm, _⟩ := h
      exact sm.seq hS
    · obtain ⟨c, cs, y, y2, rfl, sm, nc, nac, ha, hc, hl, hp, hy0, hy1⟩ := h
      obtain ⟨v, rfl⟩ : ∃ v : Int, x = .int v := by
        rw [List.getElem?_map] at hx
        cases e : ns[i]? with
        | none => rw [e] at hx; cases hx
        | some v => rw [e] at hx; exact ⟨v, (Option.some.inj hx).symm⟩
      refine ⟨.int v, rfl, 10, 18, rfl, rfl, ⟨by decide, by decide, by decide⟩, v, _, rfl, rfl, _, rfl, ite2 (fun e => ?_) (fun e => ?_)⟩
      · have hm0 : 0 ≤ v % 999999999989 := Int.emod_nonneg _ (by decide)
        have hm1 : v % 999999999989 < 999999999989 := Int.emod_lt_of_pos _ (by decide)
        refine ⟨.ref a, rfl, a, _, 2, .int y, rfl, rfl, sqlOf ha, atI_nat (j := 2) rfl, .int v, rfl, .inl ⟨v, rfl, v, 999999999989, rfl, rfl, (by show (0 : Int) < 999999999989; decide), y, _, rfl, rfl, _, 3, rfl, rfl, ⟨by decide, by decide, by omega⟩, .inl ⟨_, rfl, _, 10000000000000061, rfl, rfl, (by show (0 : Int) < 10000000000000061; decide), _, 5, rfl, rfl,
          .ref a, rfl, a, _, 2, 2, rfl, rfl, ha, rfl, ?_⟩⟩⟩
        have hM0 : 0 ≤ (y + v % 999999999989) ^ (3 : Int).toNat % 10000000000000061 := Int.emod_nonneg _ (by decide)
        have hM1 : (y + v % 999999999989) ^ (3 : Int).toNat % 10000000000000061 < 10000000000000061 := Int.emod_lt_of_pos _ (by decide)
        exact ⟨c, cs, _, _, rfl, same_put sm na0, nc, nac, upd_same, (by rw [upd_ne nac.symm]; exact hc), by omega, hp, by omega, by omega⟩
      · have hv : (10 : Int) ^ (18 : Int).toNat ≤ v := Int.not_lt.mp fun z => e (decide_eq_true z)
        have e18 : (10 : Int) ^ (18 : Int).toNat = 1000000000000000000 := by decide
        refine ⟨.int v, rfl, 10, 18, rfl, rfl, ⟨by decide, by decide, by decide⟩, v, _, rfl, rfl, (by rw [sizeLine_eq]; exact (by decide : 1 ≤ 16777216)), fun p np => ?_⟩
        have s1 : Same H' (upd H' p (.lst [.int (v - (10 : Int) ^ (18 : Int).toNat)])) := same_new np
        have hclen : cs.length ≤ 63 := by
          have := (List.getElem?_eq_some_iff.mp hx).1
          rw [List.length_map] at this
          omega
        refine ⟨.ref a, rfl, a, _, 0, .ref c, rfl, rfl, sqlOf (s1 _ _ ha), atI_nat (j := 0) rfl, p, c, _, _, rfl, rfl, upd_same, s1 _ _ hc, (by rw [List.length_map, sizeLine_eq]; show 1 + cs.length ≤ 16777216; omega), fun p2 np2 => ?_⟩
        have s2 := s1.trans (same_new (o := .lst ([.int (v - (10 : Int) ^ (18 : Int).toNat)] ++ cs.map V.int)) np2)
        have ne2 : a ≠ p2 := ne_of_none (s1 _ _ ha) np2
        refine ⟨.ref a, rfl, a, _, 0, 0, rfl, rfl, s2 _ _ ha, rfl, ?_⟩
        exact ⟨p2, (v - (10 : Int) ^ (18 : Int).toNat) :: cs, y, _, rfl, same_put (sm.trans s2) na0, (sm.trans s1).free np2, ne2, upd_same, (by rw [upd_ne ne2.symm, upd_same]; rfl), (by rw [List.length_cons]; omega), (fun j hj => by
          rcases List.mem_cons.mp hj with rfl | hj
          · omega
          · exact hp j hj), hy0, hy1⟩
    · obtain ⟨c, cs, y, y2, rfl, sm, nc, nac, ha, hc, hl, hp, hy0, hy1⟩ := h
      rw [List.length_map] at hl
      exact ⟨.ref a, rfl, q _ a c ⟨nac, cs, 0, y, 0, ha, hc, by omega, hp, by decide, hy0, hy1, by decide, by decide⟩ sm⟩
/-! ### wide -/
def spWide : Sp := fun vs H Q _ => ∃ (a c : Addr) (n : Nat) (L : Int), vs = [.ref a, .int L] ∧ Stock H a c n ∧ n ≤ 999990 ∧ 1 ≤ L ∧
  ∀ H' (r : Int), Stock H' a c (n + 4) → Keep a c H H' → 0 ≤ r → r < L → Q (.int r) H'
theorem ok_wide {f fP : Addr} {fd fdP : FuncData} {k : Nat} (F : Fun K "_law_wide" "_law_wide" sWide f fd) (FP : Fun K "_law_pick" "_law_pick" sPick fP fdP) (bP : Binds K fdP ["_law_stock_here", "_law_limit"] []) (gP : mg "_law_pick" = some (.ref fP)) (mi : mg "int" = none) (mr : mg "range" = none) :
    FnOk P w K mg base CX0 (k + 2) f fd ["_law_stock_here", "_law_limit"] spWide := by
  have GP : FnOk P w K mg base CX0 (k + 1) fP fdP ["_law_stock_here", "_law_limit"] spPick := ok_pick FP mi
  refine F.ok scWide (fun vs H Q E h => ?_) (fun cdv A outer s H vs Q E hr h => ?_)
  · obtain ⟨a, c, n, L, rfl, _⟩ := h
    rfl
  · obtain ⟨a, c, n, L, rfl, S, hn, hL, q⟩ := h
    refine ⟨_, pss_cons (ps_set (i := 2) scWide.nd rfl (.inl rfl) pe_int)
      (pss_cons (ps_for PassesOwn.never rfl (pi_range1 rfl mr (pa_cons pe_int pa_nil)) (pg_name (i := 3) scWide.nd rfl (.inl rfl))
        (pss_one (ps_set (i := 2) scWide.nd rfl (.inl rfl) (pe_op op_add (pe_op op_mul (pv 2) (pe_op op_pow pe_int pe_int)) (pe_call GP hr (by rfl) gP FP.kp bP .nil pass0 (pa_cons (pv 0) (pa_cons (pe_op op_pow pe_int pe_int) pa_nil)))))))
      (pss_one (ps_ret (pe_op op_mod (pe_callTy call_int1 (by rfl) mi PyProof.Rows.boot_int (pa_cons (pv 2) pa_nil)) (pv 1))))), ?_⟩
    refine ⟨4, rfl, by decide, by decide, for_range (n := 4) (fun i σ H' => ∃ t y3, σ = [some (.ref a), some (.int L), some (.int t), y3] ∧ Stock H' a c (n + i) ∧ Keep a c H H') ⟨0, none, rfl, S, Keep.refl⟩ (fun i σ H' hi h => ?_) (fun σ H' h => ?_)⟩
    · obtain ⟨t, y3, rfl, S', kp⟩ := h
      refine ⟨.int t, rfl, 10, 9, rfl, rfl, ⟨by decide, by decide, by decide⟩, t, _, rfl, rfl, .inr ⟨by decide, by decide⟩, .ref a, rfl, 10, 9, rfl, rfl, ⟨by decide, by decide, by decide⟩, a, c, n + i, _, rfl, S', by omega, by decide, by decide, fun H2 r S2 k2 _ _ => ?_⟩
      exact ⟨_, r, rfl, rfl, _, _, rfl, S2, kp.trans k2⟩
    · obtain ⟨t, y3, rfl, S', kp⟩ := h
      have hL0 : (0 : Int) < L := by omega
      exact ⟨.int t, rfl, .inl ⟨t, rfl, .int L, rfl, t, L, rfl, rfl, hL0, q _ _ S' kp (Int.emod_nonneg _ (by omega)) (Int.emod_lt_of_pos _ hL0)⟩⟩
end
end NH
set_option Elab.async false
set_option linter.all false
set_option maxRecDepth 100000
set_option maxHeartbeats 2000000
/-! zip(*rows) over tuples, any number of them; list(zip(*rows)) -/
namespace ZN
open PySem
open PySem.Sem (wp)
theorem typeCall_zip (xs : List Value) : checkTypeCall "zip" ⟨xs, []⟩ = pure () := by kernel_rfl
theorem newCall_zip : ∀ xs : List Value, checkBuiltinCall "zip.__new__" ⟨.type "zip" :: xs, []⟩ = pure ()
  | [] => by kernel_rfl
  | [a] => by kernel_rfl
  | a :: b :: xs => by kernel_rfl
theorem args_init (a : Value) (xs : List Value) : argsOk "object.__init__" ⟨a :: xs, []⟩ := by
  unfold argsOk; rw [signature?_of (id := "object.__init__") (n := ['_', '_', 't', 'i', 'n', 'i', '_', '_']) (o := ['t', 'c', 'e', 'j', 'b', 'o']) (by kernel_rfl) F.owner_object]; kernel_rfl
theorem zip_no_len : typeLookup (.type "zip") "__len__" = pure none := by rw [typeLookup_type, builtinLookup_eq_fast]; kernel_rfl
theorem zip_no_hint : typeLookup (.type "zip") "__length_hint__" = pure none := by rw [typeLookup_type, builtinLookup_eq_fast]; kernel_rfl
def rfs : Nat → Nat → List Value
  | _, 0 => []
  | n, k + 1 => Value.ref n :: rfs (n + 1) k
theorem rfs_length : ∀ n k, (rfs n k).length = k
  | _, 0 => rfl
  | n, k + 1 => by rw [rfs, List.length_cons, rfs_length (n + 1) k]
abbrev tI (l : Addr) : Obj := { cls := .type "tuple_iterator", data := .fields #[.ref l, .int 0 0] }
def itsH : Heap → List Addr → Heap
  | h, [] => h
  | h, l :: ls => itsH (h.push (tI l)) ls
theorem itsH_keep : ∀ (ls : List Addr) (h : Heap) (c : Addr) (o : Obj), h.get? c = some o → (itsH h ls).get? c = some o
  | [], _, _, _, e => e
  | l :: ls, h, c, o, e => itsH_keep ls _ c o (Heap.get?_push_of_some _ e)
theorem itsH_size : ∀ (ls : List Addr) (h : Heap), (itsH h ls).objs.size = h.objs.size + ls.length
  | [], _ => rfl
  | l :: ls, h => by rw [itsH, itsH_size ls, Heap.size_push, List.length_cons]; omega
theorem itsH_at : ∀ (ls : List Addr) (h : Heap) (j : Nat) (l : Addr), ls[j]? = some l → (itsH h ls).get? (h.objs.size + j) = some (tI l)
  | [], _, _, _, e => by simp at e
  | l :: ls, h, 0, x, e => by
    cases (Option.some.inj e : l = x)
    exact itsH_keep ls _ _ _ (Heap.get?_push_size _ rfl)
  | l :: ls, h, j + 1, x, e => by
    have z := itsH_at ls (h.push (tI l)) j x (by simpa using e)
    rw [Heap.size_push] at z
    have e2 : h.objs.size + (j + 1) = h.objs.size + 1 + j := by omega
    rw [itsH, e2]
    exact z
section
variable {prog : Program} {w : World} {A : Around} {E : Value → Shared → Prop}
theorem forIn_its {f : Value → Array Value → Sem (ForInStep (Array Value))}
    (hf : ∀ (l : Addr) (acc : Array Value) (s : Shared) (xs : Array Value) (Q : ForInStep (Array Value) → Shared → Prop), s.heap.IsTuple l xs → Q (.yield (acc.push (.ref s.heap.objs.size))) { s with heap := s.heap.push (tI l) } → wpAny (model prog w) A (f (.ref l) acc) Q E s) :
    ∀ (ls : List Addr) (acc : Array Value) (s : Shared) (Q : Array Value → Shared → Prop), (∀ l ∈ ls, ∃ xs, s.heap.IsTuple l xs) → Q (acc ++ (rfs s.heap.objs.size ls.length).toArray) { s with heap := itsH s.heap ls } →
      wpAny (model prog w) A (forIn (ls.map Value.ref) acc f) Q E s
  | [], acc, s, Q, _, hQ => by
    simp only [List.map_nil, List.forIn_nil]
    refine wpAny_pure ?_
    have e : acc ++ (rfs s.heap.objs.size 0).toArray = acc := by simp [rfs]
    rw [← e]
    exact hQ
  | l :: ls, acc, s, Q, ht, hQ => by
    simp only [List.map_cons, List.forIn_cons]
    obtain ⟨xs, hl⟩ := ht l List.mem_cons_self
    refine wpAny_bind (hf l acc s xs _ hl ?_)
    refine forIn_its hf ls _ { s with heap := s.heap.push (tI l) } Q (fun l' h' => ?_) ?_
    · obtain ⟨ys, hy⟩ := ht l' (List.mem_cons_of_mem _ h')
      exact ⟨ys, Heap.IsTuple.push hy _⟩
    · have e : acc.push (Value.ref s.heap.objs.size) ++ (rfs (s.heap.push (tI l)).objs.size ls.length).toArray = acc ++ (rfs s.heap.objs.size (l :: ls).length).toArray := by
        rw [Heap.size_push]
        apply Array.ext'
        simp [rfs, List.length_cons]
      show Q (acc.push (Value.ref s.heap.objs.size) ++ (rfs (s.heap.push (tI l)).objs.size ls.length).toArray) _
      rw [e]
      exact hQ
theorem wpAny_iterAll {s : Shared} {ls : List Addr} {Q : List Value → Shared → Prop} (ht : ∀ l ∈ ls, ∃ xs, s.heap.IsTuple l xs) (hQ : Q (rfs s.heap.objs.size ls.length) { s with heap := itsH s.heap ls }) :
    wpAny (model prog w) A (Builtin.SmallTypes.iterAll (ls.map Value.ref)) Q E s := by
  unfold Builtin.SmallTypes.iterAll
  refine wpAny_bind (forIn_its (fun l acc s xs Q hl hQ => ?_) ls _ s _ ht ?_)
  · refine wpAny_bind (wpAny_holding (wpAny_pyIter_tuple hl ?_))
    exact wpAny_pure hQ
  · refine wpAny_pure ?_
    simpa using hQ
end
abbrev zTI (h : Heap) (ls : List Addr) : Obj := { cls := .type "tuple", data := .seq (rfs h.objs.size ls.length).toArray }
abbrev zTO (ls : List Addr) : Obj := { cls := .type "tuple", data := .seq (List.replicate ls.length Value.none).toArray }
abbrev zH1 (h : Heap) (ls : List Addr) : Heap := (itsH h ls).push (zTI h ls)
abbrev zH2 (h : Heap) (ls : List Addr) : Heap := (zH1 h ls).push (zTO ls)
abbrev zH3 (h : Heap) (ls : List Addr) : Heap := (zH2 h ls).push { cls := .type "zip", data := .fields #[.none, .bool false, .bool false, .ref (itsH h ls).objs.size, .ref (zH1 h ls).objs.size] }
theorem meets_zip_new (ls : List Addr) (hz : ls.length ≤ sizeLine) : Meets (Builtin.«zip.__new__» ⟨.type "zip" :: ls.map Value.ref, []⟩) (fun _ R s => (∀ l ∈ ls, ∃ xs, s.heap.IsTuple l xs) ∧
    R (.ok (.ret (.ref (zH2 s.heap ls).objs.size))) { s with heap := zH3 s.heap ls }) :=
  .of_wp fun prog w A R s h => by
    obtain ⟨hp, g, d, tk, os⟩ := s
    obtain ⟨hl, h⟩ := h
    have hsub := sub_zip
    unfold Builtin.«zip.__new__» Builtin.SmallTypes.newClass
    have c1 : ¬ ((rfs hp.objs.size ls.length).toArray.size > sizeLine) := by
      rw [List.size_toArray, rfs_length]
      omega
    have mm : List.map (fun _ => Value.none) (rfs hp.objs.size ls.length) = List.replicate ls.length Value.none := by
      rw [List.map_const', rfs_length]
    have c2 : ¬ ((List.replicate ls.length Value.none).toArray.size > sizeLine) := by
      rw [List.size_toArray, List.length_replicate]
      omega
    wp_walk using wpAny_iterAll (s := ⟨hp, g, d, tk, os⟩) hl
    rw [if_neg c1]
    wp_walk
    rw [mm]
    exact ⟨_, rfl, h⟩
abbrev IsArr (h : Heap) (T : Addr) (xs : Array Value) : Prop := h.get? T = some { cls := .type "tuple", data := .seq xs }
section
variable {prog : Program} {w : World} {A : Around} {E : Value → Shared → Prop} {s : Shared}
theorem call_zip {ls : List Addr} {Q : Value → Shared → Prop} (hz : ls.length ≤ sizeLine) (ht : ∀ l ∈ ls, ∃ xs, s.heap.IsTuple l xs)
    (h : ∀ h', IsZip h' (s.heap.objs.size + ls.length + 2) (s.heap.objs.size + ls.length) (s.heap.objs.size + ls.length + 1) .none → IsArr h' (s.heap.objs.size + ls.length) (rfs s.heap.objs.size ls.length).toArray →
      IsArr h' (s.heap.objs.size + ls.length + 1) (List.replicate ls.length Value.none).toArray → (∀ j l, ls[j]? = some l → h'.get? (s.heap.objs.size + j) = some (tI l)) → h'.objs.size = s.heap.objs.size + ls.length + 3 →
      (∀ c o, s.heap.get? c = some o → h'.get? c = some o) → Q (.ref (s.heap.objs.size + ls.length + 2)) { s with heap := h' }) :
    wpAny (model prog w) A (call (.type "zip") (ls.map Value.ref)) Q E s := by
  refine callType_new F.called_zip (by decide) (typeCall_zip _) (newCall_zip _) (fun obj => args_init obj _) F.entry_zip_new (meets_zip_new ls hz) ⟨ht, ?_⟩
  have e1 : (itsH s.heap ls).objs.size = s.heap.objs.size + ls.length := itsH_size ls s.heap
  have e2 : (zH1 s.heap ls).objs.size = s.heap.objs.size + ls.length + 1 := by rw [Heap.size_push, e1]
  have e3 : (zH2 s.heap ls).objs.size = s.heap.objs.size + ls.length + 2 := by rw [Heap.size_push, e2]
  have e4 : (zH3 s.heap ls).objs.size = s.heap.objs.size + ls.length + 3 := by rw [Heap.size_push, e3]
  have g4 : (zH3 s.heap ls).get? (zH2 s.heap ls).objs.size = some _ := Heap.get?_push_size _ rfl
  have g3 : (zH3 s.heap ls).get? (zH1 s.heap ls).objs.size = some _ := Heap.get?_push_of_some _ (Heap.get?_push_size _ rfl)
  have g2 : (zH3 s.heap ls).get? (itsH s.heap ls).objs.size = some _ := Heap.get?_push_of_some _ (Heap.get?_push_of_some _ (Heap.get?_push_size _ rfl))
  have kp : ∀ c o, (itsH s.heap ls).get? c = some o → (zH3 s.heap ls).get? c = some o := fun c o x => Heap.get?_push_of_some _ (Heap.get?_push_of_some _ (Heap.get?_push_of_some _ x))
  show _ ∧ _
  rw [e1, e2, e3] at g4
  rw [e2] at g3
  rw [e1] at g2
  rw [e3]
  exact ⟨⟨_, g4, rfl⟩, h _ g4 g2 g3 (fun j l q => kp _ _ (itsH_at ls s.heap j l q)) e4 fun c o x => kp _ _ (itsH_keep ls _ _ _ x)⟩
end

/-! ### one draw -/
abbrev Tr := Addr × Addr × Array Value
section
variable {prog : Program} {w : World} {A : Around} {E : Value → Shared → Prop}
def AtI (h : Heap) (ts : List Tr) (i : Nat) : Prop := ∀ t ∈ ts, h.IsTupleIter t.1 t.2.1 i ∧ h.IsTuple t.2.1 t.2.2
theorem iter_ne_tuple {h : Heap} {it l t : Addr} {i : Nat} {xs : Array Value} (x : h.IsTupleIter it t i) (y : h.IsTuple l xs) : l ≠ it := fun e => by
  subst e
  obtain ⟨o, ho, hc, _⟩ := x
  obtain ⟨o2, ho2, hc2, _⟩ := y
  rw [ho] at ho2
  cases ho2
  rw [hc] at hc2
  exact absurd hc2 (by decide)
theorem AtI.ext {h h' : Heap} {ts : List Tr} {i : Nat} (x : AtI h ts i) (k : ∀ t ∈ ts, ∀ o, (h.get? t.1 = some o → h'.get? t.1 = some o)) (k2 : ∀ t ∈ ts, ∀ o, (h.get? t.2.1 = some o → h'.get? t.2.1 = some o)) : AtI h' ts i := fun t ht => by
  obtain ⟨a, b⟩ := x t ht
  obtain ⟨o, ho, r⟩ := a
  obtain ⟨o2, ho2, r2⟩ := b
  exact ⟨⟨o, k t ht o ho, r⟩, ⟨o2, k2 t ht o2 ho2, r2⟩⟩
def row (ts : List Tr) (i : Nat) : List Value := ts.map fun t => t.2.2.getD i .none
theorem draw_loop {β : Type} {f : Value → β → Sem (ForInStep β)} (mk : Array Value → β)
    (hf : ∀ (it l : Addr) (items : Array Value) (i : Nat) (x : Value) (acc : Array Value) (s : Shared) (Q : ForInStep β → Shared → Prop), s.heap.IsTupleIter it l i → s.heap.IsTuple l items → items[i]? = some x →
      (∀ h', h'.IsTupleIter it l (i + 1) → Heap.SameBut it s.heap h' → Q (.yield (mk (acc.push x))) { s with heap := h' }) → wpAny (model prog w) A (f (.ref it) (mk acc)) Q E s) :
    ∀ (ts : List Tr) (acc : Array Value) (s : Shared) (i : Nat) (Q : β → Shared → Prop), (ts.map (·.1)).Nodup → AtI s.heap ts i → (∀ t ∈ ts, i < t.2.2.size) →
      (∀ h', AtI h' ts (i + 1) → h'.objs.size = s.heap.objs.size → (∀ c o, c ∉ ts.map (·.1) → s.heap.get? c = some o → h'.get? c = some o) → Q (mk (acc ++ (row ts i).toArray)) { s with heap := h' }) →
      wpAny (model prog w) A (forIn (ts.map fun t => Value.ref t.1) (mk acc) f) Q E s
  | [], acc, s, i, Q, _, _, _, hQ => by
    simp only [List.map_nil, List.forIn_nil]
    refine wpAny_pure ?_
    have z := hQ s.heap (fun _ h => nomatch h) rfl (fun _ _ _ e => e)
    simpa [row] using z
  | t :: ts, acc, s, i, Q, nd, hA, hi, hQ => by
    simp only [List.map_cons, List.forIn_cons]
    obtain ⟨a, b⟩ := hA t List.mem_cons_self
    have hlt := hi t List.mem_cons_self
    rw [List.map_cons, List.nodup_cons] at nd
    refine wpAny_bind (hf t.1 t.2.1 t.2.2 i t.2.2[i] acc s _ a b (Array.getElem?_eq_getElem hlt) fun h1 a1 sb => ?_)
    have up : ∀ c o, c ≠ t.1 → s.heap.get? c = some o → h1.get? c = some o := fun c o n e => sb.extBut c o n e
    refine draw_loop mk hf ts _ { s with heap := h1 } i Q nd.2 (AtI.ext (fun t' h' => hA t' (List.mem_cons_of_mem _ h')) (fun t' h' o e => up _ o (fun q => nd.1 (by rw [← q]; exact List.mem_map_of_mem h')) e) fun t' h' o e => up _ o (iter_ne_tuple a (hA t' (List.mem_cons_of_mem _ h')).2) e) (fun t' h' => hi t' (List.mem_cons_of_mem _ h')) fun h2 A2 sz k2 => ?_
    have b1 : h1.IsTuple t.2.1 t.2.2 := by
      obtain ⟨o, ho, r⟩ := b
      exact ⟨o, up _ _ (iter_ne_tuple a ⟨o, ho, r⟩) ho, r⟩
    have e : acc.push t.2.2[i] ++ (row ts i).toArray = acc ++ (row (t :: ts) i).toArray := by
      apply Array.ext'
      simp [row, Array.getD, hlt]
    rw [e]
    refine hQ h2 (fun t' h' => ?_) (sz.trans sb.1) fun c o hc e => k2 c o (fun q => hc (List.mem_cons_of_mem _ q)) (up c o (fun q => hc (by rw [q]; exact List.mem_cons_self)) e)
    rcases List.mem_cons.mp h' with rfl | h'
    · obtain ⟨o, ho, r⟩ := a1
      obtain ⟨o2, ho2, r2⟩ := b1
      have nt : t'.2.1 ∉ ts.map (·.1) := fun q => by
        obtain ⟨t2, m2, e2⟩ := List.mem_map.mp q
        exact iter_ne_tuple (hA t2 (List.mem_cons_of_mem _ m2)).1 b e2.symm
      exact ⟨⟨o, k2 _ o nd.1 ho, r⟩, ⟨o2, k2 _ o2 nt ho2, r2⟩⟩
    · exact A2 t' h'
theorem own_loop {β : Type} {f : Value × Nat → β → Sem (ForInStep β)} (b0 : β) (TO : Addr)
    (hf : ∀ (it l : Addr) (items : Array Value) (i k : Nat) (x : Value) (arr : Array Value) (s : Shared) (Q : ForInStep β → Shared → Prop), s.heap.IsTupleIter it l i → s.heap.IsTuple l items → items[i]? = some x → TO ≠ it → IsArr s.heap TO arr → arr.size ≤ sizeLine →
      (∀ h', h'.IsTupleIter it l (i + 1) → IsArr h' TO (arr.setIfInBounds k x) → h'.objs.size = s.heap.objs.size → (∀ c o, c ≠ TO → c ≠ it → s.heap.get? c = some o → h'.get? c = some o) → Q (.yield b0) { s with heap := h' }) → wpAny (model prog w) A (f (.ref it, k) b0) Q E s) :
    ∀ (ts : List Tr) (k : Nat) (arr : Array Value) (s : Shared) (i : Nat) (Q : β → Shared → Prop), (ts.map (·.1)).Nodup → AtI s.heap ts i → (∀ t ∈ ts, i < t.2.2.size) → IsArr s.heap TO arr → arr.size = k + ts.length → arr.size ≤ sizeLine → TO ∉ ts.map (·.1) → (∀ t ∈ ts, t.2.1 ≠ TO) →
      (∀ h' arr', AtI h' ts (i + 1) → IsArr h' TO arr' → arr'.toList = arr.toList.take k ++ row ts i → h'.objs.size = s.heap.objs.size → (∀ c o, c ≠ TO → c ∉ ts.map (·.1) → s.heap.get? c = some o → h'.get? c = some o) → Q b0 { s with heap := h' }) →
      wpAny (model prog w) A (forIn ((ts.map fun t => Value.ref t.1).zipIdx k) b0 f) Q E s
  | [], k, arr, s, i, Q, _, _, _, hT, hs, _, _, _, hQ => by
    simp only [List.map_nil, List.zipIdx_nil, List.forIn_nil]
    refine wpAny_pure (hQ s.heap arr (fun _ h => nomatch h) hT ?_ rfl fun _ _ _ _ e => e)
    rw [List.take_of_length_le (by rw [Array.length_toList, hs]; exact Nat.le_refl _)]
    simp [row]
  | t :: ts, k, arr, s, i, Q, nd, hA, hi, hT, hs, hz, hno, hnl, hQ => by
    simp only [List.map_cons, List.zipIdx_cons, List.forIn_cons]
    obtain ⟨a, b⟩ := hA t List.mem_cons_self
    have hlt := hi t List.mem_cons_self
    rw [List.map_cons, List.nodup_cons] at nd
    have hne : TO ≠ t.1 := fun e => hno (by rw [e]; exact List.mem_cons_self)
    have hl : k < arr.size := by rw [hs, List.length_cons]; omega
    refine wpAny_bind (hf t.1 t.2.1 t.2.2 i k t.2.2[i] arr s _ a b (Array.getElem?_eq_getElem hlt) hne hT hz fun h1 a1 T1 sz1 up => ?_)
    refine own_loop b0 TO hf ts (k + 1) _ { s with heap := h1 } i Q nd.2 (AtI.ext (fun t' h' => hA t' (List.mem_cons_of_mem _ h')) (fun t' h' o e => up _ o (fun q => hno (List.mem_cons_of_mem _ (by rw [← q]; exact List.mem_map_of_mem h'))) (fun q => nd.1 (by rw [← q]; exact List.mem_map_of_mem h')) e) fun t' h' o e => up _ o (hnl t' (List.mem_cons_of_mem _ h')) (iter_ne_tuple a (hA t' (List.mem_cons_of_mem _ h')).2) e)
      (fun t' h' => hi t' (List.mem_cons_of_mem _ h')) T1 (by rw [Array.size_setIfInBounds, hs, List.length_cons]; omega) (by rw [Array.size_setIfInBounds]; exact hz) (fun q => hno (List.mem_cons_of_mem _ q)) (fun t' h' => hnl t' (List.mem_cons_of_mem _ h')) fun h2 arr' A2 T2 e2 sz k2 => ?_
    have b1 : h1.IsTuple t.2.1 t.2.2 := by
      obtain ⟨o, ho, r⟩ := b
      exact ⟨o, up _ _ (hnl t List.mem_cons_self) (iter_ne_tuple a ⟨o, ho, r⟩) ho, r⟩
    refine hQ h2 arr' (fun t' h' => ?_) T2 ?_ (sz.trans sz1) fun c o c1 hc e => k2 c o c1 (fun q => hc (List.mem_cons_of_mem _ q)) (up c o c1 (fun q => hc (by rw [q]; exact List.mem_cons_self)) e)
    · rcases List.mem_cons.mp h' with rfl | h'
      · obtain ⟨o, ho, r⟩ := a1
        obtain ⟨o2, ho2, r2⟩ := b1
        have nt : t'.2.1 ∉ ts.map (·.1) := fun q => by
          obtain ⟨t2, m2, e2⟩ := List.mem_map.mp q
          exact iter_ne_tuple (hA t2 (List.mem_cons_of_mem _ m2)).1 b e2.symm
        exact ⟨⟨o, k2 _ o (Ne.symm hne) nd.1 ho, r⟩, ⟨o2, k2 _ o2 (hnl t' List.mem_cons_self) nt ho2, r2⟩⟩
      · exact A2 t' h'
    · rw [e2, Array.toList_setIfInBounds, List.take_add_one, List.take_set_of_le (Nat.le_refl k), List.getElem?_set_self (by simpa using hl)]
      simp [row, Array.getD, hlt]
end
end ZN
set_option Elab.async false
set_option linter.all false
set_option maxRecDepth 100000
set_option maxHeartbeats 2000000
namespace ZN
open PySem
open PySem.Sem (wp)
section
variable {prog : Program} {w : World} {A : Around} {E : Value → Shared → Prop} {s : Shared}
theorem tz : Value.type "tuple" ≠ Value.type "zip" := by decide
theorem refs_toArray (ts : List Tr) : (ts.map fun t => Value.ref t.1).toArray.isEmpty = ts.isEmpty := by cases ts <;> rfl
/-- the first draw: the tuple that the zip owns is filled and handed out -/
theorem next_first {z TI TO : Addr} {ts : List Tr} {i : Nat} {arr : Array Value} {Q : Value → Shared → Prop} (hne : ts ≠ []) (hz : IsZip s.heap z TI TO .none) (hTI : IsArr s.heap TI (ts.map fun t => Value.ref t.1).toArray) (hTO : IsArr s.heap TO arr)
    (hs : arr.size = ts.length) (hsz : ts.length ≤ sizeLine) (nd : (ts.map (·.1)).Nodup) (hA : AtI s.heap ts i) (hi : ∀ t ∈ ts, i < t.2.2.size) (hnl : ∀ t ∈ ts, t.2.1 ≠ TO)
    (hQ : ∀ h', IsZipHeld h' z TI TO s.heap.objs.size false → AtI h' ts (i + 1) → IsArr h' s.heap.objs.size (row ts i).toArray → h'.objs.size = s.heap.objs.size + 1 →
      (∀ c o, c ≠ z → c ≠ TO → c ∉ ts.map (·.1) → s.heap.get? c = some o → h'.get? c = some o) → Q (.ref s.heap.objs.size) { s with heap := h' }) :
    wpAny (model prog w) A (Builtin.«zip.__next__» ⟨[.ref z], []⟩) (fun fin s' => ∃ v, fin = .done (.ret v) ∧ Q v s') E s := by
  have zne : ∀ c o, s.heap.get? c = some o → o.cls ≠ .type "zip" → c ≠ z := fun c o e n q => by
    subst q
    rw [hz] at e
    cases e
    exact n rfl
  have itz : ∀ t ∈ ts, t.1 ≠ z := fun t ht => by
    obtain ⟨o, ho, hc, _⟩ := (hA t ht).1
    exact zne _ o ho (by rw [hc]; decide)
  have lz : ∀ t ∈ ts, t.2.1 ≠ z := fun t ht => by
    obtain ⟨o, ho, hc, _⟩ := (hA t ht).2
    exact zne _ o ho (by rw [hc]; decide)
  have TOz : TO ≠ z := zne _ _ hTO tz
  have TIz : TI ≠ z := zne _ _ hTI tz
  have TOit : TO ∉ ts.map (·.1) := fun q => by
    obtain ⟨t, ht, e⟩ := List.mem_map.mp q
    exact iter_ne_tuple (hA t ht).1 ⟨_, hTO, rfl, _, rfl⟩ e.symm
  have zit : z ∉ ts.map (·.1) := fun q => by
    obtain ⟨t, ht, e⟩ := List.mem_map.mp q
    exact itz t ht e
  show wpAny _ _ (field (.ref z) 2 >>= _) _ _ _
  refine wpAny_bind (wpAny_field hz rfl (x := .bool false) rfl ?_)
  show wpAny _ _ (field (.ref z) 3 >>= _) _ _ _
  refine wpAny_bind (wpAny_field hz rfl (x := .ref TI) rfl ?_)
  refine wpAny_bind (wpAny_seqItems hTI rfl ?_)
  have hem : (ts.map fun t => Value.ref t.1).toArray.isEmpty = false := by
    rw [refs_toArray]
    cases ts with
    | nil => exact absurd rfl hne
    | cons _ _ => rfl
  simp only [hem, Bool.false_eq_true, if_false]
  show wpAny _ _ (Builtin.SmallTypes.ownedTupleIsFree (.ref z) >>= _) _ _ _
  refine wpAny_bind ?_
  unfold Builtin.SmallTypes.ownedTupleIsFree
  refine wpAny_bind (wpAny_field hz rfl (x := .none) rfl (wpAny_pure ?_))
  simp only [if_true]
  refine wpAny_bind (wpAny_rule ?_)
  refine wpAny_bind (wpAny_field hz rfl (x := .ref TO) rfl ?_)
  refine wpAny_bind (wpAny_setField_rec hz (by simp) fun h₁ hz₁ hs₁ => ?_)
  replace hz₁ : IsZip h₁ z TI TO .ellipsis := hz₁
  have up1 : ∀ c o, c ≠ z → s.heap.get? c = some o → h₁.get? c = some o := fun c o n e => hs₁.extBut c o n e
  refine wpAny_bind ?_
  refine own_loop ((none, ()) : Option Fin × Unit) TO (fun it l items i k x arr s Q h1 h2 hx hn hT hz2 hq => ?_) ts 0 arr { s with heap := h₁ } i _ nd (AtI.ext hA (fun t ht o e => up1 _ o (itz t ht) e) fun t ht o e => up1 _ o (lz t ht) e) hi (up1 _ _ TOz hTO) (by rw [hs]; omega) (by rw [hs]; exact hsz) TOit hnl fun h₂ arr' A2 T2 e2 sz2 k2 => ?_
  · refine wpAny_bind (wpAny_onRaise ?_)
    show wpAny _ _ (Builtin.SmallTypes.nextOf (.ref it) >>= _) _ _ _
    refine wpAny_bind (RZ.nextOf_tuple_item h1 h2 hx fun h₂ h1₂ hs₂ => wpAny_pure ?_)
    have hT2 : IsArr h₂ TO arr := hs₂.extBut _ _ hn hT
    refine wpAny_bind (wpAny_seqItems hT2 rfl ?_)
    refine wpAny_bind (wpAny_updateSeq hT2 rfl ?_ hz2 (by rw [Array.size_setIfInBounds]; omega))
    refine wpAny_bind (wpAny_letGo (wpAny_pure ?_))
    refine hq _ ?_ ?_ ?_ fun c o c1 c2 e => (Heap.get?_update_other _ _ (Ne.symm c1)).trans (hs₂.extBut _ _ c2 e)
    · obtain ⟨o, ho, r⟩ := h1₂
      exact ⟨o, (Heap.get?_update_other _ _ hn).trans ho, r⟩
    · show Heap.get? _ _ = _
      rw [Heap.get?_update_self (Obj.mapSeq (·.setIfInBounds k x)) hT2 rfl]
      simp [Obj.mapSeq]
    · exact (Heap.SameBut.update ..).1.trans hs₂.1
  · have e0 : arr'.toList = row ts i := by simpa using e2
    have kk : arr'.size = ts.length := by rw [← Array.length_toList, e0]; simp [row]
    refine wpAny_bind (wpAny_seqItems T2 rfl ?_)
    refine wpAny_bind (wpAny_newTuple ?_ (by rw [e0]; simp [row]; omega))
    have hz₂ : IsZip h₂ z TI TO .ellipsis := k2 _ _ (Ne.symm TOz) zit hz₁
    have hsz : h₂.objs.size = s.heap.objs.size := sz2.trans hs₁.1
    have hzl : z < h₂.objs.size := Heap.lt_size hz₂
    show wpAny _ _ (Builtin.SmallTypes.ownedTupleHandOut (.ref z) (.ref h₂.objs.size) >>= _) _ _ _
    refine wpAny_bind ?_
    unfold Builtin.SmallTypes.ownedTupleHandOut
    have hz₆ : IsZip (h₂.push { cls := .type "tuple", data := .seq arr'.toList.toArray }) z TI TO .ellipsis := Heap.get?_push_of_some _ hz₂
    refine wpAny_bind (wpAny_setField_rec hz₆ (by simp) fun h₇ hz₇ hs₇ => ?_)
    replace hz₇ : IsZip h₇ z TI TO (rawInt h₂.objs.size) := hz₇
    refine wpAny_setField_rec hz₇ (by simp) fun h₈ hz₈ hs₈ => ?_
    replace hz₈ : IsZipHeld h₈ z TI TO h₂.objs.size false := hz₈
    have up : ∀ c o, c ≠ z → h₂.get? c = some o → h₈.get? c = some o := fun c o c1 e => hs₈.extBut _ _ c1 (hs₇.extBut _ _ c1 (Heap.get?_push_of_some _ e))
    have hT₈ : IsArr h₈ h₂.objs.size arr'.toList.toArray := hs₈.extBut _ _ (Nat.ne_of_gt hzl) (hs₇.extBut _ _ (Nat.ne_of_gt hzl) (Heap.get?_push_size _ rfl))
    have hz8 : h₈.objs.size = h₂.objs.size + 1 := by rw [hs₈.1, hs₇.1, Heap.size_push]
    rw [hsz] at hz₈ hT₈ hz8
    rw [e0] at hT₈
    refine wpAny_pure ⟨_, rfl, ?_⟩
    show Q (.ref h₂.objs.size) _
    rw [hsz]
    exact hQ h₈ hz₈ (AtI.ext A2 (fun t ht o e => up _ o (itz t ht) e) fun t ht o e => up _ o (lz t ht) e) hT₈ hz8 fun c o c1 c2 c3 e => up c o c1 (k2 c o c2 c3 (up1 c o c1 e))
/-- a later draw: the tuple handed out first is still there -/
theorem next_held {z TI TO T : Addr} {f : Bool} {oT : Obj} {ts : List Tr} {i : Nat} {Q : Value → Shared → Prop} (hne : ts ≠ []) (hz : IsZipHeld s.heap z TI TO T f) (hTI : IsArr s.heap TI (ts.map fun t => Value.ref t.1).toArray) (hT : s.heap.get? T = some oT)
    (hsz : ts.length ≤ sizeLine) (nd : (ts.map (·.1)).Nodup) (hA : AtI s.heap ts i) (hi : ∀ t ∈ ts, i < t.2.2.size)
    (hQ : ∀ h', IsZipHeld h' z TI TO T true → AtI h' ts (i + 1) → IsArr h' s.heap.objs.size (row ts i).toArray → h'.objs.size = s.heap.objs.size + 1 →
      (∀ c o, c ≠ z → c ∉ ts.map (·.1) → s.heap.get? c = some o → h'.get? c = some o) → Q (.ref s.heap.objs.size) { s with heap := h' }) :
    wpAny (model prog w) A (Builtin.«zip.__next__» ⟨[.ref z], []⟩) (fun fin s' => ∃ v, fin = .done (.ret v) ∧ Q v s') E s := by
  have zne : ∀ c o, s.heap.get? c = some o → o.cls ≠ .type "zip" → c ≠ z := fun c o e n q => by
    subst q
    rw [hz] at e
    cases e
    exact n rfl
  have itz : ∀ t ∈ ts, t.1 ≠ z := fun t ht => by
    obtain ⟨o, ho, hc, _⟩ := (hA t ht).1
    exact zne _ o ho (by rw [hc]; decide)
  have lz : ∀ t ∈ ts, t.2.1 ≠ z := fun t ht => by
    obtain ⟨o, ho, hc, _⟩ := (hA t ht).2
    exact zne _ o ho (by rw [hc]; decide)
  have zit : z ∉ ts.map (·.1) := fun q => by
    obtain ⟨t, ht, e⟩ := List.mem_map.mp q
    exact itz t ht e
  show wpAny _ _ (field (.ref z) 2 >>= _) _ _ _
  refine wpAny_bind (wpAny_field hz rfl (x := .bool false) rfl ?_)
  show wpAny _ _ (field (.ref z) 3 >>= _) _ _ _
  refine wpAny_bind (wpAny_field hz rfl (x := .ref TI) rfl ?_)
  refine wpAny_bind (wpAny_seqItems hTI rfl ?_)
  have hem : (ts.map fun t => Value.ref t.1).toArray.isEmpty = false := by
    rw [refs_toArray]
    cases ts with
    | nil => exact absurd rfl hne
    | cons _ _ => rfl
  simp only [hem, Bool.false_eq_true, if_false]
  show wpAny _ _ (Builtin.SmallTypes.ownedTupleIsFree (.ref z) >>= _) _ _ _
  refine wpAny_bind (wpAny_tupleHeld_zip hz hT fun h₁ hz₁ hs₁ => ?_)
  have up1 : ∀ c o, c ≠ z → s.heap.get? c = some o → h₁.get? c = some o := fun c o n e => hs₁.extBut c o n e
  simp only [Bool.false_eq_true, if_false]
  refine wpAny_bind ?_
  rw [← Array.forIn_toList]
  refine draw_loop (fun a => ((none, a) : Option Fin × Array Value)) (fun it l items i x acc s Q h1 h2 hx hq => ?_) ts #[] { s with heap := h₁ } i _ nd (AtI.ext hA (fun t ht o e => up1 _ o (itz t ht) e) fun t ht o e => up1 _ o (lz t ht) e) hi fun h₂ A2 sz2 k2 => ?_
  · refine wpAny_bind (wpAny_holding ?_)
    show wpAny _ _ (Builtin.SmallTypes.nextOf (.ref it) >>= _) _ _ _
    refine wpAny_bind (RZ.nextOf_tuple_item h1 h2 hx fun h₂ h1₂ hs₂ => wpAny_pure ?_)
    exact wpAny_pure (hq h₂ h1₂ hs₂)
  · have e0 : (#[] ++ (row ts i).toArray : Array Value).toList = row ts i := by simp
    have hz₂ : IsZipHeld h₂ z TI TO T true := k2 _ _ zit hz₁
    have hsz2 : h₂.objs.size = s.heap.objs.size := sz2.trans hs₁.1
    show wpAny _ _ (newTuple (#[] ++ (row ts i).toArray : Array Value).toList >>= _) _ _ _
    rw [e0]
    refine wpAny_bind (wpAny_newTuple ?_ (by simp [row]; omega))
    refine wpAny_pure ⟨_, rfl, ?_⟩
    have hp : IsArr (h₂.push { cls := .type "tuple", data := .seq (row ts i).toArray }) h₂.objs.size (row ts i).toArray := Heap.get?_push_size _ rfl
    have hz4 : (h₂.push { cls := .type "tuple", data := .seq (row ts i).toArray }).objs.size = h₂.objs.size + 1 := Heap.size_push ..
    show Q (.ref h₂.objs.size) _
    rw [hsz2] at hp hz4 ⊢
    exact hQ _ (Heap.get?_push_of_some _ hz₂) (AtI.ext A2 (fun _ _ o e => Heap.get?_push_of_some _ e) fun _ _ o e => Heap.get?_push_of_some _ e) hp hz4 fun c o c1 c2 e => Heap.get?_push_of_some _ (k2 c o c2 (up1 c o c1 e))
/-- the end behind some draws -/
theorem next_end {z TI TO T : Addr} {f : Bool} {oT : Obj} {ts : List Tr} {i : Nat} {Q : Fin → Shared → Prop} (hh : A.handled = none) (hne : ts ≠ []) (hz : IsZipHeld s.heap z TI TO T f) (hTI : IsArr s.heap TI (ts.map fun t => Value.ref t.1).toArray) (hT : s.heap.get? T = some oT)
    (hA : AtI s.heap ts i) (hi : ∀ t ∈ ts, t.2.2.size ≤ i)
    (hE : ∀ h' e, (∀ c o, c ≠ z → c ∉ ts.map (·.1) → s.heap.get? c = some o → h'.get? c = some o) → (∃ o, h'.get? e = some o ∧ o.cls = .type "StopIteration") → E (.ref e) { s with heap := h' }) :
    wpAny (model prog w) A (Builtin.«zip.__next__» ⟨[.ref z], []⟩) Q E s := by
  have zne : ∀ c o, s.heap.get? c = some o → o.cls ≠ .type "zip" → c ≠ z := fun c o e n q => by
    subst q
    rw [hz] at e
    cases e
    exact n rfl
  show wpAny _ _ (field (.ref z) 2 >>= _) _ _ _
  refine wpAny_bind (wpAny_field hz rfl (x := .bool false) rfl ?_)
  show wpAny _ _ (field (.ref z) 3 >>= _) _ _ _
  refine wpAny_bind (wpAny_field hz rfl (x := .ref TI) rfl ?_)
  refine wpAny_bind (wpAny_seqItems hTI rfl ?_)
  have hem : (ts.map fun t => Value.ref t.1).toArray.isEmpty = false := by
    rw [refs_toArray]
    cases ts with
    | nil => exact absurd rfl hne
    | cons _ _ => rfl
  simp only [hem, Bool.false_eq_true, if_false]
  show wpAny _ _ (Builtin.SmallTypes.ownedTupleIsFree (.ref z) >>= _) _ _ _
  refine wpAny_bind (wpAny_tupleHeld_zip hz hT fun h₁ hz₁ hs₁ => ?_)
  have up1 : ∀ c o, c ≠ z → s.heap.get? c = some o → h₁.get? c = some o := fun c o n e => hs₁.extBut c o n e
  simp only [Bool.false_eq_true, if_false]
  refine wpAny_bind ?_
  rw [← Array.forIn_toList]
  cases ts with
  | nil => exact absurd rfl hne
  | cons t ts =>
    obtain ⟨⟨o, ho, r⟩, ⟨o2, ho2, r2⟩⟩ := hA t List.mem_cons_self
    have n1 : t.1 ≠ z := zne _ _ ho (by rw [r.1]; decide)
    have n2 : t.2.1 ≠ z := zne _ _ ho2 (by rw [r2.1]; decide)
    simp only [List.map_cons, List.forIn_cons]
    refine wpAny_bind (wpAny_bind (wpAny_holding ?_))
    show wpAny _ _ (Builtin.SmallTypes.nextOf (.ref t.1) >>= _) _ _ _
    refine wpAny_bind (RZ.nextOf_tuple_end (s := { s with heap := h₁ }) hh ⟨o, up1 _ _ n1 ho, r⟩ ⟨o2, up1 _ _ n2 ho2, r2⟩ (by simpa using hi t List.mem_cons_self) fun h₂ e hs₂ he => ?_)
    exact hE h₂ e (fun c o c1 c2 x => hs₂ _ _ (fun q => c2 (by rw [q]; exact List.mem_cons_self)) (up1 _ _ c1 x)) he
/-- no rows at all -/
theorem next_none {z TI TO : Addr} {Q : Fin → Shared → Prop} (hh : A.handled = none) (hz : IsZip s.heap z TI TO .none) (hTI : IsArr s.heap TI #[])
    (hE : ∀ h' e, (∀ c o, s.heap.get? c = some o → h'.get? c = some o) → (∃ o, h'.get? e = some o ∧ o.cls = .type "StopIteration") → E (.ref e) { s with heap := h' }) :
    wpAny (model prog w) A (Builtin.«zip.__next__» ⟨[.ref z], []⟩) Q E s := by
  show wpAny _ _ (field (.ref z) 2 >>= _) _ _ _
  refine wpAny_bind (wpAny_field hz rfl (x := .bool false) rfl ?_)
  show wpAny _ _ (field (.ref z) 3 >>= _) _ _ _
  refine wpAny_bind (wpAny_field hz rfl (x := .ref TI) rfl ?_)
  refine wpAny_bind (wpAny_seqItems hTI rfl ?_)
  refine wpAny_bind (wpAny_rule (wpAny_bind ?_))
  show wpAny _ _ (newExc (.type "StopIteration") [] >>= _) _ _ _
  refine wpAny_bind ?_
  simp only [newExc, newTuple]
  refine wpAny_bind (wpAny_newObj_type ?_ (by size_fits))
  refine wpAny_bind (m := firstArgMember _ _) (wpAny_of_eq (a := Value.none) (by first | rfl | (simp only [firstArgMember]; rfl)) ?_)
  refine wpAny_newObj_type ?_ (by size_fits)
  simp only [raiseNew]
  refine wpAny_bind (wpAny_handled ?_)
  first | rw [show A.in1.handled = none from hh] | rw [hh]
  refine wpAny_bind (wpAny_pure (wpAny_throw ?_))
  exact hE _ _ (fun c o x => Heap.get?_push_of_some _ (Heap.get?_push_of_some _ x)) ⟨_, Heap.get?_push_size _ rfl, rfl⟩
end
end ZN
set_option Elab.async false
set_option linter.all false
set_option maxRecDepth 100000
set_option maxHeartbeats 2000000
namespace ZN
open PySem
open PySem.Sem (wp)
/-- a zip behind i draws whose tuples are all kept -/
structure ZSt (h : Heap) (z TI TO : Addr) (ts : List Tr) (i : Nat) : Prop where
  ti : IsArr h TI (ts.map fun t => Value.ref t.1).toArray
  at_ : AtI h ts i
  st : (i = 0 ∧ TI ≠ TO ∧ IsZip h z TI TO .none ∧ (∃ arr, IsArr h TO arr ∧ arr.size = ts.length) ∧ ∀ t ∈ ts, t.2.1 ≠ TO) ∨ (ts ≠ [] ∧ ∃ T f xs, IsZipHeld h z TI TO T f ∧ IsArr h T xs)
structure ZG (ts : List Tr) (lo : Addr) (h : Heap) (as : List Addr) : Prop where
  rise : as.Pairwise (· < ·)
  above : ∀ a ∈ as, lo < a
  tup : ∀ (j : Nat) (a : Addr), as[j]? = some a → IsArr h a (row ts j).toArray
theorem ZG.there {ts : List Tr} {lo : Addr} {h : Heap} {as : List Addr} (g : ZG ts lo h as) {a : Addr} (ha : a ∈ as) : a < h.objs.size := by
  obtain ⟨j, hj⟩ := List.mem_iff_getElem?.mp ha
  exact Heap.lt_size (g.tup j a hj)
theorem arr_ne_list {h : Heap} {S T : Addr} {xs ys : Array Value} {c : Nat} (hS : h.get? S = some { cls := .type "list", dict := none, data := .seq ys c, slots := #[] }) (hT : IsArr h T xs) : T ≠ S := fun e => by
  subst e
  rw [hT] at hS
  have := congrArg (fun o => o.map Obj.cls) hS
  simp at this
theorem AtI.ne_list {h : Heap} {ts : List Tr} {i : Nat} {S : Addr} {ys : Array Value} {c : Nat} (x : AtI h ts i) (hS : h.get? S = some { cls := .type "list", dict := none, data := .seq ys c, slots := #[] }) : ∀ t ∈ ts, t.1 ≠ S ∧ t.2.1 ≠ S := fun t ht => by
  obtain ⟨⟨o, ho, hc, _⟩, ⟨o2, ho2, hc2, _⟩⟩ := x t ht
  constructor
  · intro e
    rw [e, hS] at ho
    cases ho
    exact absurd (show Value.type "list" = Value.type "tuple_iterator" from hc) (by decide)
  · intro e
    rw [e, hS] at ho2
    cases ho2
    exact absurd (show Value.type "list" = Value.type "tuple" from hc2) (by decide)
section
variable {prog : Program} {w : World} {A : Around} {E : Value → Shared → Prop} {s : Shared}
theorem pn_item {z TI TO : Addr} {ts : List Tr} {i : Nat} {Q : Option Value → Shared → Prop} (hne : ts ≠ []) (hsz : ts.length ≤ sizeLine) (nd : (ts.map (·.1)).Nodup) (hi : ∀ t ∈ ts, i < t.2.2.size) (st : ZSt s.heap z TI TO ts i)
    (hQ : ∀ h', ZSt h' z TI TO ts (i + 1) → IsArr h' s.heap.objs.size (row ts i).toArray → h'.objs.size = s.heap.objs.size + 1 →
      (∀ c o, c ≠ z → c ≠ TO → c ∉ ts.map (·.1) → s.heap.get? c = some o → h'.get? c = some o) → Q (some (.ref s.heap.objs.size)) { s with heap := h' }) :
    wpAny (model prog w) A (pyNext (.ref z)) Q E s := by
  have TIit : ∀ {f0 : Value}, (∃ o, s.heap.get? z = some o ∧ o.cls = .type "zip") → TI ≠ z ∧ TI ∉ ts.map (·.1) := fun hz => by
    obtain ⟨o, ho, hc⟩ := hz
    constructor
    · intro e
      have := st.ti
      rw [e, IsArr, ho] at this
      cases this
      exact absurd (show Value.type "tuple" = Value.type "zip" from hc) (by decide)
    · intro q
      obtain ⟨t, ht, e⟩ := List.mem_map.mp q
      exact iter_ne_tuple (st.at_ t ht).1 ⟨_, st.ti, rfl, _, rfl⟩ e.symm
  rcases st.st with ⟨rfl, hTT, hz, ⟨arr, hTO, hs⟩, hnl⟩ | ⟨_, T, f, xs, hz, hT⟩
  · have hTy : s.TypeIs (.ref z) "zip" := ⟨_, hz, rfl⟩
    obtain ⟨n1, n2⟩ := TIit (f0 := .none) ⟨_, hz, rfl⟩
    unfold pyNext
    exact wpAny_bind (wpAny_attempt (wpAny_callSpecial?_slot (name := Str.ofString "__next__") hTy F.slot_zip_next
        (wpAny_call_entry F.slot_zip_next hTy F.entry_zip_next
          (next_first hne hz st.ti hTO hs hsz nd st.at_ hi hnl fun h' a1 a2 a3 a4 a5 => wpAny_pure (hQ h' ⟨a5 _ _ n1 hTT n2 st.ti, a2, .inr ⟨hne, _, _, _, a1, a3⟩⟩ a3 a4 a5)) (F.args_zip_next_1 _))))
  · have hTy : s.TypeIs (.ref z) "zip" := ⟨_, hz, rfl⟩
    obtain ⟨n1, n2⟩ := TIit (f0 := .none) ⟨_, hz, rfl⟩
    have m1 : T ≠ z := fun e => by
      subst e
      rw [IsArr, hz] at hT
      have := congrArg (fun o => o.map Obj.cls) hT
      simp at this
    have m2 : T ∉ ts.map (·.1) := fun q => by
      obtain ⟨t, ht, e⟩ := List.mem_map.mp q
      exact iter_ne_tuple (st.at_ t ht).1 ⟨_, hT, rfl, _, rfl⟩ e.symm
    unfold pyNext
    exact wpAny_bind (wpAny_attempt (wpAny_callSpecial?_slot (name := Str.ofString "__next__") hTy F.slot_zip_next
      (wpAny_call_entry F.slot_zip_next hTy F.entry_zip_next
        (next_held hne hz st.ti hT hsz nd st.at_ hi fun h' a1 a2 a3 a4 a5 => wpAny_pure (hQ h' ⟨a5 _ _ n1 n2 st.ti, a2, .inr ⟨hne, _, _, _, a1, a5 _ _ m1 m2 hT⟩⟩ a3 a4 fun c o c1 _ c3 e => a5 c o c1 c3 e)) (F.args_zip_next_1 _))))
theorem pn_end {z TI TO : Addr} {ts : List Tr} {m : Nat} {Q : Option Value → Shared → Prop} (hh : A.handled = none) (hm : (ts = [] ∧ m = 0) ∨ (ts ≠ [] ∧ 0 < m)) (hi : ∀ t ∈ ts, t.2.2.size ≤ m) (st : ZSt s.heap z TI TO ts m)
    (hQ : ∀ h', (∀ c o, c ≠ z → c ∉ ts.map (·.1) → s.heap.get? c = some o → h'.get? c = some o) → Q none { s with heap := h' }) : wpAny (model prog w) A (pyNext (.ref z)) Q E s := by
  have fin : ∀ {h' : Heap} {e : Addr}, (∃ o, h'.get? e = some o ∧ o.cls = .type "StopIteration") → Q none { s with heap := h' } → wpAny (model prog w) A (do if ← isInstance (.ref e) (.type "StopIteration") then pure none else throw (.ref e)) Q E { s with heap := h' } := fun he q => by
    obtain ⟨o, ho, hc⟩ := he
    refine wpAny_bind (wpAny_isInstance (T := "StopIteration") (b := true) ⟨o, ho, hc⟩ isSubtype_stop ?_)
    exact wpAny_pure q
  rcases st.st with ⟨e, _, hz, _, _⟩ | ⟨hne, T, f, xs, hz, hT⟩
  · rcases hm with ⟨rfl, _⟩ | ⟨_, h0⟩
    · have hTy : s.TypeIs (.ref z) "zip" := ⟨_, hz, rfl⟩
      unfold pyNext
      refine wpAny_bind (wpAny_attempt (wpAny_callSpecial?_slot (name := Str.ofString "__next__") hTy F.slot_zip_next
        (wpAny_call_entry F.slot_zip_next hTy F.entry_zip_next (next_none hh hz st.ti fun h' e hk he => ?_) (F.args_zip_next_1 _))))
      exact fin he (hQ h' fun c o _ _ x => hk c o x)
    · omega
  · have hTy : s.TypeIs (.ref z) "zip" := ⟨_, hz, rfl⟩
    unfold pyNext
    refine wpAny_bind (wpAny_attempt (wpAny_callSpecial?_slot (name := Str.ofString "__next__") hTy F.slot_zip_next
      (wpAny_call_entry F.slot_zip_next hTy F.entry_zip_next (next_end hh hne hz st.ti hT st.at_ hi fun h' e hk he => ?_) (F.args_zip_next_1 _))))
    exact fin he (hQ h' hk)
end
end ZN
set_option Elab.async false
set_option linter.all false
set_option maxRecDepth 100000
set_option maxHeartbeats 2000000
namespace ZN
open PySem
open PySem.Sem (wp)
section
variable {prog : Program} {w : World} {A : Around} {E : Value → Shared → Prop} {s : Shared}
theorem hint_zip {r : Addr} {Q : Bool → Shared → Prop} (hT : s.TypeIs (.ref r) "zip") (h : Q true s) : wpAny (model prog w) A (Builtin.List.listLengthHint (.ref r)) Q E s := by
  unfold Builtin.List.listLengthHint
  refine wpAny_bind (wpAny_specialOf hT zip_no_len ?_)
  show wpAny _ _ (specialOf (Value.ref r) (Str.ofString "__length_hint__") >>= _) _ _ _
  refine wpAny_bind (wpAny_specialOf hT zip_no_hint ?_)
  exact wpAny_pure h
end
section
variable {prog : Program} {w : World} {A : Around} {s : Shared} {R : Result → Shared → Prop}
theorem zn_loop {S z TI TO : Addr} {ts : List Tr} {m : Nat} (hh : A.handled = none) (hSz : S ≠ z) (hST : TO ≠ S) (hST2 : TI ≠ S) (hm : (ts = [] ∧ m = 0) ∨ (ts ≠ [] ∧ 0 < m)) (hi : ∀ t ∈ ts, t.2.2.size = m) (hn : m ≤ sizeLine) (hsz : ts.length ≤ sizeLine) (nd : (ts.map (·.1)).Nodup) (lo : Addr) (res : Value) {h₁ : Heap}
    (hlo : ∀ c, c = z ∨ c = TO ∨ c ∈ ts.map (·.1) ∨ c = S → c ≤ lo)
    (hR : ∀ h' acc c as, (∀ b o, b ≠ S → b ≠ z → b ≠ TO → b ∉ ts.map (·.1) → h₁.get? b = some o → h'.get? b = some o) → h'.get? S = some { cls := .type "list", dict := none, data := .seq acc c, slots := #[] } → as.length = m → ZG ts lo h' as →
      acc.toList = as.map Value.ref → R (.ok (.ret res)) { s with heap := h' }) :
    ∀ (k i : Nat) (h : Heap) (c : Nat) (acc : Array Value) (as : List Addr), m - i = k → i ≤ m → ZSt h z TI TO ts i → (∀ b o, b ≠ S → b ≠ z → b ≠ TO → b ∉ ts.map (·.1) → h₁.get? b = some o → h.get? b = some o) →
      h.get? S = some { cls := .type "list", dict := none, data := .seq acc c, slots := #[] } → acc.toList = as.map Value.ref → as.length = i → ZG ts lo h as → lo < h.objs.size →
      codeAny (model prog w) A (.builtin "list.extend.loop" ⟨[.ref S, .ref z, res], []⟩) R { s with heap := h } := by
  have low : ∀ b : Nat, lo < b → b ≠ z ∧ b ≠ TO ∧ b ∉ ts.map (·.1) ∧ b ≠ S := fun b hb => by
    refine ⟨fun e => ?_, fun e => ?_, fun e => ?_, fun e => ?_⟩
    · exact absurd (hlo b (.inl e)) (Nat.not_le.mpr hb)
    · exact absurd (hlo b (.inr (.inl e))) (Nat.not_le.mpr hb)
    · exact absurd (hlo b (.inr (.inr (.inl e)))) (Nat.not_le.mpr hb)
    · exact absurd (hlo b (.inr (.inr (.inr e)))) (Nat.not_le.mpr hb)
  intro k
  induction k with
  | zero =>
    intro i h c acc as hk hi2 hst hkeep hS hacc hal hG hIs
    have hin : i = m := by omega
    subst hin
    refine codeAny_builtin PySem.F.entry_extend_loop ?_
    rw [Around.under_plainId PySem.F.plain_extend_loop _]
    show wpAny _ A.in1 (pyNext (.ref z) >>= _) _ _ _
    have nS := hst.at_.ne_list hS
    refine wpAny_bind (pn_end (s := { s with heap := h }) (A := A.in1) hh hm (fun t ht => Nat.le_of_eq (hi t ht)) hst fun h' he => ?_)
    refine wpAny_pure (hR h' acc c as (fun b o h1 h2 h3 h4 e => he b o h2 h4 (hkeep b o h1 h2 h3 h4 e)) (he S _ hSz (fun q => ?_) hS) hal ⟨hG.rise, hG.above, fun j a hj => ?_⟩ hacc)
    · obtain ⟨t, ht, e⟩ := List.mem_map.mp q
      exact (nS t ht).1 e
    · obtain ⟨l1, l2, l3, l4⟩ := low a (hG.above a (List.mem_of_getElem? hj))
      exact he a _ l1 l3 (hG.tup j a hj)
  | succ k ih =>
    intro i h c acc as hk hi2 hst hkeep hS hacc hal hG hIs
    have hlt : i < m := by omega
    have hne : ts ≠ [] := by
      rcases hm with ⟨_, e⟩ | ⟨e, _⟩
      · omega
      · exact e
    have hsz2 : acc.size = i := by rw [← Array.length_toList, hacc, List.length_map, hal]
    refine codeAny_builtin PySem.F.entry_extend_loop ?_
    rw [Around.under_plainId PySem.F.plain_extend_loop _]
    show wpAny _ A.in1 (pyNext (.ref z) >>= _) _ _ _
    have nS := hst.at_.ne_list hS
    refine wpAny_bind (pn_item (s := { s with heap := h }) hne hsz nd (fun t ht => by rw [hi t ht]; exact hlt) hst fun h' hst' ht hz hkp => ?_)
    dsimp only at ht hz hkp ⊢
    have hSit : S ∉ ts.map (·.1) := fun q => by
      obtain ⟨t, ht, e⟩ := List.mem_map.mp q
      exact (nS t ht).1 e
    have hS' := hkp S _ hSz (Ne.symm hST) hSit hS
    have up : ∀ b o, b ≠ S → h'.get? b = some o → (h'.update S (Obj.mapSeq (·.push (Value.ref h.objs.size)))).get? b = some o := fun b o hb e => (Heap.get?_update_other _ _ (Ne.symm hb)).trans e
    have nS' := hst'.at_.ne_list hS'
    obtain ⟨l1, l2, l3, l4⟩ := low h.objs.size hIs
    have hst2 : ZSt (h'.update S (Obj.mapSeq (·.push (Value.ref h.objs.size)))) z TI TO ts (i + 1) := by
      refine ⟨up _ _ hST2 hst'.ti, AtI.ext hst'.at_ (fun t ht o e => up _ o (nS' t ht).1 e) (fun t ht o e => up _ o (nS' t ht).2 e), ?_⟩
      rcases hst'.st with ⟨e, _⟩ | ⟨e, T, f, xs, q1, q2⟩
      · omega
      · exact .inr ⟨e, T, f, xs, up _ _ (Ne.symm hSz) q1, up _ _ (arr_ne_list hS' q2) q2⟩
    show wpAny _ A.in1 (updateSeq S (·.push (Value.ref h.objs.size)) >>= _) _ _ _
    refine wpAny_bind ?_
    refine wpAny_updateSeq hS' rfl (wpAny_pure ⟨plainId_quiet PySem.F.plain_extend_loop _, ih (i + 1) _ _ (acc.push (Value.ref h.objs.size)) (as ++ [h.objs.size]) (by omega) hlt hst2
      (fun b o h1 h2 h3 h4 e => up b o h1 (hkp b o h2 h3 h4 (hkeep b o h1 h2 h3 h4 e))) (Heap.get?_update_self _ hS' rfl) (by rw [Array.toList_push, hacc, List.map_append]; rfl) (by rw [List.length_append, hal]; rfl) ⟨?_, ?_, ?_⟩ ?_⟩) (by rw [hsz2]; omega) (by show (acc.push (Value.ref h.objs.size)).size ≤ sizeLine + 1; rw [Array.size_push, hsz2]; omega)
    · refine List.pairwise_append.mpr ⟨hG.rise, List.pairwise_singleton _ _, fun a ha b hb => ?_⟩
      rw [List.mem_singleton.mp hb]
      exact hG.there ha
    · intro a ha
      rcases List.mem_append.mp ha with ha | ha
      · exact hG.above a ha
      · rw [List.mem_singleton.mp ha]; exact hIs
    · intro j b hj
      rcases Nat.lt_trichotomy j as.length with h1 | h1 | h1
      · rw [List.getElem?_append_left h1] at hj
        obtain ⟨r1, r2, r3, r4⟩ := low b (hG.above b (List.mem_of_getElem? hj))
        exact up b _ r4 (hkp b _ r1 r2 r3 (hG.tup j b hj))
      · subst h1
        have hb : h.objs.size = b := by simpa using hj
        subst hb
        rw [hal]
        exact up _ _ l4 ht
      · have hnone : (as ++ [h.objs.size])[j]? = none := List.getElem?_eq_none (by rw [List.length_append, List.length_singleton]; omega)
        rw [hnone] at hj; cases hj
    · have e : (h'.update S (Obj.mapSeq (·.push (Value.ref h.objs.size)))).get? h.objs.size = _ := up _ _ l4 ht
      exact Nat.lt_trans hIs (Heap.lt_size e)
end
theorem ZSt.step {h0 h h' : Heap} {z TI TO S : Addr} {ts : List Tr} (hz : IsZip h0 z TI TO .none) (k0 : ∀ b o, h0.get? b = some o → h.get? b = some o) (k : ∀ b o, b ≠ S → h.get? b = some o → h'.get? b = some o) (nz : z ≠ S) (nTI : TI ≠ S) (nTO : TO ≠ S) (nit : ∀ t ∈ ts, t.1 ≠ S ∧ t.2.1 ≠ S) (x : ZSt h z TI TO ts 0) : ZSt h' z TI TO ts 0 := by
  refine ⟨k _ _ nTI x.ti, AtI.ext x.at_ (fun t ht o e => k _ o (nit t ht).1 e) (fun t ht o e => k _ o (nit t ht).2 e), ?_⟩
  rcases x.st with ⟨e, t1, q1, ⟨a, q2, q3⟩, q4⟩ | ⟨e, T, f, xs, q1, q2⟩
  · exact .inl ⟨e, t1, k _ _ nz q1, ⟨a, k _ _ nTO q2, q3⟩, q4⟩
  · have b := k0 _ _ hz
    rw [q1] at b
    have := congrArg (fun o => o.map Obj.data) b
    simp [rawInt] at this
section
variable {prog : Program} {w : World} {A : Around} {E : Value → Shared → Prop} {s : Shared}
theorem call_list_zip {z TI TO S : Addr} {ts : List Tr} {m : Nat} {Q : Value → Shared → Prop} (hSS : s.heap.objs.size = S) (hh : A.handled = none) (hm : (ts = [] ∧ m = 0) ∨ (ts ≠ [] ∧ 0 < m)) (hi : ∀ t ∈ ts, t.2.2.size = m) (hn : m ≤ sizeLine) (hsz : ts.length ≤ sizeLine) (nd : (ts.map (·.1)).Nodup) (hst : ZSt s.heap z TI TO ts 0)
    (hz : IsZip s.heap z TI TO .none) (hTO : ∃ arr, IsArr s.heap TO arr)
    (hQ : ∀ h' acc c as, (∀ b o, b ≠ z → b ≠ TO → b ∉ ts.map (·.1) → s.heap.get? b = some o → h'.get? b = some o) → h'.get? S = some { cls := .type "list", dict := none, data := .seq acc c, slots := #[] } → as.length = m → ZG ts S h' as →
      acc.toList = as.map Value.ref → Q (.ref S) { s with heap := h' }) :
    wpAny (model prog w) A (call (.type "list") [.ref z]) Q E s := by
  obtain ⟨arr, hTO⟩ := hTO
  refine callType_codes (Q₁ := fun obj s₁ => obj = .ref S ∧ s₁ = { s with heap := s.heap.push { cls := .type "list", data := .seq #[] } }) PySem.F.called_list (PySem.F.typeCall_list_1 _) PySem.F.entry_list_init
    (code_list_new _ ⟨by rw [hSS], rfl⟩) fun obj s₁ h₁ => ?_
  obtain ⟨rfl, rfl⟩ := h₁
  have lt : ∀ {b o}, s.heap.get? b = some o → b < S := fun e => by rw [← hSS]; exact Heap.lt_size e
  have zl : z < S := lt hz
  have TOl : TO < S := lt hTO
  have TIl : TI < S := lt hst.ti
  have nit : ∀ t ∈ ts, t.1 < S ∧ t.2.1 < S := fun t ht => by
    obtain ⟨⟨o, ho, _⟩, ⟨o2, ho2, _⟩⟩ := hst.at_ t ht
    exact ⟨lt ho, lt ho2⟩
  have nit2 : ∀ t ∈ ts, t.1 ≠ S ∧ t.2.1 ≠ S := fun t ht => ⟨Nat.ne_of_lt (nit t ht).1, Nat.ne_of_lt (nit t ht).2⟩
  have nz : z ≠ S := Nat.ne_of_lt zl
  have nTO : TO ≠ S := Nat.ne_of_lt TOl
  have nTI : TI ≠ S := Nat.ne_of_lt TIl
  have hS : (s.heap.push { cls := .type "list", data := .seq #[] }).get? S = some { cls := .type "list", data := .seq #[] } := by rw [← hSS]; exact Heap.get?_push_size _ rfl
  have kp0 : ∀ b o, s.heap.get? b = some o → (s.heap.push { cls := .type "list", data := .seq #[] }).get? b = some o := fun b o e => Heap.get?_push_of_some _ e
  have st0 : ZSt (s.heap.push { cls := .type "list", data := .seq #[] }) z TI TO ts 0 := ZSt.step (S := S) hz (fun _ _ e => e) (fun b o _ e => kp0 b o e) nz nTI nTO nit2 hst
  refine ⟨⟨_, hS, rfl⟩, PySem.F.args_list_init_2 _ _, ?_⟩
  show wpAny _ _ (do let old ← Builtin.List.listItems (.ref S); Builtin.List.listUpdate (.ref S) (fun _ => #[]); letGo old.toList.reverse; Builtin.List.listExtendWith (.ref S) (.ref z) .none) _ _ _
  refine wpAny_bind ?_
  unfold Builtin.List.listItems
  refine wpAny_bind (wpAny_seqItems hS rfl (wpAny_pure ?_))
  show wpAny _ _ (updateSeq S (fun _ => #[]) >>= fun _ => letGo (#[] : Array Value).toList.reverse >>= fun _ => Builtin.List.listExtendWith (.ref S) (.ref z) .none) _ _ _
  refine wpAny_bind (wpAny_updateSeq hS rfl ?_)
  have hS₂ := Heap.get?_update_self (Obj.mapSeq (fun _ => (#[] : Array Value))) hS rfl
  have oth : ∀ b o, b ≠ S → (s.heap.push { cls := .type "list", data := .seq #[] }).get? b = some o → ((s.heap.push { cls := .type "list", data := .seq #[] }).update S (Obj.mapSeq (fun _ => (#[] : Array Value)))).get? b = some o :=
    fun b o hb e => (Heap.get?_update_other _ _ (Ne.symm hb)).trans e
  refine wpAny_bind (wpAny_letGo ?_)
  have st1 := ZSt.step hz kp0 oth nz nTI nTO nit2 st0
  have kp1 : ∀ b o, s.heap.get? b = some o → ((s.heap.push { cls := .type "list", data := .seq #[] }).update S (Obj.mapSeq (fun _ => (#[] : Array Value)))).get? b = some o := fun b o e => oth b o (Nat.ne_of_lt (lt e)) (kp0 b o e)
  have hz2 := kp1 _ _ hz
  dsimp only
  generalize ((s.heap.push { cls := .type "list", data := .seq #[] }).update S (Obj.mapSeq (fun _ => (#[] : Array Value)))) = g2 at hS₂ oth st1 kp1 hz2 ⊢
  unfold Builtin.List.listExtendWith
  refine wpAny_bind (wpAny_typeOf (T := "zip") ⟨_, hz2, rfl⟩ ?_)
  have h1 : Builtin.List.listSameRef (.ref S) (.ref z) = false := by simp [Builtin.List.listSameRef, Ne.symm nz]
  have h2 : (Value.type "zip" == Value.type "list") = false := by decide
  have h3 : (Value.type "zip" == Value.type "tuple") = false := by decide
  simp only [h1, h2, h3, Bool.or_false, Bool.false_eq_true, if_false]
  refine wpAny_bind (wpAny_pyIter_zip hz2 ?_)
  refine wpAny_bind (wpAny_holding (hint_zip ⟨_, hz2, rfl⟩ ?_))
  simp only [Bool.true_or, if_true]
  refine wpAny_bind (wpAny_rule ?_)
  refine wpAny_bind ?_
  show wpAny _ _ (updateSeq S (·.push .none) >>= fun _ => updateSeq S (·.pop)) _ _ _
  refine wpAny_bind (wpAny_updateSeq hS₂ rfl ?_)
  have hS₃ := Heap.get?_update_self (Obj.mapSeq (·.push Value.none)) hS₂ rfl
  refine wpAny_updateSeq (hz := by seq_fits) hS₃ rfl ?_
  have hS₄ := Heap.get?_update_self (Obj.mapSeq (·.pop)) hS₃ rfl
  have oth2 : ∀ b o, b ≠ S → g2.get? b = some o → ((g2.update S (Obj.mapSeq (·.push Value.none))).update S (Obj.mapSeq (·.pop))).get? b = some o :=
    fun b o hb e => (Heap.get?_update_other _ _ (Ne.symm hb)).trans ((Heap.get?_update_other _ _ (Ne.symm hb)).trans e)
  have st2 := ZSt.step hz kp1 oth2 nz nTI nTO nit2 st1
  refine wpAny_pure ⟨plainId_quiet PySem.F.plain_extend_loop _, ?_⟩
  refine zn_loop (A := A.in1) (s := s) (h₁ := s.heap) (R := wants (fun r s₂ => r = .none ∧ Q (.ref S) s₂) E) hh (Ne.symm nz) nTO nTI hm hi hn hsz nd S .none (fun c hc => ?_) (fun h' acc c as hk hS' hl hG hacc => ?_) m 0 _ _ #[] [] (Nat.sub_zero _) (Nat.zero_le _) st2 (fun b o h1 h2 h3 h4 e => oth2 b o h1 (kp1 b o e)) hS₄ rfl rfl
      ⟨List.Pairwise.nil, (fun _ ha => nomatch ha), (fun j a hj => by simp at hj)⟩ ?_
  · rcases hc with e | e | e | e
    · rw [e]; exact Nat.le_of_lt zl
    · rw [e]; exact Nat.le_of_lt TOl
    · obtain ⟨t, ht, q⟩ := List.mem_map.mp e
      rw [← q]; exact Nat.le_of_lt (nit t ht).1
    · rw [e]; exact Nat.le_refl _
  · exact ⟨rfl, hQ h' acc c as (fun b o h2 h3 h4 e => hk b o (Nat.ne_of_lt (lt e)) h2 h3 h4 e) hS' hl hG hacc⟩
  · exact Heap.lt_size hS₄
end
end ZN
namespace ZN
open PySem PySem.Spec PyProof.Rows L2
/-! ### the expression list(zip( *e)) -/
theorem off_nat (b n k c : Nat) (h : b < n) (e : b = n + k + c) : False := by omega
theorem rfs_range : ∀ n k, rfs n k = (List.range' n k).map Value.ref
  | _, 0 => rfl
  | n, k + 1 => by rw [rfs, rfs_range (n + 1) k, List.range'_succ, List.map_cons]
section
variable {X : Cx} {pins : List (Addr × Obj)} {σ : L2.St} {H : Hp} {s : Shared}
theorem mk_ts (I : Inv X pins σ H s) (m : Nat) : ∀ {rs : List Addr} {rows : List (List V)}, Paired (fun (r : Addr) (row : List V) => SqT X.K H r row ∧ row.length = m) rs rows → ∀ n : Nat, ∃ ts : List Tr,
    (ts.map (·.1)) = List.range' n rs.length ∧ (∀ j t, ts[j]? = some t → t.1 = n + j ∧ rs[j]? = some t.2.1) ∧ (∀ t ∈ ts, s.heap.IsTuple t.2.1 t.2.2 ∧ t.2.2.size = m) ∧ ∀ i, i < m → Vals (rows.map fun r => r.getD i .non) (row ts i)
  | [], [], .nil, n => ⟨[], rfl, (fun j t h => by simp at h), (fun _ h => nomatch h), (fun _ _ => Paired.nil)⟩
  | r :: rs, rw_ :: rows, .cons ⟨h1, h2⟩ t, n => by
    obtain ⟨ts, e1, e2, e3, e4⟩ := mk_ts I m t (n + 1)
    obtain ⟨its, rv, p, hz⟩ := I.tuple h1
    have hl := rv.length
    refine ⟨(n, r, its.toArray) :: ts, ?_, fun j t h => ?_, fun t h => ?_, fun i hi => ?_⟩
    · rw [List.map_cons, e1, List.length_cons, List.range'_succ]
    · cases j with
      | zero =>
        cases (Option.some.inj h : (n, r, its.toArray) = t)
        exact ⟨rfl, rfl⟩
      | succ j =>
        obtain ⟨a, b⟩ := e2 j t (by simpa using h)
        exact ⟨by rw [a]; omega, by simpa using b⟩
    · rcases List.mem_cons.mp h with rfl | h
      · exact ⟨p, by rw [List.size_toArray]; omega⟩
      · exact e3 t h
    · show Vals (rw_.getD i .non :: rows.map fun r => r.getD i .non) ((its.toArray.getD i .none) :: row ts i)
      have hlt : i < rw_.length := by omega
      have g1 : rw_.getD i .non = rw_[i] := by rw [List.getD_eq_getElem?_getD, List.getElem?_eq_getElem hlt] <;> rfl
      obtain ⟨u, hu, ru⟩ := rv.get (List.getElem?_eq_getElem hlt)
      have hlt2 : i < its.length := by omega
      have g2 : its.toArray.getD i .none = u := by
        have : its[i] = u := by
          rw [List.getElem?_eq_getElem hlt2] at hu
          exact Option.some.inj hu
        simp [Array.getD, hlt2, this]
      rw [g1, g2]
      exact .cons ru (e4 i hi)
/-- tuples tracked at their addresses -/
def putR : Hp → List Addr → List (List V) → Hp
  | H, a :: as, p :: ps => putR (upd H a (.tup p)) as ps
  | H, _, _ => H
theorem putR_off {b : Addr} : ∀ (as : List Addr) (ps : List (List V)) (H : Hp), b ∉ as → putR H as ps b = H b
  | [], _, _, _ => rfl
  | _ :: _, [], _, _ => rfl
  | a :: as, p :: ps, H, h => by
    show putR (upd H a (.tup p)) as ps b = H b
    rw [putR_off as ps _ (fun z => h (List.mem_cons_of_mem _ z)), upd_ne (fun z => h (by rw [z]; exact List.mem_cons_self))]
theorem putR_at : ∀ (as : List Addr) (ps : List (List V)) (H : Hp), as.length = ps.length → as.Nodup → ∀ (j : Nat) (a : Addr) (p : List V), as[j]? = some a → ps[j]? = some p → putR H as ps a = some (.tup p)
  | [], _, _, _, _, _, _, _, e, _ => by simp at e
  | _ :: _, [], _, h, _, _, _, _, _, _ => by cases h
  | a :: as, p :: ps, H, h, hn, j, a', p', e1, e2 => by
    have hn' := List.nodup_cons.mp hn
    cases j with
    | zero =>
      cases (Option.some.inj e1 : a = a')
      cases (Option.some.inj e2 : p = p')
      show putR (upd H a (.tup p)) as ps a = _
      rw [putR_off as ps _ hn'.1, upd_same]
    | succ j => exact putR_at as ps _ (Nat.succ.inj h) hn'.2 j a' p' (by simpa using e1) (by simpa using e2)
theorem vals_refs : ∀ as : List Addr, Vals (as.map V.ref) (as.map Value.ref)
  | [] => .nil
  | _ :: as => .cons rfl (vals_refs as)
theorem vals_refs_inv : ∀ {as : List Addr} {us : List Value}, Vals (as.map V.ref) us → us = as.map Value.ref
  | [], _, .nil => rfl
  | a :: as, _, .cons r t => by
    cases r
    rw [vals_refs_inv t]
    rfl
/-- the columns of rows of m things -/
def cols (rows : List (List V)) (m : Nat) : List (List V) := (List.range m).map fun i => rows.map fun r => r.getD i .non
theorem cols_laid {h' : Heap} {ts : List Tr} {rows : List (List V)} {m : Nat} {acc : Array Value} {c : Nat} {as : List Addr} {S : Addr} (I : Inv X pins σ H s) (hS0 : s.heap.objs.size ≤ S) (hz : m ≤ sizeLine) (hz2 : rows.length ≤ sizeLine) (kv : ∀ i, i < m → Vals (rows.map fun r => r.getD i .non) (row ts i))
    (hk : ∀ b o, s.heap.get? b = some o → h'.get? b = some o) (hS : h'.get? S = some { cls := .type "list", dict := none, data := .seq acc c, slots := #[] }) (hl : as.length = m) (hG : ZG ts S h' as) (hacc : acc.toList = as.map Value.ref) :
    ∃ H' : Hp, (∀ b o, H b = some o → H' b = some o) ∧ H S = none ∧ (∀ t ∈ as, H t = none) ∧ S ∉ as ∧ as.Nodup ∧ H' S = some (.lst (as.map V.ref)) ∧ (∀ (j : Nat) (a : Addr), as[j]? = some a → H' a = some (.tup (rows.map fun r => r.getD j .non))) ∧ Inv X pins σ H' { s with heap := h' } := by
  have hSn : S ∉ as := fun z => Nat.lt_irrefl _ (hG.above _ z)
  have nd : as.Nodup := List.Pairwise.imp (fun {a b} (h : a < b) => Nat.ne_of_lt h) hG.rise
  have new : ∀ t ∈ as, H t = none := fun t ht => I.hok.fresh (Nat.le_trans hS0 (Nat.le_of_lt (hG.above t ht)))
  have newS : H S = none := I.hok.fresh hS0
  have atP : ∀ (j : Nat) (a : Addr), as[j]? = some a → putR (upd H S (.lst (as.map V.ref))) as (cols rows m) a = some (.tup (rows.map fun r => r.getD j .non)) := fun j a ha => by
    have hj : j < m := by
      rw [← hl]
      exact (List.getElem?_eq_some_iff.mp ha).1
    refine putR_at as (cols rows m) _ (by rw [hl]; simp [cols]) nd j a _ ha ?_
    rw [cols, List.getElem?_map, List.getElem?_range hj]
    rfl
  have off : ∀ b, b ∉ as → b ≠ S → putR (upd H S (.lst (as.map V.ref))) as (cols rows m) b = H b := fun b h1 h2 => by rw [putR_off as _ _ h1, upd_ne h2]
  have low : ∀ b o, s.heap.get? b = some o → b ∉ as ∧ b ≠ S := fun b o e => ⟨fun z => absurd (Heap.lt_size e) (Nat.not_lt.mpr (Nat.le_trans hS0 (Nat.le_of_lt (hG.above b z)))), Nat.ne_of_lt (Nat.lt_of_lt_of_le (Heap.lt_size e) hS0)⟩
  have kp : ∀ b u, H b = some u → (putR (upd H S (.lst (as.map V.ref))) as (cols rows m)) b = some u := fun b u e => by
    rw [off b (fun z => by rw [new b z] at e; cases e) (fun z => by rw [z, newS] at e; cases e)]
    exact e
  have eS : putR (upd H S (.lst (as.map V.ref))) as (cols rows m) S = some (.lst (as.map V.ref)) := by rw [putR_off as _ _ hSn, upd_same]
  refine ⟨putR (upd H S (.lst (as.map V.ref))) as (cols rows m), kp, newS, new, hSn, nd, eS, atP, ?_⟩
  refine I.call' (ch := []) rfl ⟨fun b o q _ _ _ => hk b o q, fun b o q _ _ _ => ⟨o.slots, hk b o q⟩, fun b o q n _ => ?_, fun b o q _ => ⟨o, hk b o q⟩, fun b xs q => kp b _ q, fun b o u q => kp b _ q, fun b ps q => ⟨#[], by rw [kp b _ q]; simp⟩⟩ (fun b u q => ?_) I.bare fun b z => by simp at z
  · obtain ⟨z1, z2⟩ := low b o q
    rw [off b z1 z2]
    exact n
  · by_cases hb : b ∈ as
    · obtain ⟨j, hj⟩ := List.mem_iff_getElem?.mp hb
      have e3 := atP j b hj
      have hjm : j < m := by
        rw [← hl]
        exact (List.getElem?_eq_some_iff.mp hj).1
      rw [e3] at q
      cases q
      exact ⟨by rw [List.length_map]; exact hz2, row ts j, kv j hjm, ⟨_, hG.tup j b hj, rfl, _, rfl⟩⟩
    · by_cases hb2 : b = S
      · rw [hb2] at q ⊢
        rw [eS] at q
        cases q
        refine ⟨by rw [List.length_map]; omega, acc.toList, c, by rw [hacc]; exact vals_refs as, ?_⟩
        rw [Array.toArray_toList]
        exact hS
      · rw [off b hb hb2] at q
        exact (I.hok b u q).stay (fun d v _ y => hk d v y) (fun d y => kp d _ y) fun d xs y => kp d _ y
end
def tListZip (K : PySem.W.Frag) (te : TE) : TE := fun σ H Q => te σ H fun x H1 => ∃ (p : Addr) (rs : List Addr) (rows : List (List V)) (m : Nat), x = V.ref p ∧ (SqT K H1 p (rs.map V.ref) ∨ SqL K H1 p (rs.map V.ref)) ∧ Paired (fun (r : Addr) (row : List V) => SqT K H1 r row ∧ row.length = m) rs rows ∧ ((rs = [] ∧ m = 0) ∨ (rs ≠ [] ∧ 0 < m)) ∧ m ≤ sizeLine ∧ rs.length ≤ sizeLine ∧
  ∀ (H' : Hp) (l : Addr) (as : List Addr), (∀ b o, H1 b = some o → H' b = some o) → H1 l = none → (∀ t ∈ as, H1 t = none) → l ∉ as → as.Nodup → H' l = some (.lst (as.map V.ref)) → as.length = m → (∀ (j : Nat) (a : Addr), as[j]? = some a → H' a = some (.tup (rows.map fun r => r.getD j .non))) → Q (.ref l) H'
section
variable {X : Cx} {e : Expr} {te : TE} {p p2 sp q pos : Pos}
theorem pe_listZip (hc : X.calm = true) (he : PE X e te) (hg : Gl X "list") (hm : X.mg "list" = none) (hv : bootBuiltins "list" = some (.type "list")) (hg2 : Gl X "zip") (hm2 : X.mg "zip" = none) (hv2 : bootBuiltins "zip" = some (.type "zip"))
    (hs : starEach [.Call (.Name "zip" p2) [.Starred e sp] [] q] X.env = (false, eval (.Call (.Name "zip" p2) [.Starred e sp] [] q) X.env) :: starEach [] X.env := by rfl) (hst : starEach [.Starred e sp] X.env = [(true, eval e X.env)] := by rfl) :
    PE X (.Call (.Name "list" p) [.Call (.Name "zip" p2) [.Starred e sp] [] q] [] pos) (tListZip X.K te) := by
  refine ⟨fun pins s σ H Q I h => ?_⟩
  refine wpAny_Call_Name_kw (ld_blt I hg hm hv ?_)
  refine PyProof.Rows.callWith_type1 ?_ hs rfl
  rw [hs]
  show wpAny _ _ (spliced ((false, eval (.Call (.Name "zip" p2) [.Starred e sp] [] q) X.env) :: backTo pos (starEach [] X.env))) _ _ s
  refine Calls.spliced_cons ?_
  refine wpAny_Call_Name_kw (ld_blt I hg2 hm2 hv2 ?_)
  rw [hst]
  refine PySem.W.ks_call (P := fun _ => True) rfl (fun _ _ => ⟨.machine, .inr (.inl rfl), PySem.W.Looks.of_pure rfl⟩) (PySem.W.ks_lone (thn (he.run pins s σ H _ I h) fun v s1 ⟨y, H1, I1, ry, a, rs, rows, m, ey, hx, hp, hmm, hz, hz2, qq⟩ => ?_))
  subst ey
  obtain rfl : v = Value.ref a := ry
  refine StX.star_any I1 hx fun us s2 I2 rv => ⟨trivial, ?_⟩
  rw [vals_refs_inv rv]
  obtain ⟨ts, t1, t2, t3, t4⟩ := mk_ts I2 m hp s2.heap.objs.size
  have tl : ts.length = rs.length := by rw [← List.length_map (f := (·.1)), t1, List.length_range']
  refine call_zip hz2 (fun l hl => ?_) fun h' hzz hTI hTO hits hsize hkeep => ?_
  · obtain ⟨j, hj⟩ := List.mem_iff_getElem?.mp hl
    have hjl : j < ts.length := by
      rw [tl]
      exact (List.getElem?_eq_some_iff.mp hj).1
    obtain ⟨_, b⟩ := t2 j _ (List.getElem?_eq_getElem hjl)
    rw [hj] at b
    cases b
    exact ⟨_, (t3 _ (List.getElem_mem hjl)).1⟩
  · refine Calls.spliced_nil ?_
    have refs : (ts.map fun t => Value.ref t.1) = rfs s2.heap.objs.size rs.length := by
      rw [rfs_range, ← t1, List.map_map]
      rfl
    have old : ∀ t ∈ ts, t.2.1 < s2.heap.objs.size := fun t ht => by
      obtain ⟨o, ho, _⟩ := (t3 t ht).1
      exact Heap.lt_size ho
    have hat : AtI h' ts 0 := fun t ht => by
      obtain ⟨j, hj⟩ := List.mem_iff_getElem?.mp ht
      obtain ⟨a1, a2⟩ := t2 j t hj
      have b := hits j _ a2
      rw [← a1] at b
      refine ⟨⟨_, b, rfl, rfl⟩, ?_⟩
      obtain ⟨o, ho, r⟩ := (t3 t ht).1
      exact ⟨o, hkeep _ _ ho, r⟩
    have st : ZSt h' (s2.heap.objs.size + rs.length + 2) (s2.heap.objs.size + rs.length) (s2.heap.objs.size + rs.length + 1) ts 0 := by
      refine ⟨by rw [IsArr, refs]; exact hTI, hat, .inl ⟨rfl, (fun e => Nat.ne_of_lt (Nat.lt_succ_self _) e), hzz, ⟨_, hTO, by rw [List.size_toArray, List.length_replicate, tl]⟩, fun t ht e => ?_⟩⟩
      have := old t ht
      rw [e] at this
      exact absurd this (by show ¬ ((s2.heap.objs.size + rs.length + 1 : Nat) < s2.heap.objs.size); omega)
    have hmm2 : (ts = [] ∧ m = 0) ∨ (ts ≠ [] ∧ 0 < m) := by
      rcases hmm with ⟨q1, q2⟩ | ⟨q1, q2⟩
      · left
        exact ⟨List.length_eq_zero_iff.mp (by rw [tl, q1]; rfl), q2⟩
      · right
        exact ⟨fun z => q1 (List.length_eq_zero_iff.mp (by rw [← tl, z]; rfl)), q2⟩
    refine call_list_zip (s := { s2 with heap := h' }) (S := s2.heap.objs.size + rs.length + 3) hsize (I2.ok.hd hc) hmm2 (fun t ht => (t3 t ht).2) hz (by rw [tl]; exact hz2) (by rw [t1]; exact List.nodup_range') st hzz ⟨_, hTO⟩ fun h'' acc c as hk hS hl hG hacc => ?_
    have hk2 : ∀ b o, s2.heap.get? b = some o → h''.get? b = some o := fun b o e => by
      have hb := Heap.lt_size e
      have hb' : (b : Nat) < s2.heap.objs.size := hb
      refine hk b o (fun z => ?_) (fun z => ?_) (fun z => ?_) (hkeep b o e)
      · exact off_nat _ _ _ 2 hb z
      · exact off_nat _ _ _ 1 hb z
      · rw [t1] at z
        exact Nat.not_lt.mpr (List.mem_range'_1.mp z).1 hb
    have rl : rows.length = rs.length := (Paired.length hp).symm
    obtain ⟨H', k1, k2, k3, k4, k5, k6, k7, J⟩ := cols_laid I2 (S := s2.heap.objs.size + rs.length + 3) (by show (s2.heap.objs.size : Nat) ≤ _; omega) hz (by rw [rl]; exact hz2) t4 hk2 hS hl hG hacc
    exact ⟨.ref _, H', J, rfl, qq H' _ as k1 k2 k3 k4 k5 k6 hl k7⟩
end
end ZN
set_option Elab.async false
set_option linter.all false
set_option maxRecDepth 100000
set_option maxHeartbeats 2000000
namespace R1
open PySem PySem.Spec PyProof.Rows L2
/-! ### sorted(xs) of pairs (tuple of ints, int) -/
theorem lex_app (c d : Int) : ∀ {ns ms : List Int}, ns.length = ms.length → HT.lexLt (ns ++ [c]) (ms ++ [d]) = if ns = ms then decide (c < d) else HT.lexLt ns ms
  | [], [], _ => by
    show (if c = d then HT.lexLt [] [] else decide (c < d)) = _
    rw [if_pos rfl]
    split
    · rename_i e
      rw [HT.lexLt_nil_nil]
      simp [e]
    · rfl
  | [], _ :: _, h => by cases h
  | _ :: _, [], h => by cases h
  | n :: ns, m :: ms, h => by
    show (if n = m then HT.lexLt (ns ++ [c]) (ms ++ [d]) else decide (n < m)) = _
    rw [lex_app c d (Nat.succ.inj h), HT.lexLt_cons]
    by_cases e : n = m
    · subst e
      by_cases e2 : ns = ms
      · subst e2
        simp
      · simp [e2]
    · simp [e]
/-- a pair of a tuple of ints and an int -/
def PairTI (h : Heap) (v : Value) (k : List Int × Int) : Prop := ∃ a b t, v = .ref a ∧ IsTup h a #[.ref b, .int k.2 t] ∧ TS.TupInts h (.ref b) k.1
theorem PairTI.keeps {h h' : Heap} {v : Value} {k : List Int × Int} (x : PairTI h v k) (kp : ∀ b o, h.get? b = some o → o.cls = .type "tuple" → h'.get? b = some o) : PairTI h' v k := by
  obtain ⟨a, b, t, e, ⟨o, ho, hc, n, hd⟩, y⟩ := x
  exact ⟨a, b, t, e, ⟨o, kp _ _ ho hc, hc, n, hd⟩, y.keeps fun b o e c => kp b o e c⟩
def lexP (p q : List Int × Int) : Bool := HT.lexLt (p.1 ++ [p.2]) (q.1 ++ [q.2])
section
variable {prog : Program} {w : World} {A : Around} {E : Value → Shared → Prop} {s : Shared}
theorem tkey {h : Heap} {b : Addr} {ns : List Int} (x : TS.TupInts h (.ref b) ns) : IsTupleKey (intKind prog w) h ns b := by
  obtain ⟨a, xs, e, ⟨o, ho, hc, n, hd⟩, i⟩ := x
  cases e
  refine ⟨o, xs, n, ho, hc, hd, ?_⟩
  generalize xs.toList = l at i
  clear hd
  induction i with
  | nil => exact .nil
  | cons n t _ ih => exact .cons (by show Value.isInt n (.int n t) = true; simp [Value.isInt]) ih
theorem pti_cmp {vs : List Value} {k : Value → List Int × Int} {m : Nat} (hu : A.units < cLine) (hp : ∀ v ∈ vs, PairTI s.heap v (k v) ∧ (k v).1.length = m) : SrtO.Cmp prog w A s (tuples' false) (fun p => p.1 ∈ vs) (SrtO.lt2 fun v u => lexP (k v) (k u)) := by
  intro p q hm hm'
  obtain ⟨⟨a, b, t, e1, ⟨o, ho, hc, n, hdt⟩, i⟩, l1⟩ := hp _ hm
  obtain ⟨⟨a', b', t', e2, ⟨o', ho', hc', n', hdt'⟩, i'⟩, l2⟩ := hp _ hm'
  show wpAny (model prog w) A (keyLt' (tuples' false) p.1 q.1) (fun r s' => s' = s ∧ r = lexP (k p.1) (k q.1)) (fun _ _ => False) s
  have ex : lexP (k p.1) (k q.1) = if (k p.1).1 = (k q.1).1 then decide ((k p.1).2 < (k q.1).2) else HT.lexLt (k p.1).1 (k q.1).1 := lex_app _ _ (by rw [l1, l2])
  rw [ex]
  generalize k p.1 = kp at *
  generalize k q.1 = kq at *
  rw [e1, e2]
  refine PySem.W.kat_lt ho hdt ho' hdt' ?_
  show PySem.W.KatLex prog w A false false _ [(Value.ref b, Value.ref b'), (Value.int kp.2 t, Value.int kq.2 t')] 0 s
  refine PySem.W.kat_cons (wpAny_eqBool_tuple (knd := intKind prog w) hu (tkey i) (tkey i') (PySem.W.kat_go (fun e => ?_) fun e => ?_))
  · have e : kp.1 = kq.1 := of_decide_eq_true e
    rw [if_pos e]
    refine PySem.W.kat_yes (PySem.W.kat_cons (SeqAt.EqAt.int_int _ _ _ _ prog w _ _ (PySem.W.kat_go (fun e2 => ?_) fun e2 => ?_)))
    · have : kp.2 = kq.2 := by simpa using e2
      refine PySem.W.kat_yes (PySem.W.kat_nil ⟨rfl, ?_⟩)
      simp [this]
    · exact PySem.W.kat_no (TS.oneLt_ints _ ⟨rfl, rfl⟩)
  · have e : ¬ kp.1 = kq.1 := of_decide_eq_false e
    rw [if_neg e]
    obtain ⟨c, xs, ec, hT, ii⟩ := i
    obtain ⟨c', xs', ec', hT', ii'⟩ := i'
    cases ec
    cases ec'
    exact PySem.W.kat_no (PySem.W.kat_one _ _ (HT.lt_tupInts (Q := PySem.W.BoolBack _) hT hT' ii ii' hu ⟨rfl, rfl⟩))
theorem pfirsts {h : Heap} : ∀ vs : List Value, (∀ v ∈ vs, ∃ k, PairTI h v k) → ∃ fs, PySem.W.KatTups h vs fs ∧ fs.length = vs.length ∧ ∀ f, f ∈ fs → ∃ b o, f = Value.ref b ∧ h.get? b = some o ∧ o.cls = .type "tuple"
  | [], _ => ⟨[], PySem.W.KatTups.nil, rfl, fun f hf => by simp at hf⟩
  | v :: vs, x => by
    obtain ⟨fs, k, hl, hi⟩ := pfirsts vs fun u hu => x u (List.mem_cons_of_mem _ hu)
    obtain ⟨kk, a, b, t, rfl, ⟨o, ho, hc, n, hdt⟩, ⟨b', xs, e, ⟨o', ho', hc', _⟩, _⟩⟩ := x v (List.mem_cons_self ..)
    cases e
    refine ⟨.ref b :: fs, PySem.W.KatTups.cons ho hc hdt (by simp) k, by simp [hl], ?_⟩
    intro f hf
    rcases List.mem_cons.mp hf with rfl | hf
    · exact ⟨b, o', rfl, ho', hc'⟩
    · exact hi f hf
theorem pti_sortable {a : Addr} {vs : List Value} {k : Value → List Int × Int} {m : Nat} (hu : A.units < cLine) (h0 : 0 < vs.length) (hp : ∀ v ∈ vs, PairTI s.heap v (k v) ∧ (k v).1.length = m) (ha : ∀ o, s.heap.get? a = some o → o.cls ≠ .type "tuple") : SrtO.SortableO prog w A s a vs fun v u => lexP (k v) (k u) := by
  intro h' keep
  have hp' : ∀ v ∈ vs, PairTI h' v (k v) ∧ (k v).1.length = m := fun v hm => ⟨(hp v hm).1.keeps fun b o e c => keep b o (fun z => by subst z; exact ha o e c) e, (hp v hm).2⟩
  obtain ⟨fs, h1, h2, h3⟩ := pfirsts vs fun v hm => ⟨_, (hp' v hm).1⟩
  refine ⟨tuples' false, fun Q E hq => ?_, pti_cmp hu hp'⟩
  refine PySem.W.kat_kind (T := .type "tuple") h1 (by omega) (fun f hm => ?_) (by rfl) ?_
  · obtain ⟨b, o, rfl, ho, hc⟩ := h3 f hm
    rw [← hc]
    exact (PySem.W.Looks.ld ho).andThen .now
  · have e : (Value.type "tuple" != Value.type "tuple") = false := by first | decide +kernel | rfl | decide
    rw [e]
    exact hq
end
/-- a term as it stands: the pair, its tuple of powers, these, the coefficient -/
structure Trm where
  t : Addr
  p : Addr
  ns : List Int
  c : Int
def Trm.v (r : Trm) : V := .ref r.t
def Trm.d (r : Trm) : List Int × Int := (r.ns, r.c)
def RowOk (H : Hp) (r : Trm) : Prop := H r.t = some (.tup [.ref r.p, .int r.c]) ∧ H r.p = some (.tup (r.ns.map V.int))
def RowsOk (H : Hp) (L : List Trm) : Prop := ∀ r ∈ L, RowOk H r
def KeepT (H H' : Hp) : Prop := ∀ b xs, H b = some (.tup xs) → H' b = some (.tup xs)
theorem RowsOk.keep {H H' : Hp} {L : List Trm} (h : RowsOk H L) (k : KeepT H H') : RowsOk H' L := fun r hr => ⟨k _ _ (h r hr).1, k _ _ (h r hr).2⟩
def keyOf (L : List Trm) (v : Value) : List Int × Int := match L.find? fun r => Value.ref r.t == v with
  | some r => r.d
  | none => ([], 0)
theorem keyOf_mem {H : Hp} {L : List Trm} (ho : RowsOk H L) {r : Trm} (hr : r ∈ L) : keyOf L (.ref r.t) = r.d := by
  unfold keyOf
  cases e : L.find? fun x => Value.ref x.t == Value.ref r.t with
  | none =>
    have := List.find?_eq_none.mp e r hr
    simp at this
  | some x =>
    have h1 := List.find?_some e
    have h2 := List.mem_of_find?_eq_some e
    have et : x.t = r.t := by
      have := eq_of_beq h1
      injection this
    obtain ⟨a1, a2⟩ := ho x h2
    obtain ⟨b1, b2⟩ := ho r hr
    rw [et, b1] at a1
    have e1 : r.p = x.p ∧ r.c = x.c := by
      have := Option.some.inj a1
      injection this with q
      injection q with q1 q2
      injection q1 with q1
      injection q2 with q2 _
      injection q2 with q2
      exact ⟨q1, q2⟩
    rw [← e1.1, b2] at a2
    have e2 : r.ns.map V.int = x.ns.map V.int := by
      have := Option.some.inj a2
      injection this
    have e3 : r.ns = x.ns := List.map_inj_right (fun a b h => by injection h) |>.mp e2
    simp [Trm.d, e3, e1.2]
def rSortedPT (K : PySem.W.Frag) : List V → Hp → VK → Prop := fun vs H Q => ∃ (a : Addr) (L : List Trm) (m : Nat), vs = [V.ref a] ∧ SqL K H a (L.map Trm.v) ∧ RowsOk H L ∧ (∀ r ∈ L, r.ns.length = m) ∧
  ∀ (L' : List Trm) (p : Addr), L'.Perm L → L'.Pairwise (fun x y => lexP y.d x.d = false) → H p = none → Q (.ref p) (upd H p (.lst (L'.map Trm.v)))
theorem hu2_of {A : Around} {k : Nat} (hr : Room k A) : A.units + 2 < cLine := Nat.lt_of_le_of_lt (Nat.add_le_add_left (by decide : 2 ≤ 64) _) hr.units
section
variable {X : Cx}
theorem rel_rows {H : Hp} : ∀ {L : List Trm} {us : List Value}, Vals (L.map Trm.v) us → us = L.map fun r => Value.ref r.t
  | [], _, .nil => rfl
  | r :: L, _, .cons h t => by
    cases h
    rw [rel_rows (H := H) t]
    rfl
theorem pti_raw {pins : List (Addr × Obj)} {σ : L2.St} {H : Hp} {s : Shared} (I : Inv X pins σ H s) {r : Trm} (h : RowOk H r) : PairTI s.heap (.ref r.t) r.d := by
  obtain ⟨h1, h2⟩ := h
  obtain ⟨its, rv, hT, _⟩ := I.tuple (.inl (.inl h1))
  cases rv with
  | cons r1 rr =>
    cases rr with
    | cons r2 rr =>
      cases rr
      cases r1
      obtain ⟨t, rfl⟩ := r2
      exact ⟨r.t, r.p, t, rfl, hT, tupI_raw I (.inl (.inl h2))⟩
theorem cr_sortedPT (hu : X.A.units + 2 < cLine) : CallR X (.builtin "sorted") (rSortedPT X.K) := by
  intro pins s σ H vs us Q I r h
  obtain ⟨a, L, m, rfl, hL, ho, hm, q⟩ := h
  obtain ⟨its, rv, hl, hz⟩ := I.list hL
  rw [Vals.ref1 r]
  have ei := rel_rows (H := H) rv
  subst ei
  have hz2 : L.length ≤ sizeLine := by simpa using hz
  refine SrtO.sorted_ord (ltv := fun v u => lexP (keyOf L v) (keyOf L u)) (swo_lexK (fun v => (keyOf L v).1 ++ [(keyOf L v).2])) hl.isList (by rw [List.length_map]; exact hz2) (fun h2 h₁ a' ha' kp => ?_) fun out hs hb => ?_
  · refine pti_sortable (m := m) (s := { s with heap := h₁ }) hu (by omega) (fun v hv => ?_) fun o e => ?_
    · obtain ⟨x, hx, rfl⟩ := List.mem_map.mp hv
      rw [keyOf_mem ho hx]
      exact ⟨(pti_raw I (ho x hx)).keeps fun b o e _ => (kp b o e).2, hm x hx⟩
    · have e' : some o = some (seqObj "list" (L.map fun r => Value.ref r.t).toArray 0) := e.symm.trans ha'
      cases e'
      intro c
      exact absurd (Value.type.inj c) (by decide)
  · obtain ⟨L', p1, e1⟩ := perm_lift (f := fun r : Trm => Value.ref r.t) hb.perm L rfl
    obtain ⟨ep, he'⟩ := PyProof.Rows.sortedAll_at s.heap (L.map fun r => Value.ref r.t) out.toArray
    have hlen : (L'.map Trm.v).length ≤ sizeLine := by rw [List.length_map, p1.length_eq]; exact hz2
    have hv : Vals (L'.map Trm.v) out := by
      rw [← e1]
      clear e1 p1 hlen he' ep
      induction L' with
      | nil => exact .nil
      | cons r L' ih => exact .cons rfl ih
    refine ⟨.ref _, upd H (s.heap.objs.size + 1) (.lst (L'.map Trm.v)), I.laid (t' := s.toks) (fun _ _ => PyProof.Rows.sortedAll_old) (Nat.le_succ _) ⟨hlen, out, ep, hv, he'⟩, rfl, q L' _ p1 ?_ (I.hok.fresh (Nat.le_succ _))⟩
    rw [← e1] at hs
    have hs2 := (List.pairwise_map (f := fun r : Trm => Value.ref r.t)).mp hs
    refine hs2.imp_of_mem fun {x y} hx hy h => ?_
    have h' : lexP (keyOf L (.ref y.t)) (keyOf L (.ref x.t)) = false := h
    rw [keyOf_mem ho (p1.mem_iff.mp hx), keyOf_mem ho (p1.mem_iff.mp hy)] at h'
    exact h'
end
end R1
set_option Elab.async false
set_option linter.all false
set_option maxRecDepth 100000
set_option maxHeartbeats 2000000
namespace R1
open PySem PySem.Spec PyProof.Rows L2
/-! ### min(t), t a tuple of ints -/
section
variable {prog : Program} {w : World} {A : Around} {E : Value → Shared → Prop} {s : Shared} {l : Addr} {xs : Array (Int × Tok)}
theorem iter_intTup {Q : Value → Shared → Prop} (hl : s.heap.IsTuple l (intItems xs))
    (h : ∀ s₂ : Shared, s₂ = { s with heap := s.heap.push { cls := .type "tuple_iterator", data := .fields #[.ref l, .int 0 0] } } →
      (s₂.heap.IsTupleIter s.heap.objs.size l 0 ∧ s₂.heap.IsTuple l (intItems xs)) → (∀ b ∈ [s.heap.objs.size, l], b < s₂.heap.objs.size) → l ≠ s.heap.objs.size → Q (.ref s.heap.objs.size) s₂) :
    wpAny (model prog w) A (pyIter (.ref l)) Q E s := by
  have hlt : l < s.heap.objs.size := by obtain ⟨_, e, _⟩ := hl; exact Heap.lt_size e
  refine wpAny_pyIter_tuple hl (h _ rfl ⟨⟨_, Heap.get?_push_size _ rfl, rfl, rfl⟩, hl.push _⟩ (fun b hb => ?_) (Nat.ne_of_lt hlt))
  show b < (s.heap.push _).objs.size
  rw [Heap.size_push]
  rcases List.mem_cons.mp hb with rfl | hb
  · exact Nat.lt_succ_self _
  · rcases List.mem_cons.mp hb with rfl | hb
    · exact Nat.lt_succ_of_lt hlt
    · cases hb
theorem old_keptT {h' : Heap} (hk : ∀ b o, b ∉ [s.heap.objs.size] → (s.heap.push { cls := .type "tuple_iterator", data := .fields #[.ref l, .int 0 0] }).get? b = some o → h'.get? b = some o) :
    ∀ b o, s.heap.get? b = some o → h'.get? b = some o := fun b o e => by
  refine hk b o (fun hm => ?_) (Heap.get?_push_of_some _ e)
  rcases List.mem_cons.mp hm with e1 | hm
  · exact absurd (e1 ▸ Heap.lt_size e) (Nat.lt_irrefl _)
  · cases hm
theorem min_intTup {Q : Value → Shared → Prop} (hh : A.handled = none) (hl : s.heap.IsTuple l (intItems xs)) (hne : 0 < xs.size)
    (h : ∀ v h' tk, (intItems xs)[argBest (fun i j => decide (numAt xs i < numAt xs j)) (xs.size - 1)]? = some v → (∀ b o, s.heap.get? b = some o → h'.get? b = some o) → Q v { s with heap := h', toks := tk }) :
    wpAny (model prog w) A (call (.builtin "min") [.ref l]) Q E s := by
  refine call_min_walk (iter_intTup hl fun s₂ e st hfp hlI => ?_)
  subst e
  refine ⟨_, _, _, _, _, _, _, rfl, Walks.tuple (A := A.in1) hh _ l hlI (intItems xs), st, hfp, by simpa [intItems] using hne, CmpOf.ints_lt (numAt xs) (fun _ _ => intItems_at), fun v h' tk hP hk => ?_⟩
  exact h v h' tk (by simpa [intItems] using hP) (old_keptT hk)
theorem min_rawT {its : List Value} {ns : List Int} {Q : Value → Shared → Prop} (hh : A.handled = none) (hl : s.heap.IsTuple l its.toArray) (hi : IntsAre its ns) (hne : 0 < ns.length)
    (h : ∀ h' tk M t', (∀ b o, s.heap.get? b = some o → h'.get? b = some o) → M ∈ ns → (∀ a, a ∈ ns → M ≤ a) → Q (.int M t') { s with heap := h', toks := tk }) : wpAny (model prog w) A (call (.builtin "min") [.ref l]) Q E s := by
  obtain ⟨xs, e⟩ := hi.allInts.items
  have hn : numsOf (intItems xs).toList = ns := by rw [← e]; exact hi.numsOf
  rw [nums_intItems] at hn
  subst hn
  rw [e] at hl
  have hsz : 0 < xs.size := by simpa using hne
  refine min_intTup hh hl hsz fun v h' tk hv hk => ?_
  obtain ⟨t, rfl⟩ := intItems_at hv
  obtain ⟨h1, h2⟩ := argBest_lt (numAt xs) (xs.size - 1)
  refine h h' tk _ t hk ?_ fun a ha => ?_
  · rw [numAt_eq]; exact PySem.getD_mem (by rw [List.length_map, Array.length_toList]; omega)
  · obtain ⟨j, hj, rfl⟩ := mem_getD ha
    rw [List.length_map, Array.length_toList] at hj
    rw [← numAt_eq]; exact h2 j (by omega)
end
def rMinT (K : PySem.W.Frag) : List V → Hp → VK → Prop := fun vs H Q => ∃ (a : Addr) (ns : List Int), vs = [V.ref a] ∧ SqT K H a (ns.map V.int) ∧ 0 < ns.length ∧ ∀ m, m ∈ ns → (∀ y, y ∈ ns → m ≤ y) → Q (.int m) H
theorem cr_minT {X : Cx} (hc : X.calm = true) : CallR X (.builtin "min") (rMinT X.K) := by
  intro pins s σ H vs us Q I r h
  obtain ⟨a, ns, rfl, hs, hne, q⟩ := h
  obtain ⟨its, rv, hl, _⟩ := I.tuple hs
  rw [Vals.ref1 r]
  exact min_rawT (I.ok.hd hc) hl rv.ints hne fun h' tk m t' hk h1 h2 => ⟨.int _, H, I.kept hk, ⟨_, rfl⟩, q m h1 h2⟩
/-! ### zip(t, l) -/
abbrev zH1 (h : Heap) (l1 : Addr) : Heap := h.push { cls := .type "tuple_iterator", data := .fields #[.ref l1, .int 0 0] }
abbrev zH2 (h : Heap) (l1 l2 : Addr) : Heap := (zH1 h l1).push { cls := .type "list_iterator", data := .fields #[.ref l2, .int 0 0] }
abbrev zH3 (h : Heap) (l1 l2 : Addr) : Heap := (zH2 h l1 l2).push { cls := .type "tuple", data := .seq #[.ref h.objs.size, .ref (zH1 h l1).objs.size] }
abbrev zH4 (h : Heap) (l1 l2 : Addr) : Heap := (zH3 h l1 l2).push { cls := .type "tuple", data := .seq #[.none, .none] }
abbrev zH5 (h : Heap) (l1 l2 : Addr) : Heap := (zH4 h l1 l2).push { cls := .type "zip", data := .fields #[.none, .bool false, .bool false, .ref (zH2 h l1 l2).objs.size, .ref (zH3 h l1 l2).objs.size] }
theorem meets_zipTL_new (l1 l2 : Addr) (xs ys : Array Value) :
    Meets (Builtin.«zip.__new__» ⟨[.type "zip", .ref l1, .ref l2], []⟩) (fun _ R s => s.heap.IsTuple l1 xs ∧ s.heap.IsList l2 ys ∧
      R (.ok (.ret (.ref (zH4 s.heap l1 l2).objs.size))) { s with heap := zH5 s.heap l1 l2 }) :=
  .of_wp fun prog w A R s h => by
    obtain ⟨hp, g, d, tk, os⟩ := s; obtain ⟨hl1, hl2, h⟩ := h
    have hsub := sub_zip
    have hL1 : Heap.IsTuple (Shared.heap ⟨hp, g, d, tk, os⟩) l1 xs := hl1
    have hL2 : Heap.IsList (Shared.heap ⟨hp.push { cls := .type "tuple_iterator", data := .fields #[.ref l1, .int 0 0] }, g, d, tk, os⟩) l2 ys := Heap.IsList.push hl2 _
    wp_walk using wpAny_pyIter_tuple hL1, wpAny_pyIter_list hL2
    exact ⟨_, rfl, h⟩
section
variable {prog : Program} {w : World} {A : Around} {E : Value → Shared → Prop} {s : Shared}
theorem call_zipTL {l1 l2 : Addr} {xs ys : Array Value} {Q : Value → Shared → Prop} (hl1 : s.heap.IsTuple l1 xs) (hl2 : s.heap.IsList l2 ys)
    (h : ∀ h', IsZip h' (s.heap.objs.size + 4) (s.heap.objs.size + 2) (s.heap.objs.size + 3) .none → IsPair h' (s.heap.objs.size + 2) (.ref s.heap.objs.size) (.ref (s.heap.objs.size + 1)) →
      IsPair h' (s.heap.objs.size + 3) .none .none → h'.IsTupleIter s.heap.objs.size l1 0 → h'.IsListIter (s.heap.objs.size + 1) l2 0 → h'.objs.size = s.heap.objs.size + 5 →
      (∀ c o, s.heap.get? c = some o → h'.get? c = some o) → Q (.ref (s.heap.objs.size + 4)) { s with heap := h' }) :
    wpAny (model prog w) A (call (.type "zip") [.ref l1, .ref l2]) Q E s := by
  refine callType_new F.called_zip (by decide) (F.typeCall_zip_2 _ _) (F.newCall_zip_2 _ _) (fun obj => F.args_object_init_3 obj _ _) F.entry_zip_new
    (meets_zipTL_new l1 l2 xs ys) ⟨hl1, hl2, ?_⟩
  have z1 : (zH1 s.heap l1).objs.size = s.heap.objs.size + 1 := Heap.size_push ..
  have z2 : (zH2 s.heap l1 l2).objs.size = s.heap.objs.size + 2 := by rw [Heap.size_push, z1]
  have z3 : (zH3 s.heap l1 l2).objs.size = s.heap.objs.size + 3 := by rw [Heap.size_push, z2]
  have z4 : (zH4 s.heap l1 l2).objs.size = s.heap.objs.size + 4 := by rw [Heap.size_push, z3]
  have z5 : (zH5 s.heap l1 l2).objs.size = s.heap.objs.size + 5 := by rw [Heap.size_push, z4]
  have g5 : (zH5 s.heap l1 l2).get? (zH4 s.heap l1 l2).objs.size = some _ := Heap.get?_push_size _ rfl
  have g4 : (zH5 s.heap l1 l2).get? (zH3 s.heap l1 l2).objs.size = some _ := Heap.get?_push_of_some _ (Heap.get?_push_size _ rfl)
  have g3 : (zH5 s.heap l1 l2).get? (zH2 s.heap l1 l2).objs.size = some _ := Heap.get?_push_of_some _ (Heap.get?_push_of_some _ (Heap.get?_push_size _ rfl))
  have g2 : (zH5 s.heap l1 l2).get? (zH1 s.heap l1).objs.size = some _ := Heap.get?_push_of_some _ (Heap.get?_push_of_some _ (Heap.get?_push_of_some _ (Heap.get?_push_size _ rfl)))
  have g1 : (zH5 s.heap l1 l2).get? s.heap.objs.size = some _ := Heap.get?_push_of_some _ (Heap.get?_push_of_some _ (Heap.get?_push_of_some _ (Heap.get?_push_of_some _ (Heap.get?_push_size _ rfl))))
  show _ ∧ _
  rw [z2, z3, z4] at g5
  rw [z1, z2] at g3
  rw [z3] at g4
  rw [z1] at g2
  rw [z4]
  exact ⟨⟨_, g5, rfl⟩, h _ g5 g3 g4 ⟨_, g1, rfl, rfl⟩ ⟨_, g2, rfl, rfl⟩ z5 fun c o x =>
    Heap.get?_push_of_some _ (Heap.get?_push_of_some _ (Heap.get?_push_of_some _ (Heap.get?_push_of_some _ (Heap.get?_push_of_some _ x))))⟩
end
/-- the tuple at a and the list at b, the items in new pairs -/
def ItzM (K : PySem.W.Frag) (a b : Addr) : It :=
  ⟨fun i H => ∃ (xs ys : List V) (x y : V), SqT K H a xs ∧ SqL K H b ys ∧ xs[i]? = some x ∧ ys[i]? = some y,
    fun i H v H' => ∃ T x y, v = .ref T ∧ H T = none ∧ H' = upd H T (.tup [x, y]) ∧ (∀ xs, SqT K H a xs → xs[i]? = some x) ∧ ∀ ys, SqL K H b ys → ys[i]? = some y,
    fun i H => ∃ xs ys : List V, SqT K H a xs ∧ SqL K H b ys ∧ xs.length = i ∧ ys.length = i⟩
theorem sep_of {h : Heap} {z TI TO i1 i2 a b : Addr} (D : ZipApart z TI TO i1 i2 a b) : ZipSep2 z TI TO i1 i2 [i1, a] [i2, b] where
  TIz := D.TIz
  TOz := D.TOz
  TITO := D.TITO
  TIi1 := D.TIi1
  mem1 := by simp
  zf1 := by simp [D.i1z.symm, D.l1z.symm]
  Tf1 := by simp [D.TOi1, D.l1TO.symm]
  TIi2 := D.TIi2
  mem2 := by simp
  zf2 := by simp [D.i2z.symm, D.l2z.symm]
  Tf2 := by simp [D.TOi2, D.l2TO.symm]
  sep1_2 := by simp [D.i12, D.l2i1.symm]
  sep2_1 := by simp [D.i12.symm, D.l1i2.symm]
theorem draws_tuple {prog : Program} {w : World} {A : Around} (hh : A.handled = none) (it l : Addr) (hne : l ≠ it) (items : Array Value) :
    Draws prog w A it [it, l] items.size (fun i v => items[i]? = some v) (fun i h => h.IsTupleIter it l i ∧ h.IsTuple l items) where
  live := fun _ _ st => let ⟨o, ho, _⟩ := st.1; ⟨o, ho⟩
  frame := fun _ _ _ st hk => ⟨st.1.at fun o e => hk it (by simp) o e, st.2.at fun o e => hk l (by simp) o e⟩
  item := fun i s Q E hi st hQ => by
    refine RZ.nextOf_tuple_item st.1 st.2 (x := items[i]) (by simp [hi]) fun h' hit' hs' => ?_
    exact hQ _ h' s.toks (by simp [hi]) ⟨hit', st.2.extBut hs'.extBut hne⟩ hs'
  done := fun s Q E st hE => RZ.nextOf_tuple_end hh st.1 st.2 (by simp) hE
theorem turn_zipM {P : Program} {w : World} {K : PySem.W.Frag} {elts : List Expr} {kk : Nat} {tpos : Pos} {a b z TI TO i1 i2 : Addr} (D : ZipApart z TI TO i1 i2 a b) :
    Turn P w K (.Tuple elts kk tpos) (ItzM K a b) [z, TI, TO, i1, i2] z (fun i h => IsZip h z TI TO .none ∧ IsPair h TI (.ref i1) (.ref i2) ∧ (∃ x y, IsPair h TO x y) ∧ h.IsTupleIter i1 a i ∧ h.IsListIter i2 b i) where
  mem := by simp
  obj := fun i h st c hc => by
    obtain ⟨hz, hTI, ⟨x, y, hTO⟩, ⟨o1, e1, _, d1⟩, ⟨o2, e2, _, d2⟩⟩ := st
    have e' : c = z ∨ c = TI ∨ c = TO ∨ c = i1 ∨ c = i2 := by simpa using hc
    rcases e' with q | q | q | q | q
    · rw [q]; exact ⟨_, hz, fun v q => nomatch q⟩
    · rw [q]; exact ⟨_, hTI, fun v q => nomatch q⟩
    · rw [q]; exact ⟨_, hTO, fun v q => nomatch q⟩
    · rw [q]; exact ⟨o1, e1, fun v q => by rw [d1] at q; cases q⟩
    · rw [q]; exact ⟨o2, e2, fun v q => by rw [d2] at q; cases q⟩
  keep := fun i h h' st k => by
    obtain ⟨hz, hTI, ⟨x, y, hTO⟩, h1, h2⟩ := st
    exact ⟨k z (by simp) _ hz, k TI (by simp) _ hTI, ⟨x, y, k TO (by simp) _ hTO⟩, h1.at fun o q => k i1 (by simp) o q, h2.at fun o q => k i2 (by simp) o q⟩
  item := by
    intro X hP hw hK hc i pins s σ H E I hf st hg
    subst hP hw hK
    obtain ⟨hz, hTI, ⟨x0, y0, hTO⟩, h1, h2⟩ := st
    obtain ⟨xs, ys, x, y, hqx, hqy, hx, hy⟩ := hg
    obtain ⟨its, rv, p, _⟩ := I.tuple hqx
    obtain ⟨its2, rv2, p2, _⟩ := I.list hqy
    obtain ⟨u, hu, ru⟩ := rv.get hx
    obtain ⟨u2, hu2, ru2⟩ := rv2.get hy
    have hzl : z < s.heap.objs.size := Heap.lt_size hz
    have lt1 : i < its.toArray.size := by
      rw [List.size_toArray]
      exact (List.getElem?_eq_some_iff.mp hu).1
    have lt2 : i < its2.toArray.size := by
      rw [List.size_toArray]
      exact (List.getElem?_eq_some_iff.mp hu2).1
    refine wpAny_pyNext_zipD2_item (sep_of (h := s.heap) D) (draws_tuple (A := X.A.in1) (I.ok.hd hc) i1 a D.l1i1 its.toArray) (Draws.list (A := X.A.in1) (I.ok.hd hc) i2 b D.l2i2 its2.toArray) hz hTI hTO ⟨h1, p⟩ ⟨h2, p2.isList⟩ lt1 lt2 fun w1 w2 h' tk e1 e2 z' TO' s1' s2' hT hsz hk => ?_
    have e1' : w1 = u := by
      have : its[i]? = some w1 := by simpa using e1
      rw [hu] at this
      exact (Option.some.inj this).symm
    have e2' : w2 = u2 := by
      have : its2[i]? = some w2 := by simpa using e2
      rw [hu2] at this
      exact (Option.some.inj this).symm
    subst e1' e2'
    refine ⟨_, rfl, wpAny_letOwnedTupleGo_zip (s := { s with heap := h', toks := tk }) z' fun h'' z'' sb => ?_⟩
    have hT2 : h''.get? s.heap.objs.size = some { cls := .type "tuple", data := .seq #[w1, w2] } := (sb.2 _ (Nat.ne_of_gt hzl)).trans hT
    have new : ObjOk X.prog X.w (upd H s.heap.objs.size (.tup [x, y])) h'' s.heap.objs.size (.tup [x, y]) :=
      ⟨by show 2 ≤ sizeLine; decide, [w1, w2], .cons ru (.cons ru2 .nil), ⟨_, hT2, rfl, _, rfl⟩⟩
    have I1 : Inv X pins σ (upd H s.heap.objs.size (.tup [x, y])) { s with heap := h'', toks := tk } :=
      I.turnedNew (t' := tk) (ch := [z, TI, TO, i1, i2]) (fun c o hb q => (sb.2 c (fun q' => hb (by simp [q']))).trans (hk c o (fun q' => hb (by simp [q'])) (fun q' => hb (by simp [q'])) (fun q' => hb (by simp [q'])) (fun q' => hb (by simp [q'])) q)) hf (Nat.le_refl _) new
    refine ⟨.ref s.heap.objs.size, _, I1, rfl, ⟨_, x, y, rfl, I.hok.fresh (Nat.le_refl _), rfl, fun l hl => by rw [I.tuple_inj hl hqx]; exact hx, fun l hl => by rw [I.list_inj hl hqy]; exact hy⟩, ⟨z'', ?_, ⟨w1, w2, ?_⟩, ?_, ?_⟩, fun c hcm => ?_⟩
    · exact (sb.2 _ D.TIz).trans (hk _ _ D.TIz D.TITO D.TIi1 D.TIi2 hTI)
    · exact (sb.2 _ D.TOz).trans TO'
    · exact s1'.1.at fun o q => (sb.2 _ D.i1z).trans q
    · exact s2'.1.at fun o q => (sb.2 _ D.i2z).trans q
    · have hlt : c < s.heap.objs.size := by
        have e' : c = z ∨ c = TI ∨ c = TO ∨ c = i1 ∨ c = i2 := by simpa using hcm
        rcases e' with q | q | q | q | q
        · rw [q]; exact hzl
        · rw [q]; exact Heap.lt_size hTI
        · rw [q]; exact Heap.lt_size hTO
        · rw [q]; obtain ⟨_, e1, _⟩ := h1; exact Heap.lt_size e1
        · rw [q]; obtain ⟨_, e2, _⟩ := h2; exact Heap.lt_size e2
      rw [upd_ne (Nat.ne_of_lt hlt)]
      exact (hf c hcm).1
  done := by
    intro X hP hw hK hc i pins s σ H E I hf st hg
    subst hP hw hK
    obtain ⟨hz, hTI, ⟨x0, y0, hTO⟩, h1, h2⟩ := st
    obtain ⟨xs, ys, hqx, hqy, he1, he2⟩ := hg
    obtain ⟨its, rv, p, _⟩ := I.tuple hqx
    obtain ⟨its2, rv2, p2, _⟩ := I.list hqy
    have l1 := rv.length
    have l2 := rv2.length
    refine wpAny_pyNext_zipD2_end (sep_of (h := s.heap) D) (draws_tuple (A := X.A.in1) (I.ok.hd hc) i1 a D.l1i1 its.toArray) (Draws.list (A := X.A.in1) (I.ok.hd hc) i2 b D.l2i2 its2.toArray) hz hTI hTO ⟨h1, p⟩ ⟨h2, p2.isList⟩ (by rw [List.size_toArray]; omega) (by rw [List.size_toArray]; omega) (.inl (by rw [List.size_toArray]; omega)) fun h' tk hk => ⟨rfl, I.turnedL (t' := tk) (ch := [z, TI, TO, i1, i2]) (fun c o hb q =>
      hk c o (fun q' => hb (by simp [q'])) (fun q' => hb (by simp [q'])) (fun q' => hb (by simp [q'])) (fun q' => hb (by simp [q'])) q) hf⟩
  self := fun A i s Q E st h => wpAny_pyIter_zip st.1 h
def iZipM (K : PySem.W.Frag) (ta : TA) : TI := fun σ H R => ta σ H fun vs H1 => ∃ a b xs ys, vs = [.ref a, .ref b] ∧ SqT K H1 a xs ∧ SqL K H1 b ys ∧ R (ItzM K a b) H1
theorem pi_zipM {X : Cx} {e e2 : Expr} {ta : TA} {p pos tpos : Pos} {elts : List Expr} {kk : Nat} (hg : Gl X "zip") (hm : X.mg "zip" = none) (ha : PA X [e, e2] ta)
    (hs : starEach [e, e2] X.env = (false, eval e X.env) :: starEach [e2] X.env := by rfl) (hpl : (backTo pos (starEach [e2] X.env)).any (·.1) = false := by rfl) :
    PI X (.Tuple elts kk tpos) (.Call (.Name "zip" p) [e, e2] [] pos) (iZipM X.K ta) := by
  refine ⟨fun pins s σ H R I h => ?_⟩
  refine Call_ (ld_blt I hg hm PyProof.Rows.boot_zip (PyProof.Rows.callWith_type1 (thn (ha.run pos pins s σ H _ I h) fun us s1 ⟨vs, H1, I1, r1, q1⟩ => ?_) hs hpl))
  obtain ⟨a, b, xs, ys, ex, hqx, hqy, q⟩ := q1
  subst ex
  cases r1 with
  | cons r rr =>
    cases rr with
    | cons r' rr =>
      cases rr
      cases r
      cases r'
      have fresh5 : ∀ c, c ∈ [s1.heap.objs.size + 4, s1.heap.objs.size + 2, s1.heap.objs.size + 3, s1.heap.objs.size, s1.heap.objs.size + 1] → FpOk X pins H1 c := fun c hcm => by
        have e' : c = s1.heap.objs.size + 4 ∨ c = s1.heap.objs.size + 2 ∨ c = s1.heap.objs.size + 3 ∨ c = s1.heap.objs.size ∨ c = s1.heap.objs.size + 1 := by simpa using hcm
        have hle : s1.heap.objs.size ≤ c := by
          rcases e' with z | z | z | z | z
          · rw [z]; exact Nat.le_add_right _ _
          · rw [z]; exact Nat.le_add_right _ _
          · rw [z]; exact Nat.le_add_right _ _
          · rw [z]; exact Nat.le_refl _
          · rw [z]; exact Nat.le_add_right _ _
        exact I1.fpOk hle (I1.hok.fresh hle)
      obtain ⟨its, rv, p1, _⟩ := I1.tuple hqx
      obtain ⟨its2, rv2, p2, _⟩ := I1.list hqy
      obtain ⟨o1, ho1, _⟩ := id p1
      refine call_zipTL (show s1.heap.IsTuple a its.toArray from p1) p2.isList fun h' hz hTI hTO h1 h2 hsz hk => wpAny_pyIter_zip hz ?_
      have I2 : Inv X pins σ H1 { s1 with heap := h' } := I1.kept (t' := s1.toks) hk
      exact ⟨s1.heap.objs.size + 4, [s1.heap.objs.size + 4, s1.heap.objs.size + 2, s1.heap.objs.size + 3, s1.heap.objs.size, s1.heap.objs.size + 1], _, _, H1, rfl, I2, turn_zipM (PySem.W.ktu_apart s1.heap.objs.size a b (Heap.lt_size ho1) p2.lt), ⟨hz, hTI, ⟨_, _, hTO⟩, h1, h2⟩, fresh5, q⟩
section
variable {K : PySem.W.Frag} {a b : Addr} {xs ys : List V}
theorem walk_zipM (hl : xs.length = ys.length) : Walk (ItzM K a b) xs.length (fun H => SqT K H a xs ∧ SqL K H b ys) (YPair (fun i => xs[i]?) (fun i => ys[i]?)) := by
  refine ⟨fun i _ hi q => ?_, fun _ q => ⟨xs, ys, q.1, q.2, rfl, hl.symm⟩, fun i H v H' _ q y => ?_⟩
  · have h2 : i < ys.length := by omega
    exact ⟨xs, ys, xs[i], ys[i], q.1, q.2, by simp [hi], by simp [h2]⟩
  · obtain ⟨T, x, z, h1, h2, h3, h4, h5⟩ := y
    exact ⟨T, x, z, h1, h2, h3, h4 xs q.1, h5 ys q.2⟩
theorem walk_zipT (hl : xs.length = ys.length) : Walk (RZ.ItzT K a b) xs.length (fun H => SqT K H a xs ∧ SqT K H b ys) (YPair (fun i => xs[i]?) (fun i => ys[i]?)) := by
  refine ⟨fun i _ hi q => ?_, fun _ q => ⟨xs, ys, q.1, q.2, .inl (Nat.le_refl _)⟩, fun i H v H' _ q y => ?_⟩
  · have h2 : i < ys.length := by omega
    exact ⟨xs, ys, xs[i], ys[i], q.1, q.2, by simp [hi], by simp [h2]⟩
  · obtain ⟨T, x, z, h1, h2, h3, h4, h5⟩ := y
    exact ⟨T, x, z, h1, h2, h3, h4 xs q.1, h5 ys q.2⟩
end
end R1
set_option Elab.async false
set_option linter.all false
set_option maxRecDepth 100000
namespace NH
open PySem PySem.Spec PyProof.Rows L2 R1
def okAt (m : Int) (L : List Trm) (k : Nat) : Prop := ∀ r, L[k]? = some r → (r.ns.length : Int) = m ∧ r.c ≠ 0 ∧ ∀ r', 0 < k → L[k - 1]? = some r' → HT.lexLt r'.ns r.ns = true
def Right (m : Int) (L : List Trm) : Prop := ∀ k, k < L.length → okAt m L k
abbrev nmIs : List Str := ["told", "many", "at", "powers", "coefficient"]
theorem scIs : FnScope nmIs ["told", "many"] (defScope sIs) := ⟨rfl, rfl, rfl, by decide +kernel, rfl, by decide +kernel, by decide +kernel⟩
theorem row_at {L : List Trm} {k : Nat} {r : Trm} (h : L[k]? = some r) : (L.map Trm.v)[k]? = some (V.ref r.t) := by
  rw [List.getElem?_map, h]
  rfl
/-! ### f(k = v, ..), nothing by position -/
section
variable {P : Program} {w : World} {K : PySem.W.Frag} {mg : Str → Option Value} {base : Heap}
/-! ### is_sum -/
def spIs (K : PySem.W.Frag) : Sp := fun vs H Q _ => ∃ (t : Addr) (m : Int) (L : List Trm), vs = [.ref t, .int m] ∧ SqT K H t (L.map Trm.v) ∧ RowsOk H L ∧ L.length ≤ 1000 ∧ ∀ (b : Bool) H', Same H H' → (b = true ↔ Right m L) → Q (.bl b) H'
theorem same_keepT {H H' : Hp} (s : Same H H') : KeepT H H' := fun b xs e => s b _ e
theorem ok_is {f : Addr} {fd : FuncData} {k : Nat} (F : Fun K "is_sum" "is_sum" sIs f fd) (mn : mg "enumerate" = none) (me : mg "len" = none) : FnOk P w K mg base CX0 (k + 1) f fd ["told", "many"] (spIs K) := by
  refine F.ok scIs (fun vs H Q E h => ?_) (fun cdv A outer s H vs Q E hr h => ?_)
  · obtain ⟨l, m, L, rfl, _⟩ := h
    rfl
  · obtain ⟨t, m, L, rfl, hl, ho, hL, q⟩ := h
    have hu := hu_of hr
    refine ⟨_, pss_cons (ps_for PassesOwn.never rfl (pi_enumT (by rfl) mn (pa_cons (pv 0) pa_nil)) (pg_tup rfl (pgs_cons (pg_name (i := 2) scIs.nd rfl (.inl rfl)) (pgs_cons (pg_tup rfl (pgs_cons (pg_name (i := 3) scIs.nd rfl (.inl rfl)) (pgs_cons (pg_name (i := 4) scIs.nd rfl (.inl rfl)) pgs_nil))) pgs_nil)))
        (Evl.pss_cut (ps_if (PW.pt (pw_or (pt_cmpR op_ne (pe_callB call_len_seq (by rfl) me PySem.boot_len (pa_cons (pv 3) pa_nil)) (pv 1) (nomark _)) (pw_or1 (pt_cmpR op_eq (pv 4) pe_int (nomark _)))))
          (pss_one (ps_ret pe_bl)) pss_nil)
        (pss_one (ps_if (PW.pt (pw_and (pt_truth (pv 2) (by intro _; rfl)) (pw_and1 (pt_cmpR (op_geT (Nat.lt_of_succ_lt hu)) (pe_ix ix_tup (pe_ix ix_tup (pv 0) (pe_op op_sub (pv 2) pe_int) (fun _ _ => rfl)) pe_int (fun _ _ => rfl)) (pv 3) (nomark _)))))
          (pss_one (ps_ret pe_bl)) pss_nil))))
      (pss_one (ps_ret pe_bl)), ?_⟩
    refine ⟨.ref t, rfl, t, _, rfl, hl, for_it (walk_enumT (K := K) (a := t) (xs := L.map Trm.v)) (fun i σ H' => ∃ y2 y3 y4, σ = [some (.ref t), some (.int m), y2, y3, y4] ∧ Same H H' ∧ ∀ k, k < i → okAt m L k)
      ⟨none, none, none, rfl, Same.refl _, fun k h => by omega⟩ (fun i σ H' _ h => ?_) (fun i x σ H0 H' hi h hy => ?_) (fun σ H' h => ?_)⟩
    · obtain ⟨y2, y3, y4, rfl, sm, _⟩ := h
      exact sqt_same sm hl
    · obtain ⟨y2, y3, y4, rfl, sm0, hk⟩ := h
      obtain ⟨T, z1, z2, rfl, nT, rfl, e1, e2⟩ := hy
      cases e1
      rw [List.length_map] at hi
      obtain ⟨r, hr1⟩ : ∃ r, L[i]? = some r := ⟨L[i], List.getElem?_eq_getElem hi⟩
      cases (row_at hr1).symm.trans e2
      have sm : Same H (upd H0 T (.tup [.int (i : Nat), .ref r.t])) := sm0.trans (same_new nT)
      obtain ⟨o1, o2⟩ := (ho.keep (same_keepT sm)) r (List.mem_of_getElem? hr1)
      have hl' := sqt_same sm hl
      have bad : ¬ okAt m L i → Q (.bl false) (upd H0 T (.tup [.int (i : Nat), .ref r.t])) := fun hb => q false _ sm ⟨(fun h => by cases h), fun h => absurd (h i hi) hb⟩
      refine ⟨T, _, rfl, .inl (.inl upd_same), rfl, _, _, rfl, _, _, rfl, r.t, _, rfl, .inl (.inl o1), rfl, _, _, rfl, _, _, rfl, rfl, rfl, ?_⟩
      refine ⟨fun σ' H'' => σ' = [some (.ref t), some (.int m), some (.int (i : Nat)), some (.ref r.p), some (.int r.c)] ∧ H'' = upd H0 T (.tup [.int (i : Nat), .ref r.t]) ∧ (r.ns.length : Int) = m ∧ r.c ≠ 0, ?_, ?_⟩
      · refine ⟨.ref r.p, rfl, r.p, _, rfl, .inr (.inl (.inl o2)), .int m, rfl, rfl, _, rfl, ?_⟩
        rw [List.length_map]
        by_cases hm : (r.ns.length : Int) = m
        · refine ite2 (fun e => ?_) (fun _ => ?_)
          · exact absurd e (by simp [hm])
          · refine ⟨.int r.c, rfl, rfl, _, rfl, ?_⟩
            by_cases hc : r.c = 0
            · refine ite2 (fun _ => ?_) (fun e => absurd (decide_eq_true (by rw [hc])) e)
              exact bad fun h => (h r hr1).2.1 hc
            · refine ite2 (fun e => absurd (V.int.inj (of_decide_eq_true e)) hc) (fun _ => ?_)
              exact ⟨rfl, rfl, hm, hc⟩
        · refine ite2 (fun _ => ?_) (fun e => ?_)
          · exact bad fun h => hm (h r hr1).1
          · exact absurd (by simp [hm]) e
      · rintro σ' H'' ⟨rfl, rfl, hm, hc⟩
        refine ⟨.int (i : Nat), rfl, _, rfl, ite2 (fun e => ?_) (fun e => iteF ?_)⟩
        · have hi0 : 0 < i := by
            have : (i : Int) ≠ 0 := by simpa using e
            omega
          obtain ⟨r', hr2⟩ : ∃ r', L[i - 1]? = some r' := ⟨L[i - 1], List.getElem?_eq_getElem (by omega)⟩
          obtain ⟨p1, p2⟩ := (ho.keep (same_keepT sm)) r' (List.mem_of_getElem? hr2)
          have ei2 : (i : Int) - 1 = ((i - 1 : Nat) : Int) := by omega
          refine ⟨.ref t, rfl, .int (i : Nat), rfl, i, 1, rfl, rfl, t, _, _, .ref r'.t, rfl, rfl, hl', (by rw [ei2]; exact atI_nat (row_at hr2)), r'.t, _, 0, .ref r'.p, rfl, rfl, .inl (.inl p1), atI_nat (j := 0) rfl,
            .ref r.p, rfl, r'.p, r.p, r'.ns, r.ns, rfl, rfl, .inl (.inl p2), .inl (.inl o2), _, rfl, ?_⟩
          cases hlt : HT.lexLt r'.ns r.ns with
          | true =>
            refine iteF ⟨_, _, _, rfl, sm, fun k hk2 => ?_⟩
            rcases Nat.lt_succ_iff_lt_or_eq.mp hk2 with h | rfl
            · exact hk k h
            · intro r2 e2
              cases hr1.symm.trans e2
              exact ⟨hm, hc, fun r3 _ e3 => by cases hr2.symm.trans e3; exact hlt⟩
          | false =>
            refine iteT ?_
            refine bad fun h => ?_
            have := (h r hr1).2.2 r' hi0 hr2
            rw [hlt] at this
            cases this
        · have hi0 : i = 0 := by
            by_cases h : i = 0
            · exact h
            · exact absurd (by simpa using h) e
          refine ⟨_, _, _, rfl, sm, fun k hk2 => ?_⟩
          rcases Nat.lt_succ_iff_lt_or_eq.mp hk2 with h | rfl
          · exact hk k h
          · intro r2 e2
            cases hr1.symm.trans e2
            exact ⟨hm, hc, fun r3 h3 _ => by omega⟩
    · obtain ⟨y2, y3, y4, rfl, sm, hk⟩ := h
      rw [List.length_map] at hk
      exact q true _ sm ⟨fun _ => hk, fun _ => rfl⟩

/-! ### sums as data -/
/-- what is a sum of m letters -/
def Good (m : Nat) (D : List (List Int × Int)) : Prop := (∀ q ∈ D, q.1.length = m ∧ q.2 ≠ 0) ∧ D.Pairwise fun x y => HT.lexLt x.1 y.1 = true
theorem good_right {m : Nat} {L : List Trm} (h : Good m (L.map Trm.d)) : Right m L := fun k hk r hr => by
  obtain ⟨h1, h2⟩ := h
  obtain ⟨a1, a2⟩ := h1 r.d (List.mem_map_of_mem (List.mem_of_getElem? hr))
  refine ⟨by show ((r.d.1.length : Nat) : Int) = m; rw [a1], a2, fun r' h0 hr' => ?_⟩
  rw [List.pairwise_map] at h2
  obtain ⟨i1, e1⟩ := List.getElem?_eq_some_iff.mp hr
  obtain ⟨i2, e2⟩ := List.getElem?_eq_some_iff.mp hr'
  have := List.pairwise_iff_getElem.mp h2 (k - 1) k i2 i1 (by omega)
  rw [e1, e2] at this
  exact this
/-- a sum at an address -/
structure SumAt (H : Hp) (t : Addr) (L : List Trm) : Prop where
  at_ : H t = some (.tup (L.map Trm.v))
  rows : RowsOk H L
theorem SumAt.same {H H' : Hp} {t : Addr} {L : List Trm} (h : SumAt H t L) (s : Same H H') : SumAt H' t L := ⟨s _ _ h.at_, h.rows.keep (same_keepT s)⟩
theorem SumAt.sq {K : PySem.W.Frag} {H : Hp} {t : Addr} {L : List Trm} (h : SumAt H t L) : SqT K H t (L.map Trm.v) := .inl (.inl h.at_)
/-! ### check_sum -/
def spCheck : Sp := fun vs H Q _ => ∃ (t : Addr) (m : Int) (L : List Trm), vs = [.ref t, .int m] ∧ SumAt H t L ∧ L.length ≤ 1000 ∧ Right m L ∧ ∀ H', Same H H' → Q .non H'
abbrev nmCheck : List Str := ["told", "many"]
theorem scCheck : FnScope nmCheck ["told", "many"] (defScope sCheck) := ⟨rfl, rfl, rfl, by decide +kernel, rfl, by decide +kernel, by decide +kernel⟩
theorem ok_check {f fI : Addr} {fd fdI : FuncData} {k : Nat} (F : Fun K "check_sum" "check_sum" sCheck f fd) (FI : Fun K "is_sum" "is_sum" sIs fI fdI) (bI : Binds K fdI ["told", "many"] []) (gI : mg "is_sum" = some (.ref fI)) (mn : mg "enumerate" = none) (me : mg "len" = none) : FnOk P w K mg base CX0 (k + 2) f fd ["told", "many"] spCheck := by
  have GI : FnOk P w K mg base CX0 (k + 1) fI fdI ["told", "many"] (spIs K) := ok_is FI mn me
  refine F.ok scCheck (fun vs H Q E h => ?_) (fun cdv A outer s H vs Q E hr h => ?_)
  · obtain ⟨l, m, L, rfl, _⟩ := h
    rfl
  · obtain ⟨t, m, L, rfl, hS, hL, hR, q⟩ := h
    refine ⟨_, pss_one (ps_if (pt_not (pt_val (pe_call GI hr (by rfl) gI FI.kp bI .nil pass0 (pa_cons (pv 0) (pa_cons (pv 1) pa_nil))))) pss_never pss_nil), ?_⟩
    refine ⟨.ref t, rfl, .int m, rfl, t, m, L, rfl, hS.sq, hS.rows, hL, fun b H' s' hb => ?_⟩
    have : b = true := hb.mpr hR
    subst this
    exact ⟨true, rfl, iteF (q _ s')⟩
/-! ### letters_of -/
def spLettersOf (K : PySem.W.Frag) : Sp := fun vs H Q _ => ∃ (l t : Addr) (m : Nat) (L : List Trm), vs = [.ref l] ∧ SqL K H l [.ref t] ∧ SumAt H t L ∧ L.length ≤ 1000 ∧ 0 < m ∧ Good m (L.map Trm.d) ∧ ∀ H', Same H H' → Q (.int (if L.isEmpty then 0 else (m : Int))) H'
abbrev nmLettersOf : List Str := ["sums", "many", "told"]
theorem scLettersOf : FnScope nmLettersOf ["sums"] (defScope sLettersOf) := ⟨rfl, rfl, rfl, by decide +kernel, rfl, by decide +kernel, by decide +kernel⟩
theorem ok_lettersOf {f fC fI : Addr} {fd fdC fdI : FuncData} {k : Nat} (F : Fun K "letters_of" "letters_of" sLettersOf f fd) (FC : Fun K "check_sum" "check_sum" sCheck fC fdC) (bC : Binds K fdC ["told", "many"] []) (gC : mg "check_sum" = some (.ref fC))
    (FI : Fun K "is_sum" "is_sum" sIs fI fdI) (bI : Binds K fdI ["told", "many"] []) (gI : mg "is_sum" = some (.ref fI)) (mn : mg "enumerate" = none) (me : mg "len" = none) : FnOk P w K mg base CX0 (k + 3) f fd ["sums"] (spLettersOf K) := by
  have GC : FnOk P w K mg base CX0 (k + 2) fC fdC ["told", "many"] spCheck := ok_check FC FI bI gI mn me
  refine F.ok scLettersOf (fun vs H Q E h => ?_) (fun cdv A outer s H vs Q E hr h => ?_)
  · obtain ⟨l, t, m, L, rfl, _⟩ := h
    rfl
  · obtain ⟨l, t, m, L, rfl, hl, hS, hL, hm, hG, q⟩ := h
    refine ⟨_, pss_cons (ps_set (i := 1) scLettersOf.nd rfl (.inl rfl) pe_int)
      (pss_cons (ps_for PassesOwn.never rfl (pi_list (pv 0)) (pg_name (i := 2) scLettersOf.nd rfl (.inl rfl))
        (Evl.pss_cut (ps_if (PW.pt (pw_and (pt_truth (pv 2) (by intro _; rfl)) (pw_and1 (pt_not (pt_truth (pv 1) (by intro _; rfl))))))
          (pss_cons (ps_set (i := 1) scLettersOf.nd rfl (.inl rfl) (pe_callB call_len_seq (by rfl) me PySem.boot_len (pa_cons (pe_ix ix_tup (pe_ix ix_tup (pv 2) pe_int (fun _ _ => rfl)) pe_int (fun _ _ => rfl)) pa_nil)))
          (pss_one (ps_if (pt_not (pt_truth (pv 1) (by intro _; rfl))) pss_never pss_nil))) pss_nil)
        (pss_one (ps_expr (pe_call GC hr (by rfl) gC FC.kp bC .nil pass0 (pa_cons (pv 2) (pa_cons (pv 1) pa_nil)))))))
      (pss_one (ps_ret (pv 1)))), ?_⟩
    refine ⟨.ref l, rfl, l, rfl, ⟨_, hl⟩, for_list (xs := [V.ref t]) (fun i σ H' => ∃ y2, σ = [some (.ref l), some (.int (if i = 0 then 0 else if L.isEmpty then 0 else (m : Int))), y2] ∧ Same H H') ⟨none, rfl, Same.refl _⟩ (fun i σ H' _ h => ?_) (fun i x σ H' hx h => ?_) (fun σ H' h => ?_)⟩
    · obtain ⟨y2, rfl, sm⟩ := h
      exact sm.seq hl
    · obtain ⟨y2, rfl, sm⟩ := h
      have hi : i = 0 := by
        have := (List.getElem?_eq_some_iff.mp hx).1
        simp at this
        exact this
      subst hi
      cases (Option.some.inj hx : V.ref t = x)
      have hS' := hS.same sm
      refine ⟨fun σ' H'' => σ' = [some (.ref l), some (.int (if L.isEmpty then 0 else (m : Int))), some (.ref t)] ∧ H'' = H', ?_, ?_⟩
      · refine ⟨.ref t, rfl, !(L.map Trm.v).isEmpty, .inr (.inl ⟨_, hS'.sq, rfl⟩), ?_⟩
        cases L with
        | nil => exact iteF ⟨rfl, rfl⟩
        | cons r L =>
          refine iteT ⟨.int 0, rfl, false, rfl, ?_⟩
          obtain ⟨o1, o2⟩ := hS'.rows r List.mem_cons_self
          have hlen : r.ns.length = m := (hG.1 r.d List.mem_cons_self).1
          refine iteT ⟨.ref t, rfl, t, _, 0, .ref r.t, rfl, rfl, hS'.sq, atI_nat (j := 0) rfl, r.t, _, 0, .ref r.p, rfl, rfl, .inl (.inl o1), atI_nat (j := 0) rfl, r.p, _, rfl, .inr (.inl (.inl o2)), ?_⟩
          refine ⟨_, rfl, true, ?_, iteF ⟨?_, rfl⟩⟩
          · show true = (((r.ns.map V.int).length : Int) != 0)
            rw [List.length_map, hlen]
            simp
            omega
          · rw [List.length_map, hlen]
            rfl
      · rintro σ' H'' ⟨rfl, rfl⟩
        refine ⟨.ref t, rfl, _, rfl, t, _, L, rfl, hS', hL, ?_, fun H2 s2 => ⟨_, rfl, sm.trans s2⟩⟩
        cases L with
        | nil => exact fun k hk => absurd hk (Nat.not_lt_zero _)
        | cons r L => exact good_right hG
    · obtain ⟨y2, rfl, sm⟩ := h
      exact ⟨_, rfl, q _ sm⟩
end
end NH
set_option Elab.async false
set_option linter.all false
set_option maxRecDepth 100000
namespace NH
open PySem PySem.Spec PyProof.Rows L2 R1 ZN
/-- how many letters stand in a sum: 0 in the sum 0 -/
def cnt (m : Nat) (L : List Trm) : Nat := if L.isEmpty then 0 else m
/-- the j-th powers of the terms -/
def col (D : List (List Int × Int)) (j : Nat) : List Int := D.map fun q => q.1.getD j 0
section
variable {P : Program} {w : World} {K : PySem.W.Frag} {mg : Str → Option Value} {base : Heap}
/-! ### lines_of -/
def spLines : Sp := fun vs H Q _ => ∃ (t : Addr) (m : Nat) (L : List Trm), vs = [.ref t] ∧ SumAt H t L ∧ L.length ≤ 1000 ∧ 0 < m ∧ m ≤ 1000 ∧ (∀ r ∈ L, r.ns.length = m) ∧
  ∀ H' (l : Addr) (as : List Addr), Same H H' → H' l = some (.lst (as.map V.ref)) → as.length = cnt m L → (∀ (j : Nat) (a : Addr), as[j]? = some a → H' a = some (.tup ((col (L.map Trm.d) j).map V.int))) → Q (.ref l) H'
abbrev nmLines : List Str := ["told", "rows", "powers", "_"]
theorem scLines : FnScope nmLines ["told"] (defScope sLines) := ⟨rfl, rfl, rfl, by decide +kernel, rfl, by decide +kernel, by decide +kernel⟩
theorem paired_rows {H : Hp} {m : Nat} : ∀ {L : List Trm}, RowsOk H L → (∀ r ∈ L, r.ns.length = m) → Paired (fun (r : Addr) (row : List V) => SqT K H r row ∧ row.length = m) (L.map Trm.p) (L.map fun r => r.ns.map V.int)
  | [], _, _ => .nil
  | r :: L, ho, hm => .cons ⟨.inl (.inl (ho r List.mem_cons_self).2), by rw [List.length_map]; exact hm r List.mem_cons_self⟩ (paired_rows (fun x hx => ho x (List.mem_cons_of_mem _ hx)) fun x hx => hm x (List.mem_cons_of_mem _ hx))
theorem ok_lines {f : Addr} {fd : FuncData} {k : Nat} (F : Fun K "lines_of" "lines_of" sLines f fd) (ml : mg "list" = none) (mz : mg "zip" = none) : FnOk P w K mg base CX0 (k + 1) f fd ["told"] spLines := by
  refine F.ok scLines (fun vs H Q E h => ?_) (fun cdv A outer s H vs Q E hr h => ?_)
  · obtain ⟨t, m, L, rfl, _⟩ := h
    rfl
  · obtain ⟨t, m, L, rfl, hS, hL, hm0, hm1, hm, q⟩ := h
    refine ⟨_, pss_cons (ps_setLc (i := 1) (own := [("powers", 2), ("_", 3)]) (g := gTup K 2 (gCons (gName 2) (gCons (gName 3) gNil))) (by rfl) scLines.nd rfl rfl (sw_true rfl rfl rfl (by decide +kernel)) (pi_tup (pv 0)) (blkOk_by (own := [("powers", 2), ("_", 3)]) (N := nmLines) (sc := defScope sLines) (by decide +kernel))
          (fun _ _ _ _ _ => pg_tup rfl (pgs_cons (pg_name (i := 2) scLines.nd rfl (.inl rfl)) (pgs_cons (pg_name (i := 3) scLines.nd rfl (.inl rfl)) pgs_nil))) (fun _ _ _ _ _ => pts_nil) (fun _ _ _ _ _ => pv 2))
      (pss_one (ps_ret (pe_listZip (by rfl) (pv 1) (by rfl) ml (by decide +kernel) (by rfl) mz (by decide +kernel)))), ?_⟩
    refine ⟨.ref t, rfl, t, rfl, ⟨_, hS.sq⟩, fun D nD => ?_⟩
    refine lc_tup (xs := L.map Trm.v) (fun j H' => H' D = some (.lst ((L.take j).map fun r => V.ref r.p)) ∧ ∀ b o, b ≠ D → H b = some o → H' b = some o) ⟨upd_same, fun b o hb e => by rw [upd_ne hb]; exact e⟩ (fun i H' _ h => ?_) (fun i x H' hx h => ?_) (fun H' h => ?_)
    · exact .inl (.inl (h.2 t _ (ne_of_none hS.at_ nD) hS.at_))
    · obtain ⟨hD, kp⟩ := h
      rw [List.getElem?_map] at hx
      obtain ⟨r, hr1, rfl⟩ := Option.map_eq_some_iff.mp hx
      obtain ⟨o1, o2⟩ := hS.rows r (List.mem_of_getElem? hr1)
      have hlt := (List.getElem?_eq_some_iff.mp hr1).1
      refine ⟨r.t, _, rfl, .inl (.inl (kp _ _ (ne_of_none o1 nD) o1)), rfl, _, _, rfl, _, _, rfl, rfl, rfl, .ref r.p, rfl, _, hD, ?_, ?_, fun b o hb e => ?_⟩
      · rw [List.length_map, List.length_take, sizeLine_eq]
        omega
      · rw [upd_same, List.take_add_one, hr1, List.map_append]
        rfl
      · rw [upd_ne hb]
        exact kp b o hb e
    · obtain ⟨hD, kp⟩ := h
      rw [List.length_map, List.take_length] at hD
      have sm : Same H H' := fun b o e => kp b o (ne_of_none e nD) e
      refine ⟨.ref D, rfl, D, L.map Trm.p, _, cnt m L, rfl, .inr (.inl (.inl (by rw [hD, List.map_map]; rfl))), paired_rows (m := cnt m L) (hS.rows.keep (same_keepT sm)) (fun r hr => ?_), ?_, ?_, ?_, fun H2 l as k1 k2 k3 k4 k5 k6 k7 k8 => ?_⟩
      · rw [hm r hr]
        unfold cnt
        cases L with
        | nil => cases hr
        | cons _ _ => rfl
      · unfold cnt
        cases L with
        | nil => exact .inl ⟨rfl, rfl⟩
        | cons _ _ => exact .inr ⟨by simp, hm0⟩
      · unfold cnt
        split
        · exact Nat.zero_le _
        · exact small1k hm1
      · rw [List.length_map]
        exact small1k hL
      · refine q H2 l as (fun b o e => k1 b o (sm b o e)) k6 k7 fun j a ha => ?_
        rw [k8 j a ha]
        congr 2
        rw [List.map_map, col, List.map_map, List.map_map]
        refine List.map_congr_left fun r hr => ?_
        have hj : j < r.ns.length := by
          have h1 := (List.getElem?_eq_some_iff.mp ha).1
          rw [k7] at h1
          rw [hm r hr]
          unfold cnt at h1
          split at h1 <;> omega
        show (r.ns.map V.int).getD j .non = V.int (r.ns.getD j 0)
        rw [List.getD_eq_getElem?_getD, List.getD_eq_getElem?_getD, List.getElem?_map, List.getElem?_eq_getElem hj]
        rfl
/-! ### least_of -/
def IsLeast (D : List (List Int × Int)) (n : Nat) (ms : List Int) : Prop := ms.length = n ∧ ∀ j, j < n → ∃ v, ms[j]? = some v ∧ v ∈ col D j ∧ ∀ y ∈ col D j, v ≤ y
theorem IsLeast.unique {D : List (List Int × Int)} {n : Nat} {ms ns : List Int} (x : IsLeast D n ms) (y : IsLeast D n ns) : ms = ns := by
  obtain ⟨l1, h1⟩ := x
  obtain ⟨l2, h2⟩ := y
  apply List.ext_getElem?
  intro j
  by_cases hj : j < n
  · obtain ⟨v, e1, m1, b1⟩ := h1 j hj
    obtain ⟨u, e2, m2, b2⟩ := h2 j hj
    have := b1 u m2
    have := b2 v m1
    rw [e1, e2]
    congr 1
    omega
  · rw [List.getElem?_eq_none (by omega), List.getElem?_eq_none (by omega)]
def spLeast : Sp := fun vs H Q _ => ∃ (t : Addr) (m : Nat) (L : List Trm), vs = [.ref t] ∧ SumAt H t L ∧ L.length ≤ 1000 ∧ 0 < m ∧ m ≤ 1000 ∧ (∀ r ∈ L, r.ns.length = m) ∧
  ∀ H' (p : Addr) (ms : List Int), Same H H' → H p = none → H' p = some (.tup (ms.map V.int)) → IsLeast (L.map Trm.d) (cnt m L) ms → Q (.ref p) H'
abbrev nmLeast : List Str := ["told", "line"]
theorem scLeast : FnScope nmLeast ["told"] (defScope sLeast) := ⟨rfl, rfl, rfl, by decide +kernel, rfl, by decide +kernel, by decide +kernel⟩
theorem ok_least {f fL : Addr} {fd fdL : FuncData} {k : Nat} (F : Fun K "least_of" "least_of" sLeast f fd) (FL : Fun K "lines_of" "lines_of" sLines fL fdL) (bL : Binds K fdL ["told"] []) (gL : mg "lines_of" = some (.ref fL)) (ml : mg "list" = none) (mz : mg "zip" = none) (mn : mg "min" = none) (mt : mg "tuple" = none) :
    FnOk P w K mg base CX0 (k + 2) f fd ["told"] spLeast := by
  have GL : FnOk P w K mg base CX0 (k + 1) fL fdL ["told"] spLines := ok_lines FL ml mz
  refine F.ok scLeast (fun vs H Q E h => ?_) (fun cdv A outer s H vs Q E hr h => ?_)
  · obtain ⟨t, m, L, rfl, _⟩ := h
    rfl
  · obtain ⟨t, m, L, rfl, hS, hL, hm0, hm1, hm, q⟩ := h
    refine ⟨_, pss_one (ps_ret (pe_callTy call_tuple_of (by rfl) mt (by decide +kernel) (pa_cons (pe_lc (own := [("line", 1)]) (g := gName 1) (by rfl) scLeast.nd (pi_list (pe_call GL hr (by rfl) gL FL.kp bL .nil pass0 (pa_cons (pv 0) pa_nil))) (blkOk_by (own := [("line", 1)]) (N := nmLeast) (sc := defScope sLeast) (by decide +kernel))
          (fun _ _ _ _ _ => pg_name (i := 1) scLeast.nd rfl (.inl rfl)) (fun _ _ _ _ _ => pts_nil) (fun _ _ _ _ _ => pe_callB (r := rMinT K) (cr_minT (by rfl)) (by rfl) mn (by decide +kernel) (pa_cons (pv 1) pa_nil))) pa_nil))), ?_⟩
    refine ⟨.ref t, rfl, t, m, L, rfl, hS, hL, hm0, hm1, hm, fun H1 l as s1 hl hn hc => ?_⟩
    refine ⟨l, rfl, ⟨_, sqlOf hl⟩, fun D nD => ?_⟩
    have lD : l ≠ D := ne_of_none hl nD
    refine lc_list (xs := as.map V.ref) (fun j H' => ∃ ms : List Int, H' D = some (.lst (ms.map V.int)) ∧ IsLeast (L.map Trm.d) j ms ∧ ∀ b o, b ≠ D → H1 b = some o → H' b = some o) ⟨[], upd_same, ⟨rfl, fun j hj => absurd hj (Nat.not_lt_zero _)⟩, fun b o hb e => by rw [upd_ne hb]; exact e⟩ (fun i H' _ h => ?_) (fun i x H' hx h => ?_) (fun H' h => ?_)
    · obtain ⟨ms, _, _, kp⟩ := h
      exact sqlOf (kp l _ lD hl)
    · obtain ⟨ms, hD, ⟨e1, e2⟩, kp⟩ := h
      rw [List.getElem?_map] at hx
      obtain ⟨a, ha, rfl⟩ := Option.map_eq_some_iff.mp hx
      have hi := (List.getElem?_eq_some_iff.mp ha).1
      have hne : 0 < L.length := by
        cases L with
        | nil =>
          rw [hn] at hi
          exact absurd hi (Nat.not_lt_zero _)
        | cons _ _ => simp
      have hca := hc i a ha
      refine ⟨rfl, .ref a, rfl, a, _, rfl, .inl (.inl (kp a _ (ne_of_none hca nD) hca)), (by simpa [col] using hne), fun v h1 h2 => ?_⟩
      have hms : ms.length ≤ 1000 := by
        rw [e1]
        rw [hn] at hi
        unfold cnt at hi
        split at hi <;> omega
      refine ⟨_, hD, (by rw [List.length_map, sizeLine_eq]; omega), ms ++ [v], (by rw [upd_same, List.map_append]; rfl), ⟨by rw [List.length_append, e1]; rfl, fun j hj => ?_⟩, fun b o hb e => by rw [upd_ne hb]; exact kp b o hb e⟩
      rcases Nat.lt_succ_iff_lt_or_eq.mp hj with hj | rfl
      · obtain ⟨u, f1, f2⟩ := e2 j hj
        exact ⟨u, by rw [List.getElem?_append_left (by omega)]; exact f1, f2⟩
      · exact ⟨v, by rw [List.getElem?_append_right (by omega), e1]; simp, h1, h2⟩
    · obtain ⟨ms, hD, hI, kp⟩ := h
      rw [List.length_map, hn] at hI
      have sm : Same H1 H' := fun b o e => kp b o (ne_of_none e nD) e
      refine ⟨D, _, rfl, .inl ⟨sqlOf hD, fun p np => ?_⟩⟩
      exact q _ p ms ((s1.trans sm).trans (same_new np)) ((s1.trans sm).free np) upd_same hI
/-! ### least_powers -/
theorem Good.len {m : Nat} {L : List Trm} (h : Good m (L.map Trm.d)) : ∀ r ∈ L, r.ns.length = m := fun r hr => (h.1 r.d (List.mem_map_of_mem hr)).1
theorem one1 {a : V} : [a].length ≤ sizeLine := by
  rw [sizeLine_eq]
  show 1 ≤ 16777216
  decide
/-- where the program's defs stand -/
structure Prog (K : PySem.W.Frag) (mg : Str → Option Value) (fI fC fO fN fL : Addr) (dI dC dO dN dL : FuncData) : Prop where
  Is : Fun K "is_sum" "is_sum" sIs fI dI
  Ch : Fun K "check_sum" "check_sum" sCheck fC dC
  Lo : Fun K "letters_of" "letters_of" sLettersOf fO dO
  Li : Fun K "lines_of" "lines_of" sLines fN dN
  Le : Fun K "least_of" "least_of" sLeast fL dL
  bIs : Binds K dI ["told", "many"] []
  bCh : Binds K dC ["told", "many"] []
  bLo : Binds K dO ["sums"] []
  bLi : Binds K dN ["told"] []
  bLe : Binds K dL ["told"] []
  gIs : mg "is_sum" = some (.ref fI)
  gCh : mg "check_sum" = some (.ref fC)
  gLo : mg "letters_of" = some (.ref fO)
  gLi : mg "lines_of" = some (.ref fN)
  gLe : mg "least_of" = some (.ref fL)
  enumerate : mg "enumerate" = none
  len : mg "len" = none
  list : mg "list" = none
  zip : mg "zip" = none
  min : mg "min" = none
  tuple : mg "tuple" = none
section
variable {fI fC fO fN fL : Addr} {dI dC dO dN dL : FuncData}
theorem Prog.lo {k : Nat} (D : Prog K mg fI fC fO fN fL dI dC dO dN dL) : FnOk P w K mg base CX0 (k + 3) fO dO ["sums"] (spLettersOf K) := ok_lettersOf D.Lo D.Ch D.bCh D.gCh D.Is D.bIs D.gIs D.enumerate D.len
theorem Prog.le {k : Nat} (D : Prog K mg fI fC fO fN fL dI dC dO dN dL) : FnOk P w K mg base CX0 (k + 2) fL dL ["told"] spLeast := ok_least D.Le D.Li D.bLi D.gLi D.list D.zip D.min D.tuple
end
end
end NH
set_option Elab.async false
set_option linter.all false
set_option maxRecDepth 100000
namespace NH
open PySem PySem.Spec PyProof.Rows L2 R1 ZN
/-- a term with ms taken from its powers -/
def less (ms : List Int) (q : List Int × Int) : List Int × Int := (List.zipWith (fun a b => a + -1 * b) q.1 ms, q.2)
theorem rows_app {H : Hp} {L M : List Trm} (h : RowsOk H L) (h' : RowsOk H M) : RowsOk H (L ++ M) := fun r hr => by
  rcases List.mem_append.mp hr with hr | hr
  · exact h r hr
  · exact h' r hr
theorem zip_take {f : Int → Int → Int} {xs ys : List Int} {i : Nat} {x y : Int} (hx : xs[i]? = some x) (hy : ys[i]? = some y) : (List.zipWith f xs ys).take (i + 1) = (List.zipWith f xs ys).take i ++ [f x y] := by
  rw [List.take_add_one, List.getElem?_zipWith, hx, hy]
  rfl
theorem size2' {a b : V} : [a, b].length ≤ sizeLine := by
  rw [sizeLine_eq]
  show 2 ≤ 16777216
  decide
/-- a row of a comprehension's list, one more -/
theorem rows_step {H4 : Hp} {D t p : Addr} {ns : List Int} {c : Int} {L : List Trm} (hD : H4 D = some (.lst (L.map Trm.v))) (ho : RowsOk H4 L) (h1 : H4 t = some (.tup [.ref p, .int c])) (h2 : H4 p = some (.tup (ns.map V.int))) :
    upd H4 D (.lst (L.map Trm.v ++ [.ref t])) D = some (.lst ((L ++ [(⟨t, p, ns, c⟩ : Trm)]).map Trm.v)) ∧ RowsOk (upd H4 D (.lst (L.map Trm.v ++ [.ref t]))) (L ++ [(⟨t, p, ns, c⟩ : Trm)]) := by
  have kt : KeepT H4 (upd H4 D (.lst (L.map Trm.v ++ [.ref t]))) := fun b xs e => by
    rw [upd_ne (ne_of e hD (by intro z; cases z))]
    exact e
  refine ⟨by rw [upd_same, List.map_append]; rfl, rows_app (ho.keep kt) fun r hr => ?_⟩
  rw [List.mem_singleton.mp hr]
  exact ⟨kt _ _ h1, kt _ _ h2⟩
section
variable {P : Program} {w : World} {K : PySem.W.Frag} {mg : Str → Option Value} {base : Heap}
def spMoved : Sp := fun vs H Q _ => ∃ (t p : Addr) (ms : List Int) (L : List Trm), vs = [.ref t, .ref p, .int (-1)] ∧ SumAt H t L ∧ L.length ≤ 1000 ∧ H p = some (.tup (ms.map V.int)) ∧ ms.length ≤ 1000 ∧ (∀ r ∈ L, r.ns.length = ms.length) ∧
  ∀ H' (t' : Addr) (L' : List Trm), Same H H' → H t' = none → SumAt H' t' L' → L'.map Trm.d = (L.map Trm.d).map (less ms) → Q (.ref t') H'
abbrev nmMoved : List Str := ["told", "powers", "sign", "own", "coefficient", "one", "other"]
theorem scMoved : FnScope nmMoved ["told", "powers", "sign"] (defScope sMoved) := ⟨rfl, rfl, rfl, by decide +kernel, rfl, by decide +kernel, by decide +kernel⟩
theorem ok_moved {f : Addr} {fd : FuncData} {k : Nat} (F : Fun K "moved" "moved" sMoved f fd) (mt : mg "tuple" = none) (mz : mg "zip" = none) : FnOk P w K mg base CX0 (k + 1) f fd ["told", "powers", "sign"] spMoved := by
  refine F.ok scMoved (fun vs H Q E h => ?_) (fun cdv A outer s H vs Q E hr h => ?_)
  · obtain ⟨t, m, L, _, rfl, _⟩ := h
    rfl
  · obtain ⟨t, p, ms, L, rfl, hS, hL, hp, hms, hlen, q⟩ := h
    refine ⟨_, pss_one (ps_ret (pe_callTy call_tuple_of (by rfl) mt (by decide +kernel) (pa_cons (pe_lc (own := [("own", 3), ("coefficient", 4)]) (g := gTup K 2 (gCons (gName 3) (gCons (gName 4) gNil))) (by rfl) scMoved.nd (pi_tup (pv 0)) (blkOk_by (own := [("own", 3), ("coefficient", 4)]) (N := nmMoved) (sc := defScope sMoved) (by decide +kernel))
          (fun _ _ _ _ _ => pg_tup rfl (pgs_cons (pg_name (i := 3) scMoved.nd rfl (.inl rfl)) (pgs_cons (pg_name (i := 4) scMoved.nd rfl (.inl rfl)) pgs_nil))) (fun _ _ _ _ _ => pts_nil)
          (fun _ _ _ _ _ => pe_tup (pa_cons (pe_callTy (r := fun xs H Q => ∃ p ys, xs = [.ref p] ∧ ((SqL K H p ys ∧ ∀ l, H l = none → Q (.ref l) (upd H l (.tup ys))) ∨ (SqT K H p ys ∧ Q (.ref p) H))) call_tuple_of (by rfl) mt (by decide +kernel) (pa_cons (pe_lc (wi := RZ.iZipA K (tCons (tVar 3) (tCons (tVar 1) tNil))) (own := [("one", 5), ("other", 6)]) (g := gTup K 2 (gCons (gName 5) (gCons (gName 6) gNil))) (by rfl) scMoved.nd (RZ.pi_zipA (by rfl) mz (pa_cons (pv 3) (pa_cons (pv 1) pa_nil))) (blkOk_by (own := [("one", 5), ("other", 6)]) (N := nmMoved) (by rfl))
              (fun _ _ _ _ _ => pg_tup rfl (pgs_cons (pg_name (i := 5) scMoved.nd rfl (.inl rfl)) (pgs_cons (pg_name (i := 6) scMoved.nd rfl (.inl rfl)) pgs_nil))) (fun _ _ _ _ _ => pts_nil)
              (fun _ _ _ _ _ => pe_op op_add (pv 5) (pe_op op_mul (pv 2) (pv 6)))) pa_nil)) (pa_cons (pv 4) pa_nil)))) pa_nil))), ?_⟩
    refine ⟨.ref t, rfl, t, rfl, ⟨_, hS.sq⟩, fun D nD => ?_⟩
    refine lc_tup (xs := L.map Trm.v) (fun j H' => ∃ L' : List Trm, H' D = some (.lst (L'.map Trm.v)) ∧ RowsOk H' L' ∧ L'.map Trm.d = ((L.take j).map Trm.d).map (less ms) ∧ ∀ b o, b ≠ D → H b = some o → H' b = some o) ⟨[], upd_same, (fun r h => by cases h), by simp, fun b o hb e => by rw [upd_ne hb]; exact e⟩ (fun i H' _ h => ?_) (fun i x H1 hx h => ?_) (fun H1 h => ?_)
    · obtain ⟨_, _, _, _, kp⟩ := h
      exact .inl (.inl (kp t _ (ne_of_none hS.at_ nD) hS.at_))
    · obtain ⟨L', hD, ho, ed, kp⟩ := h
      rw [List.getElem?_map] at hx
      obtain ⟨r, hr1, rfl⟩ := Option.map_eq_some_iff.mp hx
      obtain ⟨o1, o2⟩ := hS.rows r (List.mem_of_getElem? hr1)
      have hlt := (List.getElem?_eq_some_iff.mp hr1).1
      have hrl := hlen r (List.mem_of_getElem? hr1)
      have up : ∀ {b o}, H b = some o → H1 b = some o := fun {b o} e => kp b o (ne_of_none e nD) e
      refine ⟨r.t, _, rfl, .inl (.inl (up o1)), rfl, _, _, rfl, _, _, rfl, rfl, rfl, .ref r.p, rfl, .ref p, rfl, r.p, p, _, _, rfl, .inr ⟨.inl (.inl (up o2)), .inl (.inl (up hp)), fun D2 nD2 => ?_⟩⟩
      refine lc_it (walk_zipT (xs := r.ns.map V.int) (ys := ms.map V.int) (by rw [List.length_map, List.length_map, hrl])) (fun j H' => H' D2 = some (.lst (((List.zipWith (fun a b => a + -1 * b) r.ns ms).take j).map V.int)) ∧ ∀ b o, b ≠ D2 → H1 b = some o → H' b = some o) ⟨upd_same, fun b o hb e => by rw [upd_ne hb]; exact e⟩ (fun j H' _ h => ?_) (fun j x H2 H' hj h hy => ?_) (fun H2 h => ?_)
      · exact ⟨.inl (.inl (h.2 _ _ (ne_of_none (up o2) nD2) (up o2))), .inl (.inl (h.2 _ _ (ne_of_none (up hp) nD2) (up hp)))⟩
      · obtain ⟨hD2, kp2⟩ := h
        obtain ⟨T, x1, x2, rfl, nT, rfl, e1, e2⟩ := hy
        dsimp only at e1 e2
        rw [List.getElem?_map] at e1 e2
        obtain ⟨n1, f1, rfl⟩ := Option.map_eq_some_iff.mp e1
        obtain ⟨n2, f2, rfl⟩ := Option.map_eq_some_iff.mp e2
        have hj1 := (List.getElem?_eq_some_iff.mp f1).1
        have TD : D2 ≠ T := ne_of_none hD2 nT
        refine ⟨T, _, rfl, .inl (.inl upd_same), rfl, _, _, rfl, _, _, rfl, rfl, rfl, .int n1, rfl, .int (-1), rfl, .int n2, rfl, -1, n2, rfl, rfl, .inl ⟨by decide, by decide⟩, n1, -1 * n2, rfl, rfl, _, (by rw [upd_ne TD]; exact hD2), ?_, ?_, fun b o hb e => ?_⟩
        · rw [List.length_map, List.length_take, List.length_zipWith, sizeLine_eq]
          omega
        · rw [upd_same, zip_take f1 f2, List.map_append]
          rfl
        · rw [upd_ne hb]
          exact same_new nT _ _ (kp2 b o hb e)
      · obtain ⟨hD2, kp2⟩ := h
        rw [List.length_map, List.take_of_length_le (by rw [List.length_zipWith]; omega)] at hD2
        have up2 : ∀ {b o}, H1 b = some o → H2 b = some o := fun {b o} e => kp2 b o (ne_of_none e nD2) e
        refine ⟨D2, _, rfl, .inl ⟨sqlOf hD2, fun p2 np2 => ?_⟩⟩
        refine ⟨.int r.c, rfl, size2', fun t2 nt2 => ?_⟩
        have h4 : ∀ {b o}, H1 b = some o → upd (upd H2 p2 (.tup ((List.zipWith (fun a b => a + -1 * b) r.ns ms).map V.int))) t2 (.tup [.ref p2, .int r.c]) b = some o := fun {b o} e => same_new nt2 _ _ (same_new np2 _ _ (up2 e))
        obtain ⟨g1, g2⟩ := rows_step (D := D) (t := t2) (p := p2) (ns := List.zipWith (fun a b => a + -1 * b) r.ns ms) (c := r.c) (h4 hD) (ho.keep fun b xs e => h4 e) upd_same (same_new nt2 _ _ upd_same)
        have ll : L'.length = i := by
          have := congrArg List.length ed
          simp at this
          omega
        refine ⟨_, h4 hD, (by rw [List.length_map, sizeLine_eq]; omega), _, g1, g2, ?_, fun b o hb e => ?_⟩
        · rw [List.map_append, ed, List.take_add_one, hr1, List.map_append, List.map_append]
          rfl
        · rw [upd_ne hb]
          exact h4 (kp b o hb e)
    · obtain ⟨L', hD, ho, ed, kp⟩ := h
      rw [List.length_map, List.take_length] at ed
      have sm : Same H H1 := fun b o e => kp b o (ne_of_none e nD) e
      refine ⟨D, _, rfl, .inl ⟨sqlOf hD, fun t' nt' => ?_⟩⟩
      exact q _ t' L' (sm.trans (same_new nt')) (sm.free nt') ⟨upd_same, ho.keep (same_keepT (same_new nt'))⟩ ed
/-! ### freed -/
theorem less_len {ms : List Int} {q : List Int × Int} (h : q.1.length = ms.length) : (less ms q).1.length = ms.length := by
  show (List.zipWith _ _ _).length = _
  rw [List.length_zipWith]
  omega
theorem less_lex : ∀ {ms xs ys : List Int}, xs.length = ms.length → ys.length = ms.length → HT.lexLt (List.zipWith (fun a b => a + -1 * b) xs ms) (List.zipWith (fun a b => a + -1 * b) ys ms) = HT.lexLt xs ys
  | [], [], [], _, _ => rfl
  | [], _ :: _, _, h, _ => by cases h
  | [], [], _ :: _, _, h => by cases h
  | _ :: _, [], _, h, _ => by cases h
  | _ :: _, _ :: _, [], _, h => by cases h
  | m :: ms, x :: xs, y :: ys, h1, h2 => by
    show (if x + -1 * m = y + -1 * m then HT.lexLt (List.zipWith (fun a b => a + -1 * b) xs ms) (List.zipWith (fun a b => a + -1 * b) ys ms) else decide (x + -1 * m < y + -1 * m)) = (if x = y then HT.lexLt xs ys else decide (x < y))
    rw [less_lex (Nat.succ.inj h1) (Nat.succ.inj h2)]
    by_cases e : x = y
    · subst e
      rw [if_pos rfl, if_pos rfl]
    · rw [if_neg (by omega), if_neg e]
      by_cases e2 : x < y
      · rw [decide_eq_true e2, decide_eq_true (by omega)]
      · rw [decide_eq_false e2, decide_eq_false (by omega)]
theorem Good.less {m : Nat} {D : List (List Int × Int)} {ms : List Int} (h : Good m D) (hm : ms.length = m) : Good m (D.map (less ms)) := by
  refine ⟨fun q hq => ?_, ?_⟩
  · obtain ⟨p, hp, rfl⟩ := List.mem_map.mp hq
    obtain ⟨h1, h2⟩ := h.1 p hp
    exact ⟨by rw [less_len (by omega)]; exact hm, h2⟩
  · rw [List.pairwise_map]
    refine h.2.imp_of_mem fun {x y} hx hy e => ?_
    show HT.lexLt (List.zipWith _ _ _) (List.zipWith _ _ _) = true
    rw [less_lex (by rw [(h.1 x hx).1, hm]) (by rw [(h.1 y hy).1, hm])]
    exact e

end
end NH
set_option Elab.async false
set_option linter.all false
set_option maxRecDepth 100000
namespace NH
open PySem PySem.Spec PyProof.Rows L2 R1 ZN
/-! ### dicts of terms, as data -/
abbrev Ts := List (List Int × Int)
def enc (q : List Int × Int) : List Key × V := (q.1.map Sum.inl, V.int q.2)
abbrev dZ (D : Ts) : HO := .dT (D.map enc)
def getO (D : Ts) (k : List Int) : Option Int := (D.find? fun q => decide (q.1 = k)).map (·.2)
def setD (D : Ts) (k : List Int) (v : Int) : Ts := if (D.any fun q => decide (q.1 = k)) = true then D.map (fun q => if q.1 = k then (q.1, v) else q) else D ++ [(k, v)]
theorem inl_inj {a b : List Int} : (a.map Sum.inl : List Key) = b.map Sum.inl ↔ a = b := by
  constructor
  · exact fun h => (List.map_inj_right (fun x y h => by injection h)).mp h
  · exact fun h => by rw [h]
theorem valV_enc (k : List Int) : ∀ D : Ts, valV (D.map enc) (k.map Sum.inl) = (getO D k).map V.int
  | [] => rfl
  | q :: D => by
    by_cases e : q.1 = k
    · rw [List.map_cons, valV_pos (show (enc q).1 = k.map Sum.inl by rw [← e]; rfl)]
      simp [getO, List.find?_cons, e, enc]
    · rw [List.map_cons, valV_neg (show ¬ (enc q).1 = k.map Sum.inl from fun z => e (inl_inj.mp z)), valV_enc k D]
      simp [getO, List.find?_cons, e]
theorem putK_enc (k : List Int) (v : Int) (D : Ts) : putK (D.map enc) (k.map Sum.inl) (.int v) = (setD D k v).map enc := by
  have h1 : ((D.map enc).any fun kv => decide (kv.1 = k.map Sum.inl)) = (D.any fun q => decide (q.1 = k)) := by
    rw [List.any_map]
    congr 1
    funext q
    show decide ((q.1.map Sum.inl : List Key) = k.map Sum.inl) = decide (q.1 = k)
    exact decide_eq_decide.mpr inl_inj
  unfold putK setD
  rw [h1]
  split
  · rw [List.map_map, List.map_map]
    refine List.map_congr_left fun q _ => ?_
    show (if (q.1.map Sum.inl : List Key) = k.map Sum.inl then ((q.1.map Sum.inl : List Key), V.int v) else enc q) = enc (if q.1 = k then (q.1, v) else q)
    by_cases e : q.1 = k
    · rw [if_pos (inl_inj.mpr e), if_pos e]
      rfl
    · rw [if_neg (fun z => e (inl_inj.mp z)), if_neg e]
  · rw [List.map_append]
    rfl
theorem setD_mem {D : Ts} {k : List Int} {v : Int} {q : List Int × Int} (h : q ∈ setD D k v) : (q ∈ D ∧ q.1 ≠ k) ∨ q = (k, v) := by
  unfold setD at h
  split at h
  · obtain ⟨p, hp, e⟩ := List.mem_map.mp h
    split at e
    · rename_i e2
      exact .inr (by rw [← e, e2])
    · rename_i e2
      exact .inl (e ▸ ⟨hp, e2⟩)
  · rename_i hn
    rcases List.mem_append.mp h with h | h
    · refine .inl ⟨h, fun e => hn ?_⟩
      exact List.any_eq_true.mpr ⟨q, h, decide_eq_true e⟩
    · exact .inr (List.mem_singleton.mp h)
theorem setD_len (D : Ts) (k : List Int) (v : Int) : (setD D k v).length ≤ D.length + 1 := by
  unfold setD
  split
  · rw [List.length_map]
    omega
  · rw [List.length_append]
    exact Nat.le_refl _
def NodupK (D : Ts) : Prop := (D.map (·.1)).Nodup
theorem setD_nodup {D : Ts} (k : List Int) (v : Int) (h : NodupK D) : NodupK (setD D k v) := by
  unfold NodupK setD
  split
  · rw [List.map_map]
    have : ((·.1) ∘ fun q : List Int × Int => if q.1 = k then (q.1, v) else q) = (·.1) := by
      funext q
      show (if q.1 = k then (q.1, v) else q).1 = q.1
      split <;> rfl
    rw [this]
    exact h
  · rename_i hn
    rw [List.map_append, List.nodup_append]
    refine ⟨h, by simp, fun a ha b hb e => hn ?_⟩
    obtain ⟨q, hq, rfl⟩ := List.mem_map.mp ha
    have : b = k := by simpa using hb
    exact List.any_eq_true.mpr ⟨q, hq, decide_eq_true (by rw [e, this])⟩
theorem getO_mem {k : List Int} {v : Int} : ∀ {D : Ts}, NodupK D → (getO D k = some v ↔ (k, v) ∈ D)
  | [], _ => by simp [getO]
  | q :: D, h => by
    have h' := List.nodup_cons.mp h
    by_cases e : q.1 = k
    · have : getO (q :: D) k = some q.2 := by simp [getO, List.find?_cons, e]
      rw [this]
      constructor
      · intro z
        have z := Option.some.inj z
        have : q = (k, v) := by rw [← e, ← z]
        rw [this]
        exact List.mem_cons_self
      · intro z
        rcases List.mem_cons.mp z with z | z
        · rw [← z]
        · exact absurd (List.mem_map.mpr ⟨_, z, e.symm⟩) h'.1
    · have : getO (q :: D) k = getO D k := by simp [getO, List.find?_cons, e]
      rw [this, getO_mem h'.2]
      constructor
      · exact fun z => List.mem_cons_of_mem _ z
      · intro z
        rcases List.mem_cons.mp z with z | z
        · exact absurd (by rw [← z]) e
        · exact z
theorem getO_any (k : List Int) : ∀ D : Ts, (D.any fun q => decide (q.1 = k)) = (getO D k).isSome
  | [] => rfl
  | q :: D => by
    rw [List.any_cons]
    by_cases e : q.1 = k
    · simp [getO, List.find?_cons, e]
    · rw [decide_eq_false e, Bool.false_or, getO_any k D]
      simp [getO, List.find?_cons, e]
theorem getO_set (D : Ts) (k j : List Int) (v : Int) : getO (setD D k v) j = if j = k then some v else getO D j := by
  have h := valV_put (D.map enc) (k.map Sum.inl) (j.map Sum.inl) (.int v)
  rw [putK_enc, valV_enc, valV_enc] at h
  by_cases e : j = k
  · rw [if_pos (inl_inj.mpr e)] at h
    rw [if_pos e]
    cases q : getO (setD D k v) j with
    | none => rw [q] at h; cases h
    | some x =>
      rw [q] at h
      have := Option.some.inj h
      injection this with this
      rw [this]
  · rw [if_neg (fun z => e (inl_inj.mp z))] at h
    rw [if_neg e]
    cases q : getO (setD D k v) j with
    | none =>
      rw [q] at h
      cases q2 : getO D j with
      | none => rfl
      | some x => rw [q2] at h; cases h
    | some x =>
      rw [q] at h
      cases q2 : getO D j with
      | none => rw [q2] at h; cases h
      | some y =>
        rw [q2] at h
        have := Option.some.inj h
        injection this with this
        rw [this]
/-- the coefficient at powers, 0 where none stands -/
def val (D : Ts) (k : List Int) : Int := (getO D k).getD 0
def addD (D : Ts) (k : List Int) (c : Int) : Ts := setD D k (val D k + c)
theorem val_add (D : Ts) (k j : List Int) (c : Int) : val (addD D k c) j = val D j + if j = k then c else 0 := by
  unfold val addD
  rw [getO_set]
  by_cases e : j = k
  · subst e
    simp [val]
  · simp [e]
/-- all terms of W, their powers by z, added -/
def gather (z : List Int → List Int) : Ts → Ts → Ts
  | A, [] => A
  | A, q :: W => gather z (addD A (z q.1) q.2) W
def tot (z : List Int → List Int) (j : List Int) : Ts → Int
  | [] => 0
  | q :: W => (if j = z q.1 then q.2 else 0) + tot z j W
theorem val_gather (z : List Int → List Int) (j : List Int) : ∀ (W A : Ts), val (gather z A W) j = val A j + tot z j W
  | [], A => by simp [gather, tot]
  | q :: W, A => by
    rw [gather, val_gather z j W, val_add, tot]
    omega
theorem tot_perm (z : List Int → List Int) (j : List Int) {V W : Ts} (h : V.Perm W) : tot z j V = tot z j W := by
  induction h with
  | nil => rfl
  | cons x _ ih => simp only [tot, ih]
  | swap x y l => simp only [tot]; omega
  | trans _ _ h1 h2 => rw [h1, h2]
theorem gather_snoc (z : List Int → List Int) (q : List Int × Int) : ∀ (W A : Ts), gather z A (W ++ [q]) = addD (gather z A W) (z q.1) q.2
  | [], A => rfl
  | p :: W, A => by
    show gather z (addD A (z p.1) p.2) (W ++ [q]) = _
    rw [gather_snoc z q W]
    rfl
theorem gather_nodup (z : List Int → List Int) : ∀ (W A : Ts), NodupK A → NodupK (gather z A W)
  | [], _, h => h
  | q :: W, A, h => gather_nodup z W _ (setD_nodup _ _ h)
theorem gather_len (z : List Int → List Int) : ∀ (W A : Ts), (gather z A W).length ≤ A.length + W.length
  | [], _ => Nat.le_refl _
  | q :: W, A => by
    have := gather_len z W (addD A (z q.1) q.2)
    have h2 := setD_len A (z q.1) (val A (z q.1) + q.2)
    rw [gather]
    show _ ≤ A.length + (W.length + 1)
    unfold addD at this
    unfold addD
    omega
theorem gather_keys {z : List Int → List Int} {m : Nat} : ∀ (W A : Ts), (∀ q ∈ A, q.1.length = m) → (∀ q ∈ W, (z q.1).length = m) → ∀ q ∈ gather z A W, q.1.length = m
  | [], _, h, _ => h
  | p :: W, A, h, h2 => gather_keys W _ (fun q hq => by
      rcases setD_mem hq with ⟨hq, _⟩ | rfl
      · exact h q hq
      · exact h2 p List.mem_cons_self) fun q hq => h2 q (List.mem_cons_of_mem _ hq)
/-! ### the sum that a dict stands for -/
structure Norm (D E : Ts) : Prop where
  sorted : E.Pairwise fun x y => HT.lexLt x.1 y.1 = true
  mem : ∀ q, q ∈ E ↔ q ∈ D ∧ q.2 ≠ 0
theorem lex_ne {a b : List Int} (h : HT.lexLt a b = true) : a ≠ b := fun e => by
  subst e
  rw [lex_irrefl] at h
  cases h
theorem sorted_ext : ∀ {E F : Ts}, E.Pairwise (fun x y => HT.lexLt x.1 y.1 = true) → F.Pairwise (fun x y => HT.lexLt x.1 y.1 = true) → (∀ q, q ∈ E ↔ q ∈ F) → E = F
  | [], [], _, _, _ => rfl
  | [], q :: F, _, _, h => absurd ((h q).mpr List.mem_cons_self) (by simp)
  | q :: E, [], _, _, h => absurd ((h q).mp List.mem_cons_self) (by simp)
  | p :: E, q :: F, h1, h2, h => by
    obtain ⟨a1, a2⟩ := List.pairwise_cons.mp h1
    obtain ⟨b1, b2⟩ := List.pairwise_cons.mp h2
    have e : p = q := by
      rcases List.mem_cons.mp ((h p).mp List.mem_cons_self) with e | hp
      · exact e
      · rcases List.mem_cons.mp ((h q).mpr List.mem_cons_self) with e | hq
        · exact e.symm
        · have x1 := b1 p hp
          have x2 := lex_asym _ _ (a1 q hq)
          rw [x1] at x2
          cases x2
    subst e
    congr 1
    refine sorted_ext a2 b2 fun r => ⟨fun hr => ?_, fun hr => ?_⟩
    · rcases List.mem_cons.mp ((h r).mp (List.mem_cons_of_mem _ hr)) with e | hr'
      · exact absurd (by rw [e]) (lex_ne (a1 r hr))
      · exact hr'
    · rcases List.mem_cons.mp ((h r).mpr (List.mem_cons_of_mem _ hr)) with e | hr'
      · exact absurd (by rw [e]) (lex_ne (b1 r hr))
      · exact hr'
theorem val_mem {D : Ts} (h : NodupK D) (q : List Int × Int) : (q ∈ D ∧ q.2 ≠ 0) ↔ (val D q.1 = q.2 ∧ q.2 ≠ 0) := by
  unfold val
  constructor
  · rintro ⟨h1, h2⟩
    rw [(getO_mem h).mpr h1]
    exact ⟨rfl, h2⟩
  · rintro ⟨h1, h2⟩
    cases e : getO D q.1 with
    | none =>
      rw [e] at h1
      exact absurd h1.symm h2
    | some x =>
      rw [e] at h1
      have h1 : x = q.2 := h1
      subst h1
      exact ⟨(getO_mem h).mp e, h2⟩
theorem Norm.unique {A B E F : Ts} (hA : NodupK A) (hB : NodupK B) (h : ∀ k, val A k = val B k) (x : Norm A E) (y : Norm B F) : E = F :=
  sorted_ext x.sorted y.sorted fun q => by rw [x.mem, y.mem, val_mem hA, val_mem hB, h]
theorem lex_total : ∀ {a b : List Int}, a.length = b.length → HT.lexLt a b = false → HT.lexLt b a = false → a = b
  | [], [], _, _, _ => rfl
  | [], _ :: _, h, _, _ => by cases h
  | _ :: _, [], h, _, _ => by cases h
  | x :: a, y :: b, h, h1, h2 => by
    rw [HT.lexLt_cons] at h1 h2
    by_cases e : x = y
    · subst e
      rw [if_pos rfl] at h1 h2
      rw [lex_total (Nat.succ.inj h) h1 h2]
    · rw [if_neg e] at h1
      rw [if_neg (fun z => e z.symm)] at h2
      have h1 := of_decide_eq_false h1
      have h2 := of_decide_eq_false h2
      omega
theorem Norm.good {D E : Ts} {m : Nat} (x : Norm D E) (h : ∀ q ∈ D, q.1.length = m) : Good m E := ⟨fun q hq => by
  obtain ⟨a, b⟩ := (x.mem q).mp hq
  exact ⟨h q a, b⟩, x.sorted⟩
/-- the terms of a dict, those of 0 left out, sorted -/
theorem norm_of {D E : Ts} {m : Nat} (hD : NodupK D) (hm : ∀ q ∈ D, q.1.length = m) (hp : E.Perm (D.filter fun q => decide (q.2 ≠ 0))) (hs : E.Pairwise fun x y => HT.lexLt y.1 x.1 = false) : Norm D E := by
  have mem : ∀ q, q ∈ E ↔ q ∈ D ∧ q.2 ≠ 0 := fun q => by
    rw [hp.mem_iff, List.mem_filter, decide_eq_true_eq]
  have nd : (E.map (·.1)).Nodup := (hp.map _).nodup_iff.mpr (List.Nodup.sublist (List.Sublist.map _ List.filter_sublist) hD)
  refine ⟨?_, mem⟩
  have nd2 : E.Pairwise fun x y => x.1 ≠ y.1 := List.pairwise_map.mp nd
  refine (hs.and nd2).imp_of_mem fun {x y} hx hy h => ?_
  cases e : HT.lexLt x.1 y.1 with
  | true => rfl
  | false => exact absurd (lex_total (by rw [hm x ((mem x).mp hx).1, hm y ((mem y).mp hy).1]) e h.1) h.2
end NH
set_option Elab.async false
set_option linter.all false
set_option maxRecDepth 100000
namespace NH
open PySem PySem.Spec PyProof.Rows L2 R1 ZN
def nz (q : List Int × Int) : Bool := decide (q.2 ≠ 0)
theorem filter_step {D : Ts} {i : Nat} {q : List Int × Int} (h : D[i]? = some q) : (D.take (i + 1)).filter nz = (D.take i).filter nz ++ if q.2 = 0 then [] else [q] := by
  rw [List.take_add_one, h, List.filter_append]
  congr 1
  show List.filter nz [q] = _
  by_cases e : q.2 = 0
  · rw [if_pos e]
    simp [nz, e]
  · rw [if_neg e]
    simp [nz, e]
theorem lexP_lt {p q : List Int × Int} (hl : p.1.length = q.1.length) (h : lexP p q = false) : HT.lexLt p.1 q.1 = false := by
  unfold lexP at h
  rw [lex_app _ _ hl] at h
  by_cases e : p.1 = q.1
  · rw [e, lex_irrefl]
  · rw [if_neg e] at h
    exact h
theorem rows_len {L : List Trm} {D : Ts} (h : L.map Trm.d = D) : L.length = D.length := by rw [← h, List.length_map]
section
variable {P : Program} {w : World} {K : PySem.W.Frag} {mg : Str → Option Value} {base : Heap}
/-- a dict of terms of m letters at d -/
structure DictAt (H : Hp) (d : Addr) (m : Nat) (D : Ts) : Prop where
  at_ : H d = some (dZ D)
  nodup : NodupK D
  len : ∀ q ∈ D, q.1.length = m
theorem DictAt.same {H H' : Hp} {d : Addr} {m : Nat} {D : Ts} (h : DictAt H d m D) (s : Same H H') : DictAt H' d m D := ⟨s _ _ h.at_, h.nodup, h.len⟩
theorem DictAt.get {H : Hp} {d b : Addr} {m : Nat} {D : Ts} {k : List Int} (h : Rd H d (dZ D)) (hb : H b = some (.tup (k.map V.int))) : DGet H d (.ref b) ((getO D k).map V.int) :=
  .inr ⟨D.map enc, k.map Sum.inl, b, h, rfl, by rw [map_kV]; exact hb, (valV_enc k D).symm⟩
end
end NH
set_option Elab.async false
set_option linter.all false
set_option maxRecDepth 100000
namespace NH
open PySem PySem.Spec PyProof.Rows L2 R1 ZN
/-- the same data at both, up to so many levels -/
inductive Sm (H : Hp) : Nat → V → V → Prop
  | int {n : Nat} (i : Int) : Sm H n (.int i) (.int i)
  | tup {n : Nat} {a b : Addr} {xs ys : List V} (h1 : H a = some (.tup xs)) (h2 : H b = some (.tup ys)) (hl : xs.length = ys.length) (hz : xs.length ≤ 1000) (h : ∀ (j : Nat) (x y : V), xs[j]? = some x → ys[j]? = some y → Sm H n x y) : Sm H (n + 1) (.ref a) (.ref b)
  | lst {n : Nat} {a b : Addr} {xs ys : List V} (h1 : H a = some (.lst xs)) (h2 : H b = some (.lst ys)) (hl : xs.length = ys.length) (hz : xs.length ≤ 1000) (h : ∀ (j : Nat) (x y : V), xs[j]? = some x → ys[j]? = some y → Sm H n x y) : Sm H (n + 1) (.ref a) (.ref b)
theorem Sm.same {H H' : Hp} {n : Nat} {x y : V} (h : Sm H n x y) (s : Same H H') : Sm H' n x y := by
  induction h with
  | int i => exact .int i
  | tup h1 h2 hl hz _ ih => exact .tup (s _ _ h1) (s _ _ h2) hl hz ih
  | lst h1 h2 hl hz _ ih => exact .lst (s _ _ h1) (s _ _ h2) hl hz ih
theorem isi {K : PySem.W.Frag} {H : Hp} {x : V} {T : String} {b : Bool} {Q : VK} (ty : TyOf K H x (.type T)) (C : String) (e : kitB T C = some b) (q : Q (.bl b) H) : rIsi K [x, .ty C] H Q := ⟨x, .ty C, _, _, b, rfl, .ty C, .base ty, kit_ty e, q⟩
def spSame : Nat → Sp
  | 0 => fun _ _ _ _ => False
  | n + 1 => fun vs H Q _ => ∃ x y, vs = [x, y] ∧ Sm H n x y ∧ ∀ H', Same H H' → Q (.bl true) H'
abbrev nmSame : List Str := ["_law_told", "_law_due", "_law_one", "_law_other"]
theorem scSame : FnScope nmSame ["_law_told", "_law_due"] (defScope sSame) := ⟨rfl, rfl, rfl, by decide +kernel, rfl, by decide +kernel, by decide +kernel⟩
section
variable {P : Program} {w : World} {K : PySem.W.Frag} {mg : Str → Option Value} {base : Heap}
theorem ok_same {f : Addr} {fd : FuncData} {k : Nat} (F : Fun K "_law_same" "_law_same" sSame f fd) (bF : Binds K fd ["_law_told", "_law_due"] []) (gF : mg "_law_same" = some (.ref f)) (ms : mg "isinstance" = none) (mb : mg "bool" = none) (mi : mg "int" = none) (mst : mg "str" = none) (ml : mg "list" = none) (mt : mg "tuple" = none) (me : mg "len" = none) (mz : mg "zip" = none) :
    ∀ n, FnOk P w K mg base CX0 (k + 1 + n) f fd ["_law_told", "_law_due"] (spSame n)
  | 0 => F.ok scSame (fun vs H Q E h => h.elim) (fun cdv A outer s H vs Q E hr h => h.elim)
  | n + 1 => by
    have G : FnOk P w K mg base CX0 (k + 1 + n) f fd ["_law_told", "_law_due"] (spSame n) := ok_same F bF gF ms mb mi mst ml mt me mz n
    refine F.ok scSame (fun vs H Q E h => ?_) (fun cdv A outer s H vs Q E hr h => ?_)
    · obtain ⟨x, y, rfl, _⟩ := h
      rfl
    · obtain ⟨x, y, rfl, hS, q⟩ := h
      refine ⟨_, pss_cons (ps_if (pt_cmp (pc_isN (pv 1))) pss_never pss_nil)
        (pss_cons (ps_if (pt_val (pe_callB call_isi (by rfl) ms (by decide +kernel) (pa_cons (pv 1) (pa_cons (pe_bltn (v := .ty "bool") (by rfl) mb (by decide +kernel) rfl) pa_nil)))) pss_never pss_nil)
        (pss_cons (ps_if (pt_val (pe_callB call_isi (by rfl) ms (by decide +kernel) (pa_cons (pv 1) (pa_cons (pe_bltn (v := .ty "int") (by rfl) mi (by decide +kernel) rfl) pa_nil))))
          (pss_one (ps_ret (pe_and (pe_callB call_isi (by rfl) ms (by decide +kernel) (pa_cons (pv 0) (pa_cons (pe_bltn (v := .ty "int") (by rfl) mi (by decide +kernel) rfl) pa_nil)))
            (pe_and (pe_not (pe_callB call_isi (by rfl) ms (by decide +kernel) (pa_cons (pv 0) (pa_cons (pe_bltn (v := .ty "bool") (by rfl) mb (by decide +kernel) rfl) pa_nil)))) (pe_one (pe_cmpR op_eq (pv 0) (pv 1) (nomark _))))))) pss_nil)
        (pss_cons (ps_if (pt_val (pe_callB call_isi (by rfl) ms (by decide +kernel) (pa_cons (pv 1) (pa_cons (pe_bltn (v := .ty "str") (by rfl) mst (by decide +kernel) rfl) pa_nil)))) pss_never pss_nil)
        (pss_cons (ps_if (PW.pt (pw_or (pt_cmpR op_ne (pe_callB call_isi (by rfl) ms (by decide +kernel) (pa_cons (pv 1) (pa_cons (pe_bltn (v := .ty "list") (by rfl) ml (by decide +kernel) rfl) pa_nil))) (pe_callB call_isi (by rfl) ms (by decide +kernel) (pa_cons (pv 0) (pa_cons (pe_bltn (v := .ty "list") (by rfl) ml (by decide +kernel) rfl) pa_nil))) (nomark _))
            (pw_or1 (pt_cmpR op_ne (pe_callB call_isi (by rfl) ms (by decide +kernel) (pa_cons (pv 1) (pa_cons (pe_bltn (v := .ty "tuple") (by rfl) mt (by decide +kernel) rfl) pa_nil))) (pe_callB call_isi (by rfl) ms (by decide +kernel) (pa_cons (pv 0) (pa_cons (pe_bltn (v := .ty "tuple") (by rfl) mt (by decide +kernel) rfl) pa_nil))) (nomark _))))) pss_never pss_nil)
        (pss_cons (ps_if (PW.pt (pw_or (pt_not (pt_val (pe_callB call_isiT (by rfl) ms (by decide +kernel) (pa_cons (pv 0) (pa_cons (pe_tup (pa_cons (pe_bltn (v := .ty "list") (by rfl) ml (by decide +kernel) rfl) (pa_cons (pe_bltn (v := .ty "tuple") (by rfl) mt (by decide +kernel) rfl) pa_nil))) pa_nil)))))
            (pw_or1 (pt_cmpR op_ne (pe_callB call_len_seq (by rfl) me PySem.boot_len (pa_cons (pv 0) pa_nil)) (pe_callB call_len_seq (by rfl) me PySem.boot_len (pa_cons (pv 1) pa_nil)) (nomark _))))) pss_never pss_nil)
        (pss_cons (ps_for PassesOwn.never rfl (RZ.pi_zipA (by rfl) mz (pa_cons (pv 0) (pa_cons (pv 1) pa_nil))) (pg_tup rfl (pgs_cons (pg_name (i := 2) scSame.nd rfl (.inl rfl)) (pgs_cons (pg_name (i := 3) scSame.nd rfl (.inl rfl)) pgs_nil)))
          (pss_one (ps_if (pt_not (pt_val (pe_call G hr (by rfl) gF F.kp bF .nil pass0 (pa_cons (pv 2) (pa_cons (pv 3) pa_nil))))) pss_never pss_nil)))
        (pss_one (ps_ret pe_bl)))))))), ?_⟩
      cases hS with
      | int i =>
        refine ⟨.int i, rfl, _, rfl, ite2 (fun e => absurd (of_decide_eq_true e) (by simp)) (fun _ => ?_)⟩
        refine ⟨.int i, rfl, .int i, .ty "bool", _, _, false, rfl, .ty "bool", .base (.int i), kit_ty (by decide +kernel), _, rfl, iteF ?_⟩
        refine ⟨.int i, rfl, .int i, .ty "int", _, _, true, rfl, .ty "int", .base (.int i), kit_ty (by decide +kernel), _, rfl, iteT ?_⟩
        refine ⟨.int i, rfl, .int i, .ty "int", _, _, true, rfl, .ty "int", .base (.int i), kit_ty (by decide +kernel), _, rfl, iteT ?_⟩
        refine ⟨.int i, rfl, .int i, .ty "bool", _, _, false, rfl, .ty "bool", .base (.int i), kit_ty (by decide +kernel), _, rfl, _, rfl, iteT ?_⟩
        refine ⟨.int i, rfl, .int i, rfl, rfl, ?_⟩
        rw [decide_eq_true rfl]
        exact q _ (Same.refl _)
      | @tup n' a b xs ys h1 h2 hl hz h =>
        refine ⟨.ref b, rfl, _, rfl, ite2 (fun e => absurd (of_decide_eq_true e) (by simp)) (fun _ => ?_)⟩
        refine ⟨.ref b, rfl, .ref b, .ty "bool", _, _, false, rfl, .ty "bool", .base (.tup h2), kit_ty (by decide +kernel), _, rfl, iteF ?_⟩
        refine ⟨.ref b, rfl, .ref b, .ty "int", _, _, false, rfl, .ty "int", .base (.tup h2), kit_ty (by decide +kernel), _, rfl, iteF ?_⟩
        refine ⟨.ref b, rfl, .ref b, .ty "str", _, _, false, rfl, .ty "str", .base (.tup h2), kit_ty (by decide +kernel), _, rfl, iteF ?_⟩
        refine ⟨.ref b, rfl, .ref b, .ty "list", _, _, false, rfl, .ty "list", .base (.tup h2), kit_ty (by decide +kernel), .ref a, rfl, .ref a, .ty "list", _, _, false, rfl, .ty "list", .base (.tup h1), kit_ty (by decide +kernel), rfl, _, rfl, ite2 (fun e => absurd e (by decide)) (fun _ => ?_)⟩
        refine ⟨.ref b, rfl, .ref b, .ty "tuple", _, _, true, rfl, .ty "tuple", .base (.tup h2), kit_ty (by decide +kernel), .ref a, rfl, .ref a, .ty "tuple", _, _, true, rfl, .ty "tuple", .base (.tup h1), kit_ty (by decide +kernel), rfl, _, rfl, ite2 (fun e => absurd e (by decide)) (fun _ => ?_)⟩
        refine ⟨.ref a, rfl, size2', fun p np => ?_⟩
        have s1 : Same H (upd H p (.tup [.ty "list", .ty "tuple"])) := same_new np
        refine ⟨.ref a, p, _, _, _, true, rfl, upd_same, .cons (.ty "list") (.cons (.ty "tuple") .nil), .base (.tup (s1 _ _ h1)), kitAny_cons (b := false) (kit_ty (by decide +kernel)) (fun _ => kitAny_cons (b := true) (kit_ty (by decide +kernel)) (fun h => by cases h) (fun _ => rfl)) (fun h => by cases h), _, rfl, iteF ?_⟩
        refine ⟨.ref a, rfl, a, _, rfl, .inr (.inl (.inl (s1 _ _ h1))), .ref b, rfl, b, _, rfl, .inr (.inl (.inl (s1 _ _ h2))), rfl, _, rfl, ite2 (fun e => ?_) (fun _ => ?_)⟩
        · rw [hl] at e
          simp at e
        refine ⟨.ref a, rfl, .ref b, rfl, a, b, xs, ys, rfl, .inr ⟨(.inl (.inl (s1 _ _ h1))), (.inl (.inl (s1 _ _ h2))), for_it (walk_zipT (K := K) (a := a) (b := b) (xs := xs) (ys := ys) hl) (fun i σ H' => ∃ y2 y3, σ = [some (.ref a), some (.ref b), y2, y3] ∧ Same H H') ⟨none, none, rfl, s1⟩ (fun i σ H' _ h' => ?_) (fun i x σ H1 H' hi h' hy => ?_) (fun σ H' h' => ?_)⟩⟩
        · obtain ⟨y2, y3, rfl, sm⟩ := h'
          exact ⟨(.inl (.inl (sm _ _ h1))), (.inl (.inl (sm _ _ h2)))⟩
        · obtain ⟨y2, y3, rfl, sm⟩ := h'
          obtain ⟨T, x1, x2, rfl, nT, rfl, e1, e2⟩ := hy
          have sm2 := sm.trans (same_new (o := .tup [x1, x2]) nT)
          refine ⟨T, _, rfl, .inl (.inl upd_same), rfl, _, _, rfl, _, _, rfl, rfl, x1, rfl, x2, rfl, x1, x2, rfl, (h i x1 x2 e1 e2).same sm2, fun H3 s3 => ⟨true, rfl, iteF ⟨_, _, rfl, sm2.trans s3⟩⟩⟩
        · obtain ⟨y2, y3, rfl, sm⟩ := h'
          exact q _ sm
      | @lst n' a b xs ys h1 h2 hl hz h =>
        refine ⟨.ref b, rfl, _, rfl, ite2 (fun e => absurd (of_decide_eq_true e) (by simp)) (fun _ => ?_)⟩
        refine ⟨.ref b, rfl, .ref b, .ty "bool", _, _, false, rfl, .ty "bool", .base (.lst h2), kit_ty (by decide +kernel), _, rfl, iteF ?_⟩
        refine ⟨.ref b, rfl, .ref b, .ty "int", _, _, false, rfl, .ty "int", .base (.lst h2), kit_ty (by decide +kernel), _, rfl, iteF ?_⟩
        refine ⟨.ref b, rfl, .ref b, .ty "str", _, _, false, rfl, .ty "str", .base (.lst h2), kit_ty (by decide +kernel), _, rfl, iteF ?_⟩
        refine ⟨.ref b, rfl, .ref b, .ty "list", _, _, true, rfl, .ty "list", .base (.lst h2), kit_ty (by decide +kernel), .ref a, rfl, .ref a, .ty "list", _, _, true, rfl, .ty "list", .base (.lst h1), kit_ty (by decide +kernel), rfl, _, rfl, ite2 (fun e => absurd e (by decide)) (fun _ => ?_)⟩
        refine ⟨.ref b, rfl, .ref b, .ty "tuple", _, _, false, rfl, .ty "tuple", .base (.lst h2), kit_ty (by decide +kernel), .ref a, rfl, .ref a, .ty "tuple", _, _, false, rfl, .ty "tuple", .base (.lst h1), kit_ty (by decide +kernel), rfl, _, rfl, ite2 (fun e => absurd e (by decide)) (fun _ => ?_)⟩
        refine ⟨.ref a, rfl, size2', fun p np => ?_⟩
        have s1 : Same H (upd H p (.tup [.ty "list", .ty "tuple"])) := same_new np
        refine ⟨.ref a, p, _, _, _, true, rfl, upd_same, .cons (.ty "list") (.cons (.ty "tuple") .nil), .base (.lst (s1 _ _ h1)), kitAny_cons (b := true) (kit_ty (by decide +kernel)) (fun h => by cases h) (fun _ => rfl), _, rfl, iteF ?_⟩
        refine ⟨.ref a, rfl, a, _, rfl, .inl (sqlOf (s1 _ _ h1)), .ref b, rfl, b, _, rfl, .inl (sqlOf (s1 _ _ h2)), rfl, _, rfl, ite2 (fun e => ?_) (fun _ => ?_)⟩
        · rw [hl] at e
          simp at e
        refine ⟨.ref a, rfl, .ref b, rfl, a, b, xs, ys, rfl, .inl ⟨(sqlOf (s1 _ _ h1)), (sqlOf (s1 _ _ h2)), for_it (walk_zip (K := K) (a := a) (b := b) (xs := xs) (ys := ys) (n := xs.length) (by omega)) (fun i σ H' => ∃ y2 y3, σ = [some (.ref a), some (.ref b), y2, y3] ∧ Same H H') ⟨none, none, rfl, s1⟩ (fun i σ H' _ h' => ?_) (fun i x σ H1 H' hi h' hy => ?_) (fun σ H' h' => ?_)⟩⟩
        · obtain ⟨y2, y3, rfl, sm⟩ := h'
          exact ⟨(sqlOf (sm _ _ h1)), (sqlOf (sm _ _ h2))⟩
        · obtain ⟨y2, y3, rfl, sm⟩ := h'
          obtain ⟨T, x1, x2, rfl, nT, rfl, e1, e2⟩ := hy
          have sm2 := sm.trans (same_new (o := .tup [x1, x2]) nT)
          refine ⟨T, _, rfl, .inl (.inl upd_same), rfl, _, _, rfl, _, _, rfl, rfl, x1, rfl, x2, rfl, x1, x2, rfl, (h i x1 x2 e1 e2).same sm2, fun H3 s3 => ⟨true, rfl, iteF ⟨_, _, rfl, sm2.trans s3⟩⟩⟩
        · obtain ⟨y2, y3, rfl, sm⟩ := h'
          exact q _ sm
end
end NH
set_option Elab.async false
set_option linter.all false
set_option maxRecDepth 100000
namespace NH
open PySem PySem.Spec PyProof.Rows L2 R1 ZN
theorem dI_dZ (D : Ts) : dI (D.map fun q => (q.1, V.int q.2)) = dZ D := by
  show HO.dT _ = HO.dT _
  rw [List.map_map]
  rfl
section
variable {P : Program} {w : World} {K : PySem.W.Frag} {mg : Str → Option Value} {base : Heap}
/-! ### written -/
def spWritten : Sp := fun vs H Q _ => ∃ (d : Addr) (m : Nat) (D : Ts), vs = [.ref d] ∧ DictAt H d m D ∧ 0 < m ∧ D.length ≤ 500 ∧
  ∀ H' (t : Addr) (L : List Trm), Same H H' → H t = none → SumAt H' t L → Norm D (L.map Trm.d) → L.length ≤ D.length → Q (.ref t) H'
abbrev nmWritten : List Str := ["_law_terms_here", "_law_powers"]
theorem scWritten : FnScope nmWritten ["_law_terms_here"] (defScope sWritten) := ⟨rfl, rfl, rfl, by decide +kernel, rfl, by decide +kernel, by decide +kernel⟩
theorem ok_written {f : Addr} {fd : FuncData} {k : Nat} (F : Fun K "_law_written" "_law_written" sWritten f fd) (mt : mg "tuple" = none) (mo : mg "sorted" = none) : FnOk P w K mg base CX0 (k + 1) f fd ["_law_terms_here"] spWritten := by
  refine F.ok scWritten (fun vs H Q E h => ?_) (fun cdv A outer s H vs Q E hr h => ?_)
  · obtain ⟨d, m, D, rfl, _⟩ := h
    rfl
  · obtain ⟨d, m, T, rfl, hT, hm0, hTl, q⟩ := h
    have hu := hu_of hr
    refine ⟨_, pss_one (ps_ret (pe_callTy call_tuple_of (by rfl) mt (by decide +kernel) (pa_cons (pe_lc (own := [("_law_powers", 1)]) (g := gName 1) (tt := tTest (tOp rNe (tDGet (tVar 0) (tVar 1)) (tC (.int 0)))) (by rfl) scWritten.nd (pi_list (pe_callB (cr_sortedDT rfl) (by rfl) mo (by decide +kernel) (pa_cons (pv 0) pa_nil))) (blkOk_by (own := [("_law_powers", 1)]) (N := nmWritten) (sc := defScope sWritten) (by decide +kernel))
        (fun _ _ _ _ _ => pg_name (i := 1) scWritten.nd rfl (.inl rfl)) (fun _ _ _ _ _ => pts_one (pt_cmpR op_ne (pe_dget hu (pv 0) (pv 1) (fun _ _ => rfl)) pe_int (nomark _)))
        (fun _ _ _ _ _ => pe_tup (pa_cons (pv 1) (pa_cons (pe_dget hu (pv 0) (pv 1) (fun _ _ => rfl)) pa_nil)))) pa_nil))), ?_⟩
    refine ⟨.ref d, rfl, d, T.map fun q => (q.1, V.int q.2), rfl, .inl (by rw [dI_dZ]; exact hT.at_), (fun p hp => ?_), fun ks p perm srt kt np => ?_⟩
    · obtain ⟨q1, hq, rfl⟩ := List.mem_map.mp hp
      intro z
      have := hT.len q1 hq
      have z : q1.1 = [] := z
      rw [z] at this
      simp at this
      omega
    have perm2 : (ks.map (·.2)).Perm (T.map (·.1)) := by
      rw [List.map_map] at perm
      exact perm
    have s1 : Same H (upd H p (.lst (ks.map fun q => V.ref q.1))) := same_new np
    refine ⟨p, rfl, ⟨_, sqlOf upd_same⟩, fun E nE => ?_⟩
    have hp1 : upd H p (.lst (ks.map fun q => V.ref q.1)) p = some (.lst (ks.map fun q => V.ref q.1)) := upd_same
    have pE : p ≠ E := ne_of_none hp1 nE
    have kl : ks.length = T.length := by
      have := perm2.length_eq
      rw [List.length_map, List.length_map] at this
      exact this
    -- a key with its coefficient
    let tk : Addr × List Int → List Int × Int := fun g => (g.2, val T g.2)
    have htk : ∀ g ∈ ks, (g.2, val T g.2) ∈ T := fun g hg => by
      have : g.2 ∈ T.map (·.1) := perm2.mem_iff.mp (List.mem_map_of_mem hg)
      obtain ⟨q1, hq, e⟩ := List.mem_map.mp this
      have : getO T g.2 = some q1.2 := (getO_mem hT.nodup).mpr (by rw [← e]; exact hq)
      have e2 : (g.2, val T g.2) = q1 := by
        unfold val
        rw [this, ← e]
        rfl
      rw [e2]
      exact hq
    refine lc_list (xs := ks.map fun q => V.ref q.1) (fun i H' => ∃ L : List Trm, H' E = some (.lst (L.map Trm.v)) ∧ RowsOk H' L ∧ L.map Trm.d = ((ks.map tk).take i).filter nz ∧ But E (upd H p (.lst (ks.map fun q => V.ref q.1))) H') ⟨[], upd_same, (fun r h => by cases h), by simp, But.start⟩ (fun i H' _ h => ?_) (fun i x H1 hx h => ?_) (fun H1 h => ?_)
    · obtain ⟨_, _, _, _, kp⟩ := h
      exact sqlOf (kp p _ pE hp1)
    · obtain ⟨L, hE, ho, ed, kp⟩ := h
      rw [List.getElem?_map] at hx
      obtain ⟨g, hg, rfl⟩ := Option.map_eq_some_iff.mp hx
      have hgm := List.mem_of_getElem? hg
      have up : ∀ {b o}, H b = some o → H1 b = some o := fun {b o} e => kp.at_ nE (s1 _ _ e)
      have hgk : H1 g.1 = some (.tup (g.2.map V.int)) := up (kt g hgm)
      have hf1 : (ks.map tk)[i]? = some (g.2, val T g.2) := by
        rw [List.getElem?_map, hg]
        rfl
      have hget : DGet H1 d (.ref g.1) (some (.int (val T g.2))) := by
        have := DictAt.get (D := T) (k := g.2) (m := m) (.inl (up hT.at_)) hgk
        rw [(getO_mem hT.nodup).mpr (htk g hgm)] at this
        exact this
      refine ⟨rfl, .ref d, rfl, .ref g.1, rfl, d, .int (val T g.2), rfl, hget, rfl, _, rfl, ?_⟩
      by_cases hz : val T g.2 = 0
      · rw [hz]
        exact iteF ⟨L, hE, ho, by rw [filter_step hf1, if_pos hz, List.append_nil]; exact ed, kp⟩
      · have : (!decide (V.int (val T g.2) = V.int 0)) = true := by simp [hz]
        rw [this]
        refine iteT ⟨.ref g.1, rfl, .ref d, rfl, .ref g.1, rfl, d, .int (val T g.2), rfl, hget, size2', fun t nt => ?_⟩
        have sm : Same H1 (upd H1 t (.tup [.ref g.1, .int (val T g.2)])) := same_new nt
        obtain ⟨g1, g2⟩ := rows_step (D := E) (t := t) (p := g.1) (ns := g.2) (c := val T g.2) (sm _ _ hE) (ho.keep (same_keepT sm)) upd_same (sm _ _ hgk)
        refine ⟨_, sm _ _ hE, ?_, _, g1, g2, ?_, kp.step sm⟩
        · have := rows_len ed
          have h2 := List.length_filter_le nz ((ks.map tk).take i)
          rw [List.length_take, List.length_map] at h2
          rw [List.length_map, sizeLine_eq]
          omega
        · rw [filter_step hf1, if_neg hz, List.map_append, ed]
          rfl
    · obtain ⟨L, hE, ho, ed, kp⟩ := h
      rw [List.take_of_length_le (by rw [List.length_map, List.length_map]; exact Nat.le_refl _)] at ed
      have sm : Same H H1 := fun b o e => kp.at_ nE (s1 _ _ e)
      refine ⟨E, _, rfl, .inl ⟨sqlOf hE, fun t nt => ?_⟩⟩
      have sm2 := sm.trans (same_new (o := .tup (L.map Trm.v)) nt)
      refine q _ t L sm2 (sm.free nt) ⟨upd_same, ho.keep (same_keepT (same_new nt))⟩ ?_ ?_
      · refine norm_of (m := m) hT.nodup hT.len ?_ ?_
        · have e0 : (ks.map tk).Perm T := by
            have nd1 : (ks.map tk).Nodup := by
              have : ((ks.map tk).map (·.1)).Nodup := by
                rw [List.map_map]
                exact perm2.nodup_iff.mpr hT.nodup
              exact List.Pairwise.imp (fun {a b} h e => h (by rw [e])) (List.pairwise_map.mp this)
            have nd2 : T.Nodup := List.Pairwise.imp (fun {a b} h e => h (by rw [e])) (List.pairwise_map.mp hT.nodup)
            refine (List.perm_ext_iff_of_nodup nd1 nd2).mpr fun q1 => ⟨fun h => ?_, fun h => ?_⟩
            · obtain ⟨g, hg, rfl⟩ := List.mem_map.mp h
              exact htk g hg
            · have : q1.1 ∈ ks.map (·.2) := perm2.mem_iff.mpr (List.mem_map_of_mem h)
              obtain ⟨g, hg, e⟩ := List.mem_map.mp this
              refine List.mem_map.mpr ⟨g, hg, ?_⟩
              show (g.2, val T g.2) = q1
              unfold val
              rw [e, (getO_mem (k := q1.1) (v := q1.2) hT.nodup).mpr h]
              rfl
          rw [ed]
          exact e0.filter _
        · rw [ed]
          refine List.Pairwise.sublist List.filter_sublist ?_
          rw [List.pairwise_map]
          exact srt
      · have h1 := rows_len ed
        have h2 := List.length_filter_le nz (ks.map tk)
        rw [List.length_map] at h2
        omega
end
end NH
set_option Elab.async false
set_option linter.all false
set_option maxRecDepth 100000
set_option maxHeartbeats 1000000
set_option exponentiation.threshold 100000
namespace NH
open PySem PySem.Spec PyProof.Rows L2 R1 ZN
theorem pow_bits {b : Int} {E : Nat} (h : b.natAbs < 2 ^ E) (r : Nat) : (b ^ r).natAbs < 2 ^ (E * r + 1) := by
  rw [Int.natAbs_pow]
  have h1 : b.natAbs ^ r ≤ (2 ^ E) ^ r := Nat.pow_le_pow_left (Nat.le_of_lt h) r
  rw [← Nat.pow_mul] at h1
  exact Nat.lt_of_le_of_lt h1 (Nat.pow_lt_pow_right (by decide) (Nat.lt_succ_self _))
def slotN (i : Nat) (σ : L2.St) : Nat := match σ[i]? with | some (some (V.int y)) => y.toNat | _ => 0
section
variable {P : Program} {w : World} {K : PySem.W.Frag} {mg : Str → Option Value} {base : Heap} {f : Nat → Addr} {d : Nat → FuncData}
def spWP : Sp := fun vs H Q _ => ∃ (b : Int) (n E : Nat), vs = [.int b, .int (n : Nat)] ∧ b.natAbs < 2 ^ E ∧ E ≤ 200 ∧ n ≤ 100 ∧ Q (.int (b ^ n)) H
theorem ok_wp {k : Nat} (D : Defs K mg f d) : FnOk P w K mg base CX0 (k + 1) (f i_whole_power) (d i_whole_power) ["base", "times"] spWP := by
  refine D.F_whole_power.ok sc_whole_power (fun vs H Q E h => ?_) (fun cdv A outer s H vs Q E hr h => ?_)
  · obtain ⟨b, n, E, rfl, _⟩ := h
    rfl
  · obtain ⟨b, n, E, rfl, hb, hE, hn, q⟩ := h
    have nd := sc_whole_power.nd
    refine ⟨_, pss_cons (ps_set (i := 2) nd rfl (.inl rfl) (pe_int))
      (pss_cons (ps_while PassesOwn.never (pt_truth (pv 1) (by intro _; rfl))
        (Evl.pss_cut (ps_if (pt_truth (pe_op op_andM (pv 1) pe_int) (by intro _; rfl))
            (pss_one (ps_set (i := 2) nd rfl (.inl rfl) (pe_op op_mulX (pv 2) (pv 0))))
            pss_nil)
          (pss_cons (ps_set (i := 0) nd rfl (.inl rfl) (pe_op op_mulX (pv 0) (pv 0)))
          (pss_one (ps_set (i := 1) nd rfl (.inl rfl) (pe_op op_shr (pv 1) pe_int))))))
      (pss_one (ps_ret (pv 2)))), ?_⟩
    dsimp only [gName, tSeq, tAsg]
    have bits : ∀ {i : Nat}, i ≤ 200 → (b ^ i).natAbs < 2 ^ 40001 := fun {i} hi => Nat.lt_of_lt_of_le (pow_bits hb i) (Nat.pow_le_pow_right (by decide) (by
      have : E * i ≤ 200 * 200 := Nat.mul_le_mul hE hi
      omega))
    have mok : ∀ {i j : Nat}, i ≤ 200 → j ≤ 200 → CMulX (b ^ i) (b ^ j) := fun {i j} hi hj => mulx (bits hi) (bits hj) (by decide)
    rw [show tC = fun v σ H Q => Q v H from rfl]
    refine while_by (fun σ H' => ∃ r s m : Nat, σ = [some (.int (b ^ s)), some (.int (m : Nat)), some (.int (b ^ r))] ∧ H' = H ∧ r + s * m = n ∧ r ≤ n ∧ (m = 0 ∨ s ≤ n)) (fun σ _ => slotN 1 σ) ⟨0, 1, n, by rw [Int.pow_zero, Int.pow_one]; rfl, rfl, by omega, by omega, by omega⟩ (fun σ H' h => ?_) (fun σ H Q Q' hq h => ?_)
    · obtain ⟨r, s, m, rfl, rfl, e, hrn, hs⟩ := h
      refine ⟨.int (m : Nat), rfl, _, rfl, ite2 (fun e0 => ?_) (fun e0 => ?_)⟩
      · have hm : m ≠ 0 := fun z => by subst z; exact absurd e0 (by decide)
        have hs' : s ≤ n := by omega
        have odd : (((m : Nat) : Int) % 2 ^ 1) = ((m % 2 : Nat) : Int) := by omega
        have half : (((m : Nat) : Int) / 2 ^ (1 : Int).toNat) = ((m / 2 : Nat) : Int) := by
          show ((m : Nat) : Int) / 2 = _
          omega
        refine ⟨fun σ' H2 => ∃ r' : Nat, σ' = [some (.int (b ^ s)), some (.int (m : Nat)), some (.int (b ^ r'))] ∧ H2 = H' ∧ r' + 2 * s * (m / 2) = n ∧ r' ≤ n, ?_, ?_⟩
        · refine ⟨.int (m : Nat), rfl, _, 1, rfl, rfl, _, rfl, ite2 (fun e1 => ?_) (fun e1 => ?_)⟩
          · rw [odd] at e1
            have h1 : m % 2 = 1 := by
              have : m % 2 ≠ 0 := fun z => by rw [z] at e1; exact absurd e1 (by decide)
              omega
            have hmm : m = 2 * (m / 2) + 1 := by omega
            have hx : r + s + 2 * s * (m / 2) = n := by
              have : s * m = s * (2 * (m / 2) + 1) := by rw [← hmm]
              rw [Nat.mul_add, Nat.mul_one, ← Nat.mul_assoc, Nat.mul_comm s 2] at this
              omega
            refine ⟨_, rfl, _, rfl, _, _, rfl, rfl, mok (by omega) (by omega), r + s, ?_, rfl, hx, ?_⟩
            · rw [Int.pow_add]
              rfl
            · exact Nat.le_trans (Nat.le_add_right _ _) (Nat.le_of_eq hx)
          · rw [odd] at e1
            have h0 : m % 2 = 0 := by
              have : ¬ (m % 2 = 1) := fun z => e1 (by rw [z]; rfl)
              omega
            have hmm : m = 2 * (m / 2) := by omega
            refine ⟨r, rfl, rfl, ?_, hrn⟩
            have : s * m = s * (2 * (m / 2)) := by rw [← hmm]
            rw [← Nat.mul_assoc, Nat.mul_comm s 2] at this
            omega
        · rintro σ' H2 ⟨r', rfl, rfl, e2, hr'⟩
          refine ⟨_, rfl, _, rfl, _, _, rfl, rfl, mok (by omega) (by omega), ?_⟩
          refine ⟨_, rfl, _, _, rfl, rfl, (by show (0 : Int) ≤ 1; decide), ?_⟩
          dsimp only [gName]
          rw [half]
          refine ⟨⟨r', 2 * s, m / 2, ?_, rfl, e2, hr', ?_⟩, ?_⟩
          · rw [Nat.two_mul, Int.pow_add]
            rfl
          · by_cases z : m / 2 = 0
            · exact .inl z
            · right
              have : 2 * s * 1 ≤ 2 * s * (m / 2) := Nat.mul_le_mul_left _ (by omega)
              omega
          · show (((m / 2 : Nat) : Int)).toNat < (((m : Nat) : Int)).toNat
            omega
      · have hm : m = 0 := by
          by_cases z : m = 0
          · exact z
          · exact absurd (by simp; omega) e0
        subst hm
        have : r = n := by omega
        subst this
        exact ⟨_, rfl, q⟩
    · obtain ⟨v, e, kk, hk, q⟩ := h
      exact ⟨v, e, kk, hk, hq _ _ q⟩
end
end NH
set_option Elab.async false
set_option linter.all false
set_option maxRecDepth 100000
set_option maxHeartbeats 1000000
namespace RS
open PySem PySem.Spec PyProof.Rows L2
theorem getD_ints {ns : List Int} {i : Nat} (h : i < ns.length) : ns.getD i 0 = ns[i] := by rw [List.getD_eq_getElem?_getD, List.getElem?_eq_getElem h] <;> rfl
/-- max(d) of a dict with keys of ints -/
def rMaxK : List V → Hp → VK → Prop := fun xs H Q => ∃ (a : Addr) (kvs : List (Key × V)) (ns : List Int), xs = [.ref a] ∧ Rd H a (.dK kvs) ∧ kvs.map (·.1) = ns.map Sum.inl ∧ 0 < ns.length ∧ ∀ m, m ∈ ns → (∀ y, y ∈ ns → y ≤ m) → Q (.int m) H
theorem cr_maxK {X : Cx} (hc : X.calm = true) : CallR X (.builtin "max") rMaxK := by
  intro pins s σ H xs us Q I rx h
  obtain ⟨a, kvs, ns, rfl, hd, hks, hne, q⟩ := h
  rw [Vals.ref1 rx]
  obtain ⟨z, lo, vs, rel, dd⟩ := dk_rd I.hok hd
  obtain ⟨ep, hat⟩ := dd.dictAt
  have hkeys : vs.map (·.1) = ns.map Sum.inl := rel.keys.symm.trans hks
  have hl : vs.length = ns.length := by
    have e := congrArg List.length hkeys
    rw [List.length_map, List.length_map] at e
    exact e
  have src := PySem.W.kdl_dict (prog := X.prog) (w := X.w) (knd := mixKind X.prog X.w) (kvs := vs) (ep := ep) lo
  obtain ⟨oI, St, it, W, st⟩ := src.iter X.A.in1 s (show X.A.in1.handled = none from I.ok.hd hc) hat
  have ha : a < s.heap.objs.size := hat.lt_size
  have hval : ∀ i v, (∃ k x, vs[i]? = some (k, x) ∧ (mixKind X.prog X.w).is k v = true) → ∃ t, v = .int (ns.getD i 0) t := fun i v ⟨k, x, e1, e2⟩ => by
    have hi : i < vs.length := (List.getElem?_eq_some_iff.mp e1).1
    have e3 : (vs.map (·.1))[i]? = some k := by rw [List.getElem?_map, e1] <;> rfl
    rw [hkeys, List.getElem?_map, List.getElem?_eq_getElem (by omega)] at e3
    have e4 : (Sum.inl ns[i] : Key) = k := Option.some.inj e3
    subst e4
    rcases keyIs_shape (show keyIs (Sum.inl ns[i]) v = true from e2) with ⟨j, t, ek, ev⟩ | ⟨j, t, ek, ev⟩
    · cases ek
      exact ⟨t, by rw [getD_ints (by omega)]; exact ev⟩
    · cases ek
  refine call_max_walk (it _ _ ?_)
  refine ⟨s.heap.objs.size, [s.heap.objs.size, a], [s.heap.objs.size], vs.length, _, St, fun i j => decide (ns.getD i 0 > ns.getD j 0), rfl, W, st, fun b hb => ?_, by omega, CmpOf.ints_gt (fun i => ns.getD i 0) hval, fun v h' tk hv' hk => ?_⟩
  · show b < (s.heap.push _).objs.size
    rw [size_push']
    rcases List.mem_cons.mp hb with z | z
    · rw [z]
      exact Nat.lt_succ_self _
    · rw [List.mem_singleton.mp z]
      exact Nat.lt_succ_of_lt ha
  · obtain ⟨t, rfl⟩ := hval _ _ hv'
    obtain ⟨m1', m2'⟩ := argBest_gt (fun i => ns.getD i 0) (vs.length - 1)
    have m1 : argBest (fun i j => decide (ns.getD i 0 > ns.getD j 0)) (vs.length - 1) ≤ vs.length - 1 := m1'
    have m2 : ∀ j, j ≤ vs.length - 1 → ns.getD j 0 ≤ ns.getD (argBest (fun i j => decide (ns.getD i 0 > ns.getD j 0)) (vs.length - 1)) 0 := m2'
    have hk2 : ∀ b o, s.heap.get? b = some o → h'.get? b = some o := fun b o e => hk b o (fun z => by rw [List.mem_singleton.mp z] at e; exact absurd (Heap.lt_size e) (Nat.lt_irrefl _)) (Heap.get?_push_of_some _ e)
    refine ⟨.int _, H, I.kept (t' := tk) hk2, ⟨t, rfl⟩, q _ (PySem.getD_mem (by omega)) fun y hy => ?_⟩
    obtain ⟨j, hj, e⟩ := List.mem_iff_getElem.mp hy
    have z := m2 j (by omega)
    rw [getD_ints hj, e] at z
    exact z
/-- sorted(d, reverse=True) of a dict with keys of ints -/
def rSortedRevK : List V → List V → Hp → VK → Prop := fun vs zs H Q => ∃ (a : Addr) (kvs : List (Key × V)) (ns : List Int), vs = [.ref a] ∧ zs = [.bl true] ∧ Rd H a (.dK kvs) ∧ kvs.map (·.1) = ns.map Sum.inl ∧
  ∀ (ys : List Int) (p : Addr), ys.Perm ns → ys.Pairwise (· ≥ ·) → H p = none → Q (.ref p) (upd H p (.lst (ys.map V.int)))
theorem cr_sortedRevK {X : Cx} (hcalm : X.calm = true) : CallRK X (.builtin "sorted") [Str.ofString "reverse"] rSortedRevK := by
  intro pins s σ H xs zs us ws Q I r rz q
  obtain ⟨a, kvs, ks, rfl, rfl, hd, hks, q⟩ := q
  rw [Vals.ref1 r]
  obtain ⟨w1, rfl, e1⟩ := vals1 rz
  obtain rfl : w1 = Value.bool true := e1
  obtain ⟨z, lo, vs, rel, dd⟩ := dk_rd I.hok hd
  obtain ⟨ep, hat⟩ := dd.dictAt
  have hkeys : vs.map (·.1) = ks.map Sum.inl := rel.keys.symm.trans hks
  have hl : vs.length = ks.length := by
    have e := congrArg List.length hkeys
    rw [List.length_map, List.length_map] at e
    exact e
  have h16 : vs.length ≤ sizeLine := by
    have : kvs.length = vs.length := Paired.length rel
    omega
  refine call_function_entry_kw kind_sorted plain_sorted entry_sorted (PyProof.Rows.args_sorted_rev _ _) ?_
  unfold Builtin.«sorted»
  refine wpAny_bind (m := checkCount "sorted" 1 1 _) (wpAny_pure ?_)
  refine wpAny_bind (PySem.W.kdu_collect (A := X.A.in1) (PySem.W.kdl_dict (knd := mixKind X.prog X.w) (kvs := vs) (ep := ep) lo) (I.ok.hd hcalm) hat h16 fun h' tk acc hk hacc => ?_)
  have hal : acc.toList.length = ks.length := by rw [Array.length_toList, hacc.1, hl]
  have hS : IntsAre acc.toList ks := ints_each hal fun j v e => by
    obtain ⟨k, x, e1, e2⟩ := hacc.2 j v (by rw [← Array.getElem?_toList]; exact e)
    have e3 : (vs.map (·.1))[j]? = some k := by rw [List.getElem?_map, e1]; rfl
    rw [hkeys, List.getElem?_map] at e3
    cases e4 : ks[j]? with
    | none => rw [e4] at e3; cases e3
    | some y =>
      rw [e4] at e3
      have e5 : Sum.inl y = k := Option.some.inj e3
      subst e5
      rcases keyIs_shape (show keyIs (Sum.inl y) v = true from e2) with ⟨i, t, ek, ev⟩ | ⟨z, t, ek, ev⟩
      · cases ek
        exact ⟨y, t, rfl, ev⟩
      · cases ek
  have I1 : Inv X pins σ H { s with heap := h', toks := tk } := I.kept hk
  have hz : acc.toList.length ≤ sizeLine := by omega
  refine wpAny_bind (wpAny_newList ?_ hz)
  have hoL : (h'.push (seqObj "list" acc.toList.toArray 0)).get? h'.objs.size = some (seqObj "list" acc.toList.toArray 0) := Heap.get?_push_size _ rfl
  show wpAny _ _ _ _ _ { s with heap := h'.push (seqObj "list" acc.toList.toArray 0), toks := tk }
  refine wpAny_bind (wpAny_holding (wpAny_call_entry_kw slot_list_sort ⟨_, hoL, rfl⟩ entry_list_sort ?_ (PyProof.Rows.args_list_sort_rev _ _)))
  refine SrtR.list_sort_ordR (b := true) SrtO.swo_int hoL hz (fun h2 => SrtO.ints_sortable hS h2) fun out hs hb => ⟨_, rfl, ?_⟩
  obtain ⟨ns', k1, k2, k3⟩ := SrtR.ints_outR hS hs hb
  obtain ⟨e', he'⟩ := PyProof.Rows.sortedHeap_at (vs := acc.toList) (out := if true = true then out.toArray.reverse else out.toArray) hoL
  have hlen : (ns'.map V.int).length ≤ sizeLine := by
    rw [List.length_map, k2.length_eq]
    omega
  refine wpAny_pure ⟨_, rfl, .ref h'.objs.size, upd H h'.objs.size (.lst (ns'.map V.int)), I1.laid (t' := tk) (fun b u e => ?_) (Nat.le_refl _)
    (show ObjOk X.prog X.w _ _ _ (.lst (ns'.map V.int)) from ⟨hlen, _, e', vals_of_ints k1, by rw [Array.toArray_toList]; exact he'⟩), rfl, q ns' _ k2 k3 (I1.hok.fresh (Nat.le_refl _))⟩
  have hb : b < h'.objs.size := Heap.lt_size e
  rw [PyProof.Rows.sortedHeap_old (Nat.ne_of_lt hb) (by rw [size_push']; exact Nat.lt_succ_of_lt hb)]
  exact Heap.get?_push_of_some _ e
section
variable {J : It} {n : Nat} {G : Hp → Prop} {Y : Nat → Hp → V → Hp → Prop}
/-- a dict comprehension over it: Pv by the turn and the heap (the new dict at D within) -/
theorem dc_it (w : Walk J n G Y) {g : TG} {tt : TT} {tk tv : TE} {vs : List Nat} {σ : L2.St} {H1 : Hp} {D : Addr} {Qd : Hp → Prop} (Pv : Nat → Hp → Prop) (h0 : Pv 0 (upd H1 D (.dK []))) (hG : ∀ i H, i ≤ n → Pv i H → G H)
    (hs : ∀ i x H H', i < n → Pv i H → Y i H x H' → g x (wipe σ vs) H' fun σ2 H2 => wipe σ2 vs = wipe σ vs ∧ tt σ2 H2 fun b H3 =>
      if b = true then tk σ2 H3 fun y H4 => tv σ2 H4 fun z H5 => ∃ kvs k, y = kV k ∧ H5 D = some (.dK kvs) ∧ kvs.length < sizeLine ∧ Pv (i + 1) (upd H5 D (.dK (putK kvs k z))) else Pv (i + 1) H3) (hd : ∀ H, Pv n H → Qd H) :
    ∃ W : Nat → Nat → Hp → Prop, (∃ m, W 0 m (upd H1 D (.dK []))) ∧ ∀ i m H, W i m H →
      (J.stop i H ∧ Qd H) ∨ (J.go i H ∧ ∃ Nx : Hp → Prop, (∀ H', Nx H' → ∃ m', m' < m ∧ W (i + 1) m' H') ∧ ∀ x H', J.yld i H x H' → g x (wipe σ vs) H' fun σ2 H2 => wipe σ2 vs = wipe σ vs ∧ tt σ2 H2 fun b H3 =>
        if b = true then tk σ2 H3 fun y H4 => tv σ2 H4 fun z H5 => ∃ kvs k, y = kV k ∧ H5 D = some (.dK kvs) ∧ kvs.length < sizeLine ∧ Nx (upd H5 D (.dK (putK kvs k z))) else Nx H3) := by
  refine ⟨fun i m H => m = n - i ∧ i ≤ n ∧ Pv i H, ⟨n, by simp, Nat.zero_le _, h0⟩, ?_⟩
  rintro i m H ⟨rfl, hi, p⟩
  have q := hG i H hi p
  by_cases hlt : i < n
  · exact .inr ⟨w.goes i H hlt q, Pv (i + 1), fun H' p' => ⟨n - (i + 1), by omega, rfl, hlt, p'⟩, fun x H' y => hs i x H H' hlt p (w.yields i H x H' hlt q y)⟩
  · have e : i = n := by omega
    subst e
    exact .inl ⟨w.stops H q, hd H p⟩
end
end RS
set_option Elab.async false
set_option linter.all false
set_option maxRecDepth 100000
namespace PK
open PySem PySem.Spec PyProof.Rows L2
/-! ### dicts of ints by ints, as data -/
abbrev Is := List (Int × Int)
def encI (q : Int × Int) : Key × V := (Sum.inl q.1, V.int q.2)
def getI (D : Is) (k : Int) : Option Int := (D.find? fun q => decide (q.1 = k)).map (·.2)
def setI (D : Is) (k : Int) (v : Int) : Is := if (D.any fun q => decide (q.1 = k)) = true then D.map (fun q => if q.1 = k then (q.1, v) else q) else D ++ [(k, v)]
theorem inl_inj {a b : Int} : (Sum.inl a : Key) = Sum.inl b ↔ a = b := ⟨fun h => by injection h, fun h => by rw [h]⟩
theorem valV_enc (k : Int) : ∀ D : Is, valV (D.map encI) (Sum.inl k) = (getI D k).map V.int
  | [] => rfl
  | q :: D => by
    by_cases e : q.1 = k
    · rw [List.map_cons, valV_pos (show (encI q).1 = Sum.inl k by rw [← e]; rfl)]
      simp [getI, List.find?_cons, e, encI]
    · rw [List.map_cons, valV_neg (show ¬ (encI q).1 = Sum.inl k from fun z => e (inl_inj.mp z)), valV_enc k D]
      simp [getI, List.find?_cons, e]
theorem putK_enc (k : Int) (v : Int) (D : Is) : putK (D.map encI) (Sum.inl k) (.int v) = (setI D k v).map encI := by
  have h1 : ((D.map encI).any fun kv => decide (kv.1 = (Sum.inl k : Key))) = (D.any fun q => decide (q.1 = k)) := by
    rw [List.any_map]
    congr 1
    funext q
    show decide ((Sum.inl q.1 : Key) = Sum.inl k) = decide (q.1 = k)
    exact decide_eq_decide.mpr inl_inj
  unfold putK setI
  rw [h1]
  split
  · rw [List.map_map, List.map_map]
    refine List.map_congr_left fun q _ => ?_
    show (if (Sum.inl q.1 : Key) = Sum.inl k then ((Sum.inl q.1 : Key), V.int v) else encI q) = encI (if q.1 = k then (q.1, v) else q)
    by_cases e : q.1 = k
    · rw [if_pos (inl_inj.mpr e), if_pos e]
      rfl
    · rw [if_neg (fun z => e (inl_inj.mp z)), if_neg e]
  · rw [List.map_append]
    rfl
theorem setI_mem {D : Is} {k : Int} {v : Int} {q : Int × Int} (h : q ∈ setI D k v) : (q ∈ D ∧ q.1 ≠ k) ∨ q = (k, v) := by
  unfold setI at h
  split at h
  · obtain ⟨p, hp, e⟩ := List.mem_map.mp h
    split at e
    · rename_i e2
      exact .inr (by rw [← e, e2])
    · rename_i e2
      exact .inl (e ▸ ⟨hp, e2⟩)
  · rename_i hn
    rcases List.mem_append.mp h with h | h
    · refine .inl ⟨h, fun e => hn ?_⟩
      exact List.any_eq_true.mpr ⟨q, h, decide_eq_true e⟩
    · exact .inr (List.mem_singleton.mp h)
theorem setI_len (D : Is) (k : Int) (v : Int) : (setI D k v).length ≤ D.length + 1 := by
  unfold setI
  split
  · rw [List.length_map]
    omega
  · rw [List.length_append]
    exact Nat.le_refl _
def NodI (D : Is) : Prop := (D.map (·.1)).Nodup
theorem setI_nodup {D : Is} (k : Int) (v : Int) (h : NodI D) : NodI (setI D k v) := by
  unfold NodI setI
  split
  · rw [List.map_map]
    have : ((·.1) ∘ fun q : Int × Int => if q.1 = k then (q.1, v) else q) = (·.1) := by
      funext q
      show (if q.1 = k then (q.1, v) else q).1 = q.1
      split <;> rfl
    rw [this]
    exact h
  · rename_i hn
    rw [List.map_append, List.nodup_append]
    refine ⟨h, by simp, fun a ha b hb e => hn ?_⟩
    obtain ⟨q, hq, rfl⟩ := List.mem_map.mp ha
    have : b = k := by simpa using hb
    exact List.any_eq_true.mpr ⟨q, hq, decide_eq_true (by rw [e, this])⟩
/-- a key that is new goes behind the others -/
theorem setI_new {D : Is} {k v : Int} (h : k ∉ D.map (·.1)) : setI D k v = D ++ [(k, v)] := by
  unfold setI
  rw [if_neg]
  intro z
  obtain ⟨q, hq, e⟩ := List.any_eq_true.mp z
  exact h (List.mem_map.mpr ⟨q, hq, of_decide_eq_true e⟩)
theorem getI_none {D : Is} {k : Int} (h : k ∉ D.map (·.1)) : getI D k = none := by
  unfold getI
  rw [List.find?_eq_none.mpr]
  · rfl
  · intro q hq e
    exact h (List.mem_map.mpr ⟨q, hq, of_decide_eq_true e⟩)
theorem getI_mem {k : Int} {v : Int} : ∀ {D : Is}, NodI D → (getI D k = some v ↔ (k, v) ∈ D)
  | [], _ => by simp [getI]
  | q :: D, h => by
    have h' := List.nodup_cons.mp h
    by_cases e : q.1 = k
    · have : getI (q :: D) k = some q.2 := by simp [getI, List.find?_cons, e]
      rw [this]
      constructor
      · intro z
        have z := Option.some.inj z
        have : q = (k, v) := by rw [← e, ← z]
        rw [this]
        exact List.mem_cons_self
      · intro z
        rcases List.mem_cons.mp z with z | z
        · rw [← z]
        · exact absurd (List.mem_map.mpr ⟨_, z, e.symm⟩) h'.1
    · have : getI (q :: D) k = getI D k := by simp [getI, List.find?_cons, e]
      rw [this, getI_mem h'.2]
      constructor
      · exact fun z => List.mem_cons_of_mem _ z
      · intro z
        rcases List.mem_cons.mp z with z | z
        · exact absurd (by rw [← z]) e
        · exact z
theorem getI_set (D : Is) (k j : Int) (v : Int) : getI (setI D k v) j = if j = k then some v else getI D j := by
  have h := valV_put (D.map encI) (Sum.inl k) (Sum.inl j) (.int v)
  rw [putK_enc, valV_enc, valV_enc] at h
  by_cases e : j = k
  · rw [if_pos (inl_inj.mpr e)] at h
    rw [if_pos e]
    cases q : getI (setI D k v) j with
    | none => rw [q] at h; cases h
    | some x =>
      rw [q] at h
      have := Option.some.inj h
      injection this with this
      rw [this]
  · rw [if_neg (fun z => e (inl_inj.mp z))] at h
    rw [if_neg e]
    cases q : getI (setI D k v) j with
    | none =>
      rw [q] at h
      cases q2 : getI D j with
      | none => rfl
      | some x => rw [q2] at h; cases h
    | some x =>
      rw [q] at h
      cases q2 : getI D j with
      | none => rw [q2] at h; cases h
      | some y =>
        rw [q2] at h
        have := Option.some.inj h
        injection this with this
        rw [this]
/-- the coefficient at a key, 0 where none stands -/
def vI (D : Is) (k : Int) : Int := (getI D k).getD 0
def addI (D : Is) (k : Int) (c : Int) : Is := setI D k (vI D k + c)
theorem vI_add (D : Is) (k j : Int) (c : Int) : vI (addI D k c) j = vI D j + if j = k then c else 0 := by
  unfold vI addI
  rw [getI_set]
  by_cases e : j = k
  · subst e
    simp [vI]
  · simp [e]
/-- all pairs of W added -/
def gath : Is → Is → Is
  | A, [] => A
  | A, q :: W => gath (addI A q.1 q.2) W
def totI (j : Int) : Is → Int
  | [] => 0
  | q :: W => (if j = q.1 then q.2 else 0) + totI j W
theorem vI_gath (j : Int) : ∀ (W A : Is), vI (gath A W) j = vI A j + totI j W
  | [], A => by simp [gath, totI]
  | q :: W, A => by
    rw [gath, vI_gath j W, vI_add, totI]
    omega
theorem gath_app : ∀ (V W A : Is), gath A (V ++ W) = gath (gath A V) W
  | [], _, _ => rfl
  | q :: V, W, A => gath_app V W (addI A q.1 q.2)
theorem gath_snoc (q : Int × Int) (W A : Is) : gath A (W ++ [q]) = addI (gath A W) q.1 q.2 := by
  rw [gath_app]
  rfl
theorem gath_nodup : ∀ (W A : Is), NodI A → NodI (gath A W)
  | [], _, h => h
  | q :: W, A, h => gath_nodup W _ (setI_nodup _ _ h)
theorem gath_len : ∀ (W A : Is), (gath A W).length ≤ A.length + W.length
  | [], _ => Nat.le_refl _
  | q :: W, A => by
    have := gath_len W (addI A q.1 q.2)
    have h2 := setI_len A q.1 (vI A q.1 + q.2)
    rw [gath]
    show _ ≤ A.length + (W.length + 1)
    unfold addI at this
    unfold addI
    omega
theorem totI_app (j : Int) : ∀ V W : Is, totI j (V ++ W) = totI j V + totI j W
  | [], W => by simp [totI]
  | q :: V, W => by
    rw [List.cons_append, totI, totI, totI_app j V W]
    omega
theorem vI_tot : ∀ {D : Is}, NodI D → ∀ j, vI D j = totI j D
  | [], _, _ => rfl
  | q :: D, h, j => by
    have h' := List.nodup_cons.mp h
    rw [totI, ← vI_tot h'.2]
    unfold vI
    by_cases e : q.1 = j
    · rw [if_pos e.symm]
      have n : getI D j = none := getI_none (by rw [← e]; exact h'.1)
      rw [n]
      simp [getI, List.find?_cons, e]
    · rw [if_neg (fun z => e z.symm)]
      simp [getI, List.find?_cons, e]
def nzI (q : Int × Int) : Bool := decide (q.2 ≠ 0)
theorem nodI_filter {D : Is} (h : NodI D) : NodI (D.filter nzI) := by
  unfold NodI at h ⊢
  exact h.sublist (List.filter_sublist.map _)
theorem vI_filter {D : Is} (h : NodI D) (j : Int) : vI (D.filter nzI) j = vI D j := by
  rw [vI_tot (nodI_filter h), vI_tot h]
  clear h
  induction D with
  | nil => rfl
  | cons q D ih =>
    by_cases e : q.2 = 0
    · have : nzI q = false := by simp [nzI, e]
      rw [List.filter_cons, this, totI, e]
      simp [ih]
    · have : nzI q = true := by simp [nzI, e]
      rw [List.filter_cons, this]
      simp [totI, ih]
theorem filter_stepI {D : Is} {i : Nat} {q : Int × Int} (h : D[i]? = some q) : (D.take (i + 1)).filter nzI = (D.take i).filter nzI ++ if q.2 = 0 then [] else [q] := by
  rw [List.take_add_one, h, List.filter_append]
  congr 1
  show List.filter nzI [q] = _
  by_cases e : q.2 = 0
  · rw [if_pos e]
    simp [nzI, e]
  · rw [if_neg e]
    simp [nzI, e]
theorem nodup_at {D : Is} (h : NodI D) {i : Nat} {q : Int × Int} (e : D[i]? = some q) : q.1 ∉ (D.take i).map (·.1) := by
  intro z
  have hi : i < D.length := (List.getElem?_eq_some_iff.mp e).1
  have e2 : D = D.take i ++ q :: D.drop (i + 1) := by
    rw [← List.take_append_drop i D]
    congr 1
    · rw [List.take_append_drop]
    · rw [List.take_append_drop, List.drop_eq_getElem_cons hi, (List.getElem?_eq_some_iff.mp e).2]
  unfold NodI at h
  rw [e2, List.map_append, List.map_cons] at h
  have h3 := (List.nodup_append.mp h).2.2
  exact h3 _ z _ List.mem_cons_self rfl
theorem at_get {D : Is} (h : NodI D) {i : Nat} {q : Int × Int} (e : D[i]? = some q) : getI D q.1 = some q.2 := (getI_mem h).mpr (List.mem_of_getElem? e)
/-- a dict of ints by ints at d -/
structure IdAt (H : Hp) (d : Addr) (D : Is) : Prop where
  at_ : H d = some (.dK (D.map encI))
  nd : NodI D
theorem IdAt.same {H H' : Hp} {d : Addr} {D : Is} (h : IdAt H d D) (s : ∀ b o, H b = some o → H' b = some o) : IdAt H' d D := ⟨s _ _ h.at_, h.nd⟩
theorem dget {H : Hp} {d : Addr} {D : Is} {k : Int} (h : Rd H d (.dK (D.map encI))) : DGet H d (.int k) ((getI D k).map V.int) := .inl ⟨D.map encI, Sum.inl k, h, rfl, (valV_enc k D).symm⟩
theorem getD_int (o : Option Int) : (o.map V.int).getD (.int 0) = V.int (o.getD 0) := by cases o <;> rfl
end PK
set_option Elab.async false
set_option linter.all false
set_option maxRecDepth 100000
set_option maxHeartbeats 1000000
set_option exponentiation.threshold 100000
namespace NH
open PySem PySem.Spec PyProof.Rows L2 R1 ZN PK RS
theorem rdF {H : Hp} {d : Addr} {o : Obj} {kvs : List (Key × V)} (h : H d = some (.frz o (.dK kvs))) : Rd H d (.dK kvs) := .inr ⟨o, h⟩
theorem upd_id' {H : Hp} {d : Addr} {o : HO} (h : H d = some o) : upd H d o = H := by
  funext b
  by_cases e : b = d
  · rw [e, upd_same, h]
  · rw [upd_ne e]
theorem upd_upd' {H : Hp} {d : Addr} {o o' : HO} : upd (upd H d o) d o' = upd H d o' := by
  funext b
  by_cases e : b = d
  · rw [e, upd_same, upd_same]
  · rw [upd_ne e, upd_ne e, upd_ne e]
section
variable {P : Program} {w : World} {K : PySem.W.Frag} {mg : Str → Option Value} {base : Heap} {f : Nat → Addr} {d : Nat → FuncData}
def spPP : Sp := fun vs H Q _ => ∃ (a b : Addr) (A B : Is), vs = [.ref a, .ref b] ∧ IdAt H a A ∧ IdAt H b B ∧ A.length + B.length ≤ 10000 ∧
  ∀ H' (e : Addr), Same H H' → H e = none → IdAt H' e ((gath A B).filter nzI) → Q (.ref e) H'
theorem ok_pp {k : Nat} (D : Defs K mg f d) : FnOk P w K mg base CX0 (k + 1) (f i_packed_plus) (d i_packed_plus) ["one", "other"] spPP := by
  refine D.F_packed_plus.ok sc_packed_plus (fun vs H Q E h => ?_) (fun cdv A outer s H vs Q E hr h => ?_)
  · obtain ⟨a, b, A, B, rfl, _⟩ := h
    rfl
  · obtain ⟨a, b, A, B, rfl, hA, hB, hl, q⟩ := h
    have nd := sc_packed_plus.nd
    have hu := hu_of hr
    refine ⟨_, pss_cons (ps_set (i := 3) nd rfl (.inr rfl) (pe_lock (pe_dc (wi := iKeys (tVar 0)) (own := [("key", 2)]) (g := gName 2) (by rfl) nd (pi_keys (pv 0)) (blkOk_by (own := [("key", 2)]) (N := N_packed_plus) (sc := defScope s_packed_plus) (by decide +kernel))
          (fun _ _ _ _ _ => pg_name (i := 2) nd rfl (.inl rfl)) (fun _ _ _ _ _ => pts_nil) (fun _ _ _ _ _ => pv 2) (fun _ _ _ _ _ => pe_dget hu (pv 0) (pv 2) (fun _ _ => rfl)))))
      (pss_cons (ps_lock (ps_for PassesOwn.never rfl (pi_items (pv 1)) (pg_tup rfl (pgs_cons (pg_name (i := 2) nd rfl (.inl rfl)) (pgs_cons (pg_name (i := 4) nd rfl (.inl rfl)) pgs_nil)))
        (pss_one (ps_dput hu (pv 3) (pv 2) (pe_op op_add (pe_dget2 hu (pv 3) (pv 2) pe_int ⟨rfl, rfl, rfl, rfl⟩) (pv 4)) rfl))))
      (pss_one (ps_ret (pe_lock (pe_dc (wi := iKeys (tVar 3)) (own := [("key", 2)]) (g := gName 2) (tt := tTru K (tDGet (tVar 3) (tVar 2))) (by rfl) nd (pi_keys (pv 3)) (blkOk_by (own := [("key", 2)]) (N := N_packed_plus) (sc := defScope s_packed_plus) (by decide +kernel))
          (fun _ _ _ _ _ => pg_name (i := 2) nd rfl (.inl rfl)) (fun _ _ _ _ _ => pts_one (pt_truth (pe_dget hu (pv 3) (pv 2) (fun _ _ => rfl)) (by intro _; rfl))) (fun _ _ _ _ _ => pv 2) (fun _ _ _ _ _ => pe_dget hu (pv 3) (pv 2) (fun _ _ => rfl))))))), ?_⟩
    refine ⟨a, _, hA.at_, trivial, fun od => ?_⟩
    refine ⟨.ref a, rfl, a, od, rfl, .inl ⟨_, upd_same, fun e ne => ?_⟩⟩
    have ha0 : upd H a (.frz od (.dK (A.map encI))) a = some (.frz od (.dK (A.map encI))) := upd_same
    have ae : a ≠ e := ne_of_none ha0 ne
    refine dc_it (walk_keys (d := a) (o := od) (kvs := A.map encI)) (fun i H' => H' e = some (.dK ((A.take i).map encI)) ∧ But e (upd H a (.frz od (.dK (A.map encI)))) H') ⟨upd_same, But.start⟩ (fun i H' _ h => h.2 _ _ ae ha0) (fun i x H1 H2 hi h hy => ?_) (fun H1 h => ?_)
    · obtain ⟨rfl, k, v, e1, rfl⟩ := hy
      obtain ⟨p, hp, ep⟩ := Option.map_eq_some_iff.mp (by rw [List.getElem?_map] at e1; exact e1)
      cases ep
      have hAF := h.2 _ _ ae ha0
      refine ⟨rfl, .int p.1, rfl, .ref a, rfl, .int p.1, rfl, a, .int p.2, rfl, ?_, A.take i |>.map encI, Sum.inl p.1, rfl, h.1, ?_, ?_, h.2.step (Same.refl _)⟩
      · rw [show some (V.int p.2) = (getI A p.1).map V.int by rw [at_get hA.nd hp]; rfl]
        exact dget (rdF hAF)
      · rw [List.length_map, List.length_take, sizeLine_eq]
        omega
      · rw [upd_same, PK.putK_enc, setI_new (nodup_at hA.nd hp), List.take_add_one, hp]
        rfl
    · obtain ⟨hT, kp⟩ := h
      rw [List.length_map, List.take_length] at hT
      refine ⟨kp _ _ ae ha0, ?_⟩
      have ne0 : H e = none := by rw [upd_ne ae.symm] at ne; exact ne
      have s1 : Same H (upd H1 a (.dK (A.map encI))) := fun c o ec => by
        by_cases z : c = a
        · rw [z] at ec ⊢
          rw [upd_same, ← hA.at_, ec]
        · rw [upd_ne z]
          exact kp c o (ne_of_none ec ne0) (by rw [upd_ne z]; exact ec)
      have hT2 : upd H1 a (.dK (A.map encI)) e = some (.dK (A.map encI)) := by rw [upd_ne ae.symm]; exact hT
      generalize upd H1 a (.dK (A.map encI)) = H2 at s1 hT2
      have hB2 := hB.same s1
      have be : b ≠ e := ne_of_none hB.at_ ne0
      -- the other one
      refine ⟨b, _, hB2.at_, trivial, fun od2 => ?_⟩
      have hb0 : upd H2 b (.frz od2 (.dK (B.map encI))) b = some (.frz od2 (.dK (B.map encI))) := upd_same
      have he0 : upd H2 b (.frz od2 (.dK (B.map encI))) e = some (.dK (A.map encI)) := by rw [upd_ne be.symm]; exact hT2
      refine ⟨.ref b, rfl, b, od2, _, rfl, upd_same, for_it (walk_items (d := b) (o := od2) (kvs := B.map encI)) (fun i σ H' => ∃ y2 y4, σ = [some (.ref a), some (.ref b), y2, some (.ref e), y4] ∧ H' e = some (.dK ((gath A (B.take i)).map encI)) ∧ But e (upd H2 b (.frz od2 (.dK (B.map encI)))) H')
        ⟨none, none, rfl, he0, fun _ _ _ x => x⟩ (fun i σ H' _ h => ?_) (fun i x σ H0 H' hi h hy => ?_) (fun σ H' h => ?_)⟩
      · obtain ⟨_, _, _, _, kp⟩ := h
        exact kp _ _ be hb0
      · obtain ⟨y2, y4, rfl, hG, kp2⟩ := h
        obtain ⟨T, kx, vx, rfl, nT, rfl, e1, e2⟩ := hy
        dsimp only at e1 e2
        obtain ⟨kv, hkv, rfl⟩ := Option.map_eq_some_iff.mp e1
        rw [hkv] at e2
        cases e2
        rw [List.getElem?_map] at hkv
        obtain ⟨p, hp, rfl⟩ := Option.map_eq_some_iff.mp hkv
        have sT := same_new (o := .tup [kV (encI p).1, (encI p).2]) nT
        have hT := sT _ _ hG
        refine ⟨T, _, rfl, sqtOf upd_same, rfl, _, _, rfl, _, _, rfl, rfl, ?_⟩
        refine ⟨.ref e, rfl, e, rfl, .inl ⟨_, .inl hT⟩, .int p.1, rfl, (getI (gath A (B.take i)) p.1).map V.int, dget (.inl hT), ?_⟩
        rw [getD_int]
        refine ⟨.int p.2, rfl, _, _, rfl, rfl, .ref e, rfl, .int p.1, rfl, e, _, rfl, DPut.k (k := Sum.inl p.1) hT ?_, some (.int p.1), some (.int p.2), rfl, ?_, kp2.step sT⟩
        · have := gath_len (B.take i) A
          rw [List.length_take] at this
          rw [List.length_map, sizeLine_eq]
          omega
        · rw [upd_same, PK.putK_enc, List.take_add_one, hp]
          show _ = some (HO.dK ((gath A (B.take i ++ [p])).map encI))
          rw [gath_snoc]
          rfl
      · obtain ⟨y2, y4, rfl, hG, kp2⟩ := h
        rw [List.length_map, List.take_length] at hG
        refine ⟨kp2 _ _ be hb0, ?_⟩
        have hG2 : upd H' b (.dK (B.map encI)) e = some (.dK ((gath A B).map encI)) := by rw [upd_ne be.symm]; exact hG
        have k2 : But e H2 (upd H' b (.dK (B.map encI))) := fun c o hc ec => by
          by_cases z : c = b
          · rw [z] at ec ⊢
            rw [upd_same, ← hB2.at_, ec]
          · rw [upd_ne z]
            exact kp2 c o hc (by rw [upd_ne z]; exact ec)
        have k1 : Same H (upd H' b (.dK (B.map encI))) := fun c o ec => k2 c o (ne_of_none ec ne0) (s1 c o ec)
        generalize upd H' b (.dK (B.map encI)) = H3 at hG2 k1
        have nT := gath_nodup B A hA.nd
        have lT := gath_len B A
        generalize gath A B = T at hG2 nT lT q
        refine ⟨e, _, hG2, trivial, fun od3 => ?_⟩
        have he3 : upd H3 e (.frz od3 (.dK (T.map encI))) e = some (.frz od3 (.dK (T.map encI))) := upd_same
        refine ⟨.ref e, rfl, e, od3, rfl, .inl ⟨_, upd_same, fun r nr => ?_⟩⟩
        have er : e ≠ r := ne_of_none he3 nr
        refine dc_it (walk_keys (d := e) (o := od3) (kvs := T.map encI)) (fun i H' => H' r = some (.dK (((T.take i).filter nzI).map encI)) ∧ But r (upd H3 e (.frz od3 (.dK (T.map encI)))) H') ⟨upd_same, But.start⟩ (fun i H' _ h => h.2 _ _ er he3) (fun i x H1 H2 hi h hy => ?_) (fun H1 h => ?_)
        · obtain ⟨rfl, k, v, e1, rfl⟩ := hy
          obtain ⟨p, hp, ep⟩ := Option.map_eq_some_iff.mp (by rw [List.getElem?_map] at e1; exact e1)
          cases ep
          have hTF := h.2 _ _ er he3
          have g1 : DGet H2 e (.int p.1) (some (.int p.2)) := by
            rw [show some (V.int p.2) = (getI T p.1).map V.int by rw [at_get nT hp]; rfl]
            exact dget (rdF hTF)
          refine ⟨rfl, .ref e, rfl, .int p.1, rfl, e, .int p.2, rfl, g1, _, rfl, ite2 (fun e0 => ?_) (fun e0 => ?_)⟩
          · have hp0 : p.2 ≠ 0 := fun z => by rw [z] at e0; exact absurd e0 (by decide)
            refine ⟨.int p.1, rfl, .ref e, rfl, .int p.1, rfl, e, .int p.2, rfl, g1, _, Sum.inl p.1, rfl, h.1, ?_, ?_, h.2.step (Same.refl _)⟩
            · have := List.length_filter_le nzI (T.take i)
              rw [List.length_take] at this
              rw [List.length_map, sizeLine_eq]
              omega
            · rw [upd_same, PK.putK_enc, setI_new, filter_stepI hp, if_neg hp0]
              intro z
              obtain ⟨x, hx, ex⟩ := List.mem_map.mp z
              exact nodup_at nT hp (by rw [← ex]; exact List.mem_map_of_mem (List.mem_filter.mp hx).1)
          · have hp0 : p.2 = 0 := by
              by_cases z : p.2 = 0
              · exact z
              · exact absurd (by simpa using z) e0
            refine ⟨?_, h.2⟩
            rw [filter_stepI hp, if_pos hp0, List.append_nil]
            exact h.1
        · obtain ⟨hR, kp3⟩ := h
          rw [List.length_map, List.take_length] at hR
          refine ⟨kp3 _ _ er he3, ?_⟩
          have nr0 : H3 r = none := by rw [upd_ne er.symm] at nr; exact nr
          have s3 : Same H3 (upd H1 e (.dK (T.map encI))) := fun c o ec => by
            by_cases z : c = e
            · rw [z] at ec ⊢
              rw [upd_same, ← hG2, ec]
            · rw [upd_ne z]
              exact kp3 c o (ne_of_none ec nr0) (by rw [upd_ne z]; exact ec)
          refine q _ r (k1.trans s3) (k1.free nr0) ⟨by rw [upd_ne er.symm]; exact hR, nodI_filter nT⟩
end
end NH
set_option Elab.async false
set_option linter.all false
set_option maxRecDepth 100000
set_option maxHeartbeats 1000000
set_option exponentiation.threshold 100000
namespace NH
open PySem PySem.Spec PyProof.Rows L2 R1 ZN PK RS
def prods (A B : Is) : Is := A.flatMap fun p => B.map fun q => (p.1 + q.1, p.2 * q.2)
theorem prods_step {A B : Is} {i : Nat} {p : Int × Int} (h : A[i]? = some p) : prods (A.take (i + 1)) B = prods (A.take i) B ++ B.map fun q => (p.1 + q.1, p.2 * q.2) := by
  unfold prods
  rw [List.take_add_one, h, List.flatMap_append]
  simp
theorem prods_len (A B : Is) : (prods A B).length = A.length * B.length := by
  unfold prods
  induction A with
  | nil => simp
  | cons p A ih =>
    rw [List.flatMap_cons, List.length_append, ih, List.length_map, List.length_cons, Nat.succ_mul]
    omega
theorem paired_at {α β : Type} {R : α → β → Prop} {xs : List α} {ys : List β} (h : Paired R xs ys) : ∀ {j : Nat} {x : α}, xs[j]? = some x → ∃ y, ys[j]? = some y ∧ R x y := by
  induction h with
  | nil => intro j x e; simp at e
  | cons h t ih =>
    intro j x e
    cases j with
    | zero =>
      cases e
      exact ⟨_, rfl, h⟩
    | succ j => exact ih e
section
variable {P : Program} {w : World} {K : PySem.W.Frag} {mg : Str → Option Value} {base : Heap} {f : Nat → Addr} {d : Nat → FuncData}
def spPT : Sp := fun vs H Q _ => ∃ (a b : Addr) (A B : Is), vs = [.ref a, .ref b] ∧ IdAt H a A ∧ IdAt H b B ∧ A.length ≤ 1000 ∧ B.length ≤ 1000 ∧ (∀ p ∈ A, p.2.natAbs < 2 ^ 40000) ∧ (∀ p ∈ B, p.2.natAbs < 2 ^ 40000) ∧
  ∀ H' (e : Addr) (X Y : Is), Same H H' → H e = none → ((X = A ∧ Y = B) ∨ (X = B ∧ Y = A)) → IdAt H' e ((gath [] (prods X Y)).filter nzI) → Q (.ref e) H'
theorem ok_pt {k : Nat} (D : Defs K mg f d) : FnOk P w K mg base CX0 (k + 1) (f i_packed_times) (d i_packed_times) ["one", "other"] spPT := by
  refine D.F_packed_times.ok sc_packed_times (fun vs H Q E h => ?_) (fun cdv A outer s H vs Q E hr h => ?_)
  · obtain ⟨a, b, A, B, rfl, _⟩ := h
    rfl
  · obtain ⟨a0, b0, A0, B0, rfl, hA0, hB0, hlA0, hlB0, zA0, zB0, q⟩ := h
    have nd := sc_packed_times.nd
    have hu := hu_of hr
    refine ⟨_, Evl.pss_cut (ps_if (pt_cmpR op_gt (pe_callB call_lenD (by rfl) D.z_len PySem.boot_len (pa_cons (pv 0) pa_nil)) (pe_callB call_lenD (by rfl) D.z_len PySem.boot_len (pa_cons (pv 1) pa_nil)) (nomark _))
        (pss_one (ps_par (i := 0) (j := 1) (by rfl) nd rfl rfl (by decide) rfl rfl (pa_cons (pv 1) (pa_cons (pv 0) pa_nil)) (by rfl)))
        pss_nil)
      (pss_cons (ps_set (i := 2) nd rfl (.inl rfl) (LiI.pe_listItems rfl (pv 1) (by rfl) D.z_list (by decide +kernel)))
      (pss_cons (ps_set (i := 3) nd rfl (.inr rfl) (pe_dnewK))
      (pss_cons (ps_lock (ps_for PassesOwn.never rfl (pi_items (pv 0)) (pg_tup rfl (pgs_cons (pg_name (i := 4) nd rfl (.inl rfl)) (pgs_cons (pg_name (i := 5) nd rfl (.inl rfl)) pgs_nil)))
        (pss_one (ps_for PassesOwn.never rfl (pi_list (pv 2)) (pg_tup rfl (pgs_cons (pg_name (i := 6) nd rfl (.inl rfl)) (pgs_cons (pg_name (i := 7) nd rfl (.inl rfl)) pgs_nil)))
            (pss_cons (ps_set (i := 8) nd rfl (.inl rfl) (pe_op op_add (pv 4) (pv 6)))
              (pss_one (ps_dput hu (pv 3) (pv 8) (pe_op op_add (pe_dget2 hu (pv 3) (pv 8) pe_int ⟨rfl, rfl, rfl, rfl⟩) (pe_op op_mulX (pv 5) (pv 7))) rfl)))))))
      (pss_one (ps_ret (pe_lock (pe_dc (wi := iKeys (tVar 3)) (own := [("key", 4)]) (g := gName 4) (tt := tTru K (tDGet (tVar 3) (tVar 4))) (by rfl) nd (pi_keys (pv 3)) (blkOk_by (own := [("key", 4)]) (N := N_packed_times) (sc := defScope s_packed_times) (by decide +kernel))
          (fun _ _ _ _ _ => pg_name (i := 4) nd rfl (.inl rfl)) (fun _ _ _ _ _ => pts_one (pt_truth (pe_dget hu (pv 3) (pv 4) (fun _ _ => rfl)) (by intro _; rfl))) (fun _ _ _ _ _ => pv 4) (fun _ _ _ _ _ => pe_dget hu (pv 3) (pv 4) (fun _ _ => rfl))))))))), ?_⟩
    refine ⟨fun σ' H2 => ∃ (a b : Addr) (A B : Is), σ' = [some (.ref a), some (.ref b), none, none, none, none, none, none, none] ∧ H2 = H ∧ IdAt H a A ∧ IdAt H b B ∧ ((A = A0 ∧ B = B0) ∨ (A = B0 ∧ B = A0)), ?_, ?_⟩
    · refine ⟨.ref a0, rfl, a0, _, rfl, hA0.at_, .ref b0, rfl, b0, _, rfl, hB0.at_, _, _, rfl, rfl, _, rfl, ite2 (fun e => ?_) (fun e => ?_)⟩
      · exact ⟨.ref b0, rfl, .ref a0, rfl, _, _, rfl, b0, a0, B0, A0, rfl, rfl, hB0, hA0, .inr ⟨rfl, rfl⟩⟩
      · exact ⟨a0, b0, A0, B0, rfl, rfl, hA0, hB0, .inl ⟨rfl, rfl⟩⟩
    rintro σ' H2 ⟨a, b, A, B, rfl, rfl, hA, hB, hAB⟩
    have hlA : A.length ≤ 1000 := by rcases hAB with ⟨rfl, rfl⟩ | ⟨rfl, rfl⟩ <;> assumption
    have hlB : B.length ≤ 1000 := by rcases hAB with ⟨rfl, rfl⟩ | ⟨rfl, rfl⟩ <;> assumption
    have zA : ∀ p ∈ A, p.2.natAbs < 2 ^ 40000 := by rcases hAB with ⟨rfl, rfl⟩ | ⟨rfl, rfl⟩ <;> assumption
    have zB : ∀ p ∈ B, p.2.natAbs < 2 ^ 40000 := by rcases hAB with ⟨rfl, rfl⟩ | ⟨rfl, rfl⟩ <;> assumption
    dsimp only [tSeq, tAsg, gName]
    refine ⟨.ref b, rfl, b, _, rfl, hB.at_, fun H1 l ts s1 nl nts lts hl pr => ?_⟩
    refine fun e ne => ?_
    have s2 : Same H2 (upd H1 e (.dK [])) := Same.trans s1 (same_new ne)
    have ae : a ≠ e := fun z => by
      have := s1 _ _ hA.at_
      rw [z, ne] at this
      cases this
    have le : l ≠ e := fun z => by rw [z, ne] at hl; cases hl
    have lts2 : ts.length = B.length := by
      have := Paired.length pr
      rw [List.length_map] at this
      exact this
    have ne0 : H2 e = none := by
      cases z : H2 e with
      | none => rfl
      | some o =>
        have := s1 _ _ z
        rw [ne] at this
        cases this
    have hA3 : upd H1 e (.dK []) a = some (.dK (A.map encI)) := s2 _ _ hA.at_
    have hl3 : upd H1 e (.dK []) l = some (.lst (ts.map V.ref)) := by rw [upd_ne le]; exact hl
    have he3 : upd H1 e (.dK []) e = some (.dK []) := upd_same
    have pr3 : ∀ {j : Nat} {t : Addr}, ts[j]? = some t → ∃ q : Int × Int, B[j]? = some q ∧ upd H1 e (.dK []) t = some (.tup [.int q.1, .int q.2]) := fun {j t} hj => by
      obtain ⟨y, hy, hz⟩ := paired_at pr hj
      rw [List.getElem?_map] at hy
      obtain ⟨q, hq, rfl⟩ := Option.map_eq_some_iff.mp hy
      exact ⟨q, hq, by rw [upd_ne (fun z => by rw [z, ne] at hz; cases hz)]; exact hz⟩
    generalize upd H1 e (.dK []) = H3 at s2 hA3 hl3 he3 pr3
    refine ⟨a, _, hA3, trivial, fun od => ?_⟩
    have al : a ≠ l := fun z => by rw [z, hl3] at hA3; cases hA3
    have hF : upd H3 a (.frz od (.dK (A.map encI))) a = some (.frz od (.dK (A.map encI))) := upd_same
    have tF : ∀ {b : Addr} {o : HO}, b ≠ a → H3 b = some o → upd H3 a (.frz od (.dK (A.map encI))) b = some o := fun hb e => by rw [upd_ne hb]; exact e
    refine ⟨.ref a, rfl, a, od, _, rfl, hF, for_it (walk_items (d := a) (o := od) (kvs := A.map encI)) (fun i σ H' => ∃ y4 y5 y6 y7 y8, σ = [some (.ref a), some (.ref b), some (.ref l), some (.ref e), y4, y5, y6, y7, y8] ∧ H' e = some (.dK ((gath [] (prods (A.take i) B)).map encI)) ∧ But e (upd H3 a (.frz od (.dK (A.map encI)))) H')
      ⟨none, none, none, none, none, rfl, tF ae.symm he3, fun _ _ _ x => x⟩ (fun i σ H' _ h => ?_) (fun i x σ H0 H' hi h hy => ?_) (fun σ H' h => ?_)⟩
    · obtain ⟨_, _, _, _, _, _, _, kp⟩ := h
      exact kp _ _ ae hF
    · obtain ⟨y4, y5, y6, y7, y8, rfl, hG, kp⟩ := h
      obtain ⟨T, kx, vx, rfl, nT, rfl, e1, e2⟩ := hy
      dsimp only at e1 e2
      obtain ⟨kv, hkv, rfl⟩ := Option.map_eq_some_iff.mp e1
      rw [hkv] at e2
      cases e2
      rw [List.getElem?_map] at hkv
      obtain ⟨p, hp, rfl⟩ := Option.map_eq_some_iff.mp hkv
      have sT := same_new (o := .tup [kV (encI p).1, (encI p).2]) nT
      have hT := sT _ _ hG
      have kpT := kp.then sT
      refine ⟨T, _, rfl, sqtOf upd_same, rfl, _, _, rfl, _, _, rfl, rfl, ?_⟩
      generalize upd H0 T (.tup [kV (encI p).1, (encI p).2]) = H4 at sT hT kpT
      have hl4 : H4 l = some (.lst (ts.map V.ref)) := kpT _ _ le (tF (Ne.symm al) hl3)
      have hil : i < A.length := (List.getElem?_eq_some_iff.mp hp).1
      refine ⟨.ref l, rfl, l, rfl, ⟨_, sqlOf hl4⟩, for_list (xs := ts.map V.ref) (fun j σ H' => ∃ y6 y7 y8, σ = [some (.ref a), some (.ref b), some (.ref l), some (.ref e), some (.int p.1), some (.int p.2), y6, y7, y8] ∧ H' e = some (.dK ((gath [] (prods (A.take i) B ++ (B.take j).map fun q => (p.1 + q.1, p.2 * q.2))).map encI)) ∧ But e (upd H3 a (.frz od (.dK (A.map encI)))) H')
        ⟨y6, y7, y8, rfl, by rw [List.take_zero, List.map_nil, List.append_nil]; exact hT, kpT⟩ (fun j σ H' _ h => ?_) (fun j x σ H' hx h => ?_) (fun σ H' h => ?_)⟩
      · obtain ⟨_, _, _, _, _, kp2⟩ := h
        exact sqlOf (kp2 _ _ le (tF (Ne.symm al) hl3))
      · obtain ⟨y6, y7, y8, rfl, hG2, kp2⟩ := h
        rw [List.getElem?_map] at hx
        obtain ⟨t, ht, rfl⟩ := Option.map_eq_some_iff.mp hx
        obtain ⟨r, hr1, hr2⟩ := pr3 ht
        have ta : t ≠ a := fun z => by rw [z, hA3] at hr2; cases hr2
        have te : t ≠ e := fun z => by rw [z, he3] at hr2; cases hr2
        have ht2 := kp2 _ _ te (tF ta hr2)
        have hjl : j < B.length := (List.getElem?_eq_some_iff.mp hr1).1
        refine ⟨t, _, rfl, sqtOf ht2, rfl, _, _, rfl, _, _, rfl, rfl, ?_⟩
        refine ⟨.int p.1, rfl, .int r.1, rfl, _, _, rfl, rfl, ?_⟩
        have hlen : (gath [] (prods (A.take i) B ++ (B.take j).map fun q => (p.1 + q.1, p.2 * q.2))).length ≤ 1001000 := by
          have h1 := gath_len (prods (A.take i) B ++ (B.take j).map fun q => (p.1 + q.1, p.2 * q.2)) []
          rw [List.length_append, prods_len, List.length_map, List.length_take, List.length_take] at h1
          have h2 : min i A.length * B.length ≤ 1000 * 1000 := Nat.mul_le_mul (by omega) hlB
          rw [List.length_nil] at h1
          omega
        have hsnoc : gath [] (prods (A.take i) B ++ (B.take (j + 1)).map fun q => (p.1 + q.1, p.2 * q.2)) = addI (gath [] (prods (A.take i) B ++ (B.take j).map fun q => (p.1 + q.1, p.2 * q.2))) (p.1 + r.1) (p.2 * r.2) := by
          rw [List.take_add_one, hr1, List.map_append, ← List.append_assoc]
          exact gath_snoc _ _ _
        rw [hsnoc]
        generalize gath [] (prods (A.take i) B ++ (B.take j).map fun q => (p.1 + q.1, p.2 * q.2)) = T2 at hG2 hlen
        refine ⟨.ref e, rfl, e, rfl, .inl ⟨_, .inl hG2⟩, .int (p.1 + r.1), rfl, (getI T2 (p.1 + r.1)).map V.int, dget (.inl hG2), ?_⟩
        rw [getD_int]
        refine ⟨.int p.2, rfl, .int r.2, rfl, _, _, rfl, rfl, mulx (zA p (List.mem_of_getElem? hp)) (zB r (List.mem_of_getElem? hr1)) (by decide), _, _, rfl, rfl, .ref e, rfl, .int (p.1 + r.1), rfl, e, _, rfl, DPut.k (k := Sum.inl (p.1 + r.1)) hG2 ?_, some (.int r.1), some (.int r.2), some (.int (p.1 + r.1)), rfl, ?_, kp2.step (Same.refl _)⟩
        · rw [List.length_map, sizeLine_eq]
          omega
        · rw [upd_same, PK.putK_enc]
          rfl
      · obtain ⟨y6, y7, y8, rfl, hG2, kp2⟩ := h
        rw [List.length_map, List.take_of_length_le (Nat.le_of_eq lts2.symm), ← prods_step hp] at hG2
        exact ⟨_, _, _, _, _, rfl, hG2, kp2⟩
    · obtain ⟨y4, y5, y6, y7, y8, rfl, hG, kp2⟩ := h
      rw [List.length_map, List.take_length] at hG
      refine ⟨kp2 _ _ ae hF, ?_⟩
      have hG2 : upd H' a (.dK (A.map encI)) e = some (.dK ((gath [] (prods A B)).map encI)) := by rw [upd_ne ae.symm]; exact hG
      have k1 : Same H2 (upd H' a (.dK (A.map encI))) := fun c o ec => by
        by_cases z : c = a
        · rw [z] at ec ⊢
          rw [upd_same, ← hA.at_, ec]
        · rw [upd_ne z]
          exact kp2 c o (ne_of_none ec ne0) (tF z (s2 _ _ ec))
      generalize upd H' a (.dK (A.map encI)) = H5 at hG2 k1
      have nT : NodI (gath [] (prods A B)) := gath_nodup _ _ List.nodup_nil
      have lT : (gath [] (prods A B)).length ≤ 1001000 := by
        have h1 := gath_len (prods A B) []
        rw [prods_len, List.length_nil] at h1
        have h2 : A.length * B.length ≤ 1000 * 1000 := Nat.mul_le_mul hlA hlB
        omega
      have q2 := fun (H' : Hp) (e : Addr) (s : Same H2 H') (n : H2 e = none) => q H' e A B s n hAB
      generalize gath [] (prods A B) = T at hG2 nT lT q2
      refine ⟨e, _, hG2, trivial, fun od3 => ?_⟩
      have he5 : upd H5 e (.frz od3 (.dK (T.map encI))) e = some (.frz od3 (.dK (T.map encI))) := upd_same
      refine ⟨.ref e, rfl, e, od3, rfl, .inl ⟨_, upd_same, fun r nr => ?_⟩⟩
      have er : e ≠ r := ne_of_none he5 nr
      refine dc_it (walk_keys (d := e) (o := od3) (kvs := T.map encI)) (fun i H' => H' r = some (.dK (((T.take i).filter nzI).map encI)) ∧ But r (upd H5 e (.frz od3 (.dK (T.map encI)))) H') ⟨upd_same, But.start⟩ (fun i H' _ h => h.2 _ _ er he5) (fun i x H1 H2 hi h hy => ?_) (fun H1 h => ?_)
      · obtain ⟨rfl, k, v, e1, rfl⟩ := hy
        obtain ⟨p, hp, ep⟩ := Option.map_eq_some_iff.mp (by rw [List.getElem?_map] at e1; exact e1)
        cases ep
        have hTF := h.2 _ _ er he5
        have g1 : DGet H2 e (.int p.1) (some (.int p.2)) := by
          rw [show some (V.int p.2) = (getI T p.1).map V.int by rw [at_get nT hp]; rfl]
          exact dget (rdF hTF)
        refine ⟨rfl, .ref e, rfl, .int p.1, rfl, e, .int p.2, rfl, g1, _, rfl, ite2 (fun e0 => ?_) (fun e0 => ?_)⟩
        · have hp0 : p.2 ≠ 0 := fun z => by rw [z] at e0; exact absurd e0 (by decide)
          refine ⟨.int p.1, rfl, .ref e, rfl, .int p.1, rfl, e, .int p.2, rfl, g1, _, Sum.inl p.1, rfl, h.1, ?_, ?_, h.2.step (Same.refl _)⟩
          · have := List.length_filter_le nzI (T.take i)
            rw [List.length_take] at this
            rw [List.length_map, sizeLine_eq]
            omega
          · rw [upd_same, PK.putK_enc, setI_new, filter_stepI hp, if_neg hp0]
            intro z
            obtain ⟨x, hx, ex⟩ := List.mem_map.mp z
            exact nodup_at nT hp (by rw [← ex]; exact List.mem_map_of_mem (List.mem_filter.mp hx).1)
        · have hp0 : p.2 = 0 := by
            by_cases z : p.2 = 0
            · exact z
            · exact absurd (by simpa using z) e0
          refine ⟨?_, h.2⟩
          rw [filter_stepI hp, if_pos hp0, List.append_nil]
          exact h.1
      · obtain ⟨hR, kp3⟩ := h
        rw [List.length_map, List.take_length] at hR
        refine ⟨kp3 _ _ er he5, ?_⟩
        have nr0 : H5 r = none := by rw [upd_ne er.symm] at nr; exact nr
        have s3 : Same H5 (upd H1 e (.dK (T.map encI))) := fun c o ec => by
          by_cases z : c = e
          · rw [z] at ec ⊢
            rw [upd_same, ← hG2, ec]
          · rw [upd_ne z]
            exact kp3 c o (ne_of_none ec nr0) (by rw [upd_ne z]; exact ec)
        refine q2 _ r (k1.trans s3) (k1.free nr0) ⟨by rw [upd_ne er.symm]; exact hR, nodI_filter nT⟩
end
end NH
set_option Elab.async false
set_option linter.all false
set_option maxRecDepth 100000
set_option maxHeartbeats 1000000
set_option exponentiation.threshold 100000
namespace NH
open PySem PySem.Spec PyProof.Rows L2 R1 ZN PK RS
/-! ### packed sums without letters -/
def AllZ (D : Is) : Prop := ∀ q ∈ D, q.1 = 0
def sumI : Is → Int
  | [] => 0
  | q :: D => q.2 + sumI D
theorem totZ : ∀ {D : Is}, AllZ D → totI 0 D = sumI D
  | [], _ => rfl
  | q :: D, h => by
    rw [totI, sumI, if_pos (h q List.mem_cons_self).symm, totZ fun p hp => h p (List.mem_cons_of_mem _ hp)]
theorem sumI_app : ∀ A B : Is, sumI (A ++ B) = sumI A + sumI B
  | [], B => by simp [sumI]
  | q :: A, B => by
    rw [List.cons_append, sumI, sumI, sumI_app A B]
    omega
theorem sumI_row (p : Int × Int) : ∀ B : Is, sumI (B.map fun q => (p.1 + q.1, p.2 * q.2)) = p.2 * sumI B
  | [] => by simp [sumI]
  | q :: B => by
    rw [List.map_cons, sumI, sumI, sumI_row p B, Int.mul_add]
theorem sumI_prods : ∀ A B : Is, sumI (prods A B) = sumI A * sumI B
  | [], B => by simp [prods, sumI]
  | p :: A, B => by
    have := sumI_prods A B
    unfold prods at this ⊢
    rw [List.flatMap_cons, sumI_app, sumI_row, this, sumI, Int.add_mul]
theorem allZ_prods {A B : Is} (hA : AllZ A) (hB : AllZ B) : AllZ (prods A B) := fun q hq => by
  obtain ⟨p, hp, h⟩ := List.mem_flatMap.mp hq
  obtain ⟨r, hr, rfl⟩ := List.mem_map.mp h
  show p.1 + r.1 = 0
  rw [hA p hp, hB r hr]
  rfl
theorem allZ_gath : ∀ {W A : Is}, AllZ A → AllZ W → AllZ (gath A W)
  | [], _, h, _ => h
  | q :: W, A, h, h2 => by
    refine allZ_gath (W := W) (A := addI A q.1 q.2) (fun p hp => ?_) fun p hp => h2 p (List.mem_cons_of_mem _ hp)
    rcases setI_mem hp with ⟨hp, _⟩ | rfl
    · exact h p hp
    · exact h2 q List.mem_cons_self
/-- at d: a packed sum without letters that is x -/
def ZAt (H : Hp) (d : Addr) (x : Int) : Prop := ∃ D : Is, IdAt H d D ∧ AllZ D ∧ vI D 0 = x
theorem ZAt.same {H H' : Hp} {d : Addr} {x : Int} (h : ZAt H d x) (s : Same H H') : ZAt H' d x := let ⟨D, h1, h2⟩ := h; ⟨D, h1.same s, h2⟩
theorem allZ_len {D : Is} (h : AllZ D) (n : NodI D) : D.length ≤ 1 := by
  match D, h, n with
  | [], _, _ => exact Nat.zero_le _
  | [q], _, _ => exact Nat.le_refl _
  | p :: q :: D, h, n =>
    exfalso
    have h1 := (List.nodup_cons.mp n).1
    apply h1
    show p.1 ∈ _
    rw [h p List.mem_cons_self, ← h q (List.mem_cons_of_mem _ List.mem_cons_self)]
    exact List.mem_map_of_mem List.mem_cons_self
theorem allZ_val {D : Is} (h : AllZ D) (n : NodI D) {q : Int × Int} (hq : q ∈ D) : vI D 0 = q.2 := by
  have : getI D q.1 = some q.2 := (getI_mem n).mpr hq
  rw [h q hq] at this
  unfold vI
  rw [this]
  rfl
theorem zat_empty {H : Hp} {e : Addr} (h : H e = some (.dK [])) : ZAt H e 0 := ⟨[], ⟨h, List.nodup_nil⟩, (fun q hq => nomatch hq), rfl⟩
theorem zat_one {H : Hp} {e : Addr} {x : Int} (h : H e = some (.dK [(Sum.inl 0, .int x)])) : ZAt H e x := ⟨[(0, x)], ⟨h, List.nodup_cons.mpr ⟨by simp, List.nodup_nil⟩⟩, (fun q hq => by cases List.mem_singleton.mp hq; rfl), rfl⟩
section
variable {P : Program} {w : World} {K : PySem.W.Frag} {mg : Str → Option Value} {base : Heap} {f : Nat → Addr} {d : Nat → FuncData}
def spZP : Sp := fun vs H Q _ => ∃ (a b : Addr) (x y : Int), vs = [.ref a, .ref b] ∧ ZAt H a x ∧ ZAt H b y ∧ ∀ H' (e : Addr), Same H H' → H e = none → ZAt H' e (x + y) → Q (.ref e) H'
theorem ok_zp {k : Nat} (D : Defs K mg f d) : FnOk P w K mg base CX0 (k + 1) (f i_packed_plus) (d i_packed_plus) ["one", "other"] spZP := by
  refine (ok_pp D).imp fun vs H Q E h => ?_
  obtain ⟨a, b, x, y, rfl, ⟨A, hA, zA, rfl⟩, ⟨B, hB, zB, rfl⟩, q⟩ := h
  have l1 := allZ_len zA hA.nd
  have l2 := allZ_len zB hB.nd
  refine ⟨a, b, A, B, rfl, hA, hB, by omega, fun H' e s n he => q H' e s n ⟨_, he, fun r hr => allZ_gath zA zB r (List.mem_filter.mp hr).1, ?_⟩⟩
  rw [vI_filter (gath_nodup _ _ hA.nd), vI_gath, ← vI_tot hB.nd]
def spZT : Sp := fun vs H Q _ => ∃ (a b : Addr) (x y : Int), vs = [.ref a, .ref b] ∧ ZAt H a x ∧ ZAt H b y ∧ x.natAbs < 2 ^ 40000 ∧ y.natAbs < 2 ^ 40000 ∧ ∀ H' (e : Addr), Same H H' → H e = none → ZAt H' e (x * y) → Q (.ref e) H'
theorem ok_zt {k : Nat} (D : Defs K mg f d) : FnOk P w K mg base CX0 (k + 1) (f i_packed_times) (d i_packed_times) ["one", "other"] spZT := by
  refine (ok_pt D).imp fun vs H Q E h => ?_
  obtain ⟨a, b, x, y, rfl, ⟨A, hA, zA, rfl⟩, ⟨B, hB, zB, rfl⟩, bx, by_, q⟩ := h
  have l1 := allZ_len zA hA.nd
  have l2 := allZ_len zB hB.nd
  refine ⟨a, b, A, B, rfl, hA, hB, by omega, by omega, fun p hp => by rw [← allZ_val zA hA.nd hp]; exact bx, fun p hp => by rw [← allZ_val zB hB.nd hp]; exact by_, fun H' e X Y s n hXY he => q H' e s n ⟨_, he, fun r hr => allZ_gath (A := []) (fun q hq => by cases hq) (allZ_prods ?_ ?_) r (List.mem_filter.mp hr).1, ?_⟩⟩
  · rcases hXY with ⟨rfl, rfl⟩ | ⟨rfl, rfl⟩ <;> assumption
  · rcases hXY with ⟨rfl, rfl⟩ | ⟨rfl, rfl⟩ <;> assumption
  have e1 : vI A 0 * vI B 0 = sumI X * sumI Y := by
    rw [vI_tot hA.nd, vI_tot hB.nd, totZ zA, totZ zB]
    rcases hXY with ⟨rfl, rfl⟩ | ⟨rfl, rfl⟩
    · rfl
    · exact Int.mul_comm _ _
  rw [e1, vI_filter (gath_nodup (prods X Y) [] (show NodI [] from List.nodup_nil)), vI_gath, totZ, sumI_prods]
  · show 0 + _ = _
    omega
  · rcases hXY with ⟨rfl, rfl⟩ | ⟨rfl, rfl⟩ <;> exact allZ_prods (by assumption) (by assumption)
def spZB : Sp := fun vs H Q _ => ∃ (a b : Addr) (x y : Int) (n E : Nat), vs = [.ref a, .ref b, .int (n : Nat)] ∧ ZAt H a x ∧ H b = some (.dK [(Sum.inl 0, .int y)]) ∧ x.natAbs < 2 ^ 40000 ∧ y.natAbs < 2 ^ E ∧ E ≤ 200 ∧ n ≤ 100 ∧
  ∀ H' (e : Addr), Same H H' → H e = none → ZAt H' e (x * y ^ n) → Q (.ref e) H'
theorem ok_zb {k : Nat} (D : Defs K mg f d) : FnOk P w K mg base CX0 (k + 2) (f i_packed_by_power) (d i_packed_by_power) ["terms", "factor", "times"] spZB := by
  have G_packed_times : FnOk P w K mg base CX0 (k + 1) (f i_packed_times) (d i_packed_times) ["one", "other"] spZT := ok_zt D
  have G_whole_power : FnOk P w K mg base CX0 (k + 1) (f i_whole_power) (d i_whole_power) ["base", "times"] spWP := ok_wp D
  refine D.F_packed_by_power.ok sc_packed_by_power (fun vs H Q E h => ?_) (fun cdv A outer s H vs Q E hr h => ?_)
  · obtain ⟨a, b, x, y, n, E, rfl, _⟩ := h
    rfl
  · obtain ⟨a, b, x, y, n, E, rfl, ha, hb, bx, by_, hE, hn, q⟩ := h
    have nd := sc_packed_by_power.nd
    have hu := hu_of hr
    refine ⟨_, pss_cons (ps_if (pt_cmpR op_eq (pe_callB call_lenD (by rfl) D.z_len PySem.boot_len (pa_cons (pv 1) pa_nil)) pe_int (nomark _))
        (pss_cons (ps_set (i := 3) nd rfl (.inl rfl) (pe_ix ix_list (pe_callTy (call_listD rfl) (by rfl) D.z_list (by decide +kernel) (pa_cons (pv 1) pa_nil)) pe_int (fun _ _ => rfl)))
          (pss_one (ps_ret (pe_call G_packed_times hr (by rfl) D.g_packed_times D.F_packed_times.kp D.b_packed_times .nil pass0 (pa_cons (pv 0) (pa_cons (pe_disp (pps_cons (pe_op op_mulX (pv 3) (pv 2)) (pe_call G_whole_power hr (by rfl) D.g_whole_power D.F_whole_power.kp D.b_whole_power .nil pass0 (pa_cons (pe_dget hu (pv 1) (pv 3) (fun _ _ => rfl)) (pa_cons (pv 2) pa_nil))) pps_nil) (by rfl) (by rfl) (fun z => by cases z) (by decide)) pa_nil))))))
        pss_nil)
      pss_never, ?_⟩
    refine ⟨.ref b, rfl, b, _, rfl, hb, rfl, _, rfl, ite2 (fun e => ?_) (fun e => absurd (decide_eq_true rfl) e)⟩
    dsimp only [tSeq, tAsg, gName]
    refine ⟨.ref b, rfl, b, _, rfl, .inl hb, fun l nl => ⟨l, _, 0, .int 0, rfl, rfl, sqlOf upd_same, atI_nat (j := 0) rfl, ?_⟩⟩
    have s1 := same_new (o := .lst ([((Sum.inl 0 : Key), V.int y)].map fun kv => kV kv.1)) nl
    refine ⟨.ref a, rfl, fun e ne => ?_⟩
    have hb1 := s1 _ _ hb
    have s2 : Same H (upd (upd H l (.lst ([((Sum.inl 0 : Key), V.int y)].map fun kv => kV kv.1))) e (.dK [])) := s1.trans (same_new ne)
    have hb2 : upd (upd H l (.lst ([((Sum.inl 0 : Key), V.int y)].map fun kv => kV kv.1))) e (.dK []) b = some (.dK [(Sum.inl 0, .int y)]) := s2 _ _ hb
    have he2 : upd (upd H l (.lst ([((Sum.inl 0 : Key), V.int y)].map fun kv => kV kv.1))) e (.dK []) e = some (.dK []) := upd_same
    have ne0 := s1.free ne
    generalize upd (upd H l (.lst ([((Sum.inl 0 : Key), V.int y)].map fun kv => kV kv.1))) e (.dK []) = H2 at s2 hb2 he2
    refine ⟨.int 0, rfl, .int (n : Nat), rfl, _, _, rfl, rfl, mulS (by decide) (by omega), ?_⟩
    refine ⟨.ref b, rfl, .int 0, rfl, b, .int y, rfl, .inl ⟨_, Sum.inl 0, .inl hb2, rfl, rfl⟩, .int (n : Nat), rfl, y, n, E, rfl, by_, hE, hn, ?_⟩
    refine ⟨he2, [(Sum.inl 0, .int (y ^ n))], ?_, by show 1 ≤ 15; decide, ?_⟩
    · show [((V.int (0 * (n : Nat))), V.int (y ^ n))] = [(V.int 0, V.int (y ^ n))]
      rw [Int.zero_mul]
    have eM : mergeK [] [((Sum.inl 0 : Key), V.int (y ^ n))] = [(Sum.inl 0, V.int (y ^ n))] := rfl
    rw [eM]
    have s3 : Same H (upd H2 e (.dK [(Sum.inl 0, V.int (y ^ n))])) := fun c o ec => by
      rw [upd_ne (ne_of_none ec ne0)]
      exact s2 _ _ ec
    refine ⟨a, e, x, y ^ n, rfl, ha.same s3, zat_one upd_same, bx, Nat.lt_of_lt_of_le (pow_bits by_ n) (Nat.pow_le_pow_right (by decide) ?_), fun H4 r s4 nr hr4 => q H4 r (s3.trans s4) (s3.free nr) hr4⟩
    have : E * n ≤ 200 * 100 := Nat.mul_le_mul hE hn
    omega
end
end NH
set_option Elab.async false
set_option linter.all false
set_option maxRecDepth 100000
namespace GM
/-! ### sums at integers, letter by letter -/
abbrev Ts := List (List Int × Int)
def pw (j : Nat) (q : List Int × Int) : Int := q.1.getD j 0
/-- the first m letters of a term -/
def mono (xs : List Int) : Nat → List Int → Int
  | 0, _ => 1
  | m + 1, p => mono xs m p * (xs.getD m 0) ^ (p.getD m 0).toNat
def tval (xs : List Int) (m : Nat) : Ts → Int
  | [] => 0
  | q :: T => q.2 * mono xs m q.1 + tval xs m T
/-- the terms of powers from a on in the letter j, freed of a -/
def pt (xs : List Int) (j : Nat) (a : Int) : Ts → Int
  | [] => 0
  | q :: T => (if a ≤ pw j q then q.2 * mono xs j q.1 * (xs.getD j 0) ^ (pw j q - a).toNat else 0) + pt xs j a T
def at_ (j : Nat) (a : Int) (q : List Int × Int) : Bool := decide (pw j q = a)
theorem pt_step {xs : List Int} {j : Nat} {a b : Int} (h : b < a) : ∀ {T : Ts}, (∀ q ∈ T, pw j q < a → pw j q ≤ b) → pt xs j b T = pt xs j a T * (xs.getD j 0) ^ (a - b).toNat + tval xs j (T.filter (at_ j b))
  | [], _ => by simp [pt, tval]
  | q :: T, hT => by
    have ih := pt_step (xs := xs) (T := T) h fun q hq => hT q (List.mem_cons_of_mem _ hq)
    have hq := hT q List.mem_cons_self
    rw [pt, pt, ih, List.filter_cons]
    by_cases e : a ≤ pw j q
    · have n : at_ j b q = false := by
        unfold at_
        exact decide_eq_false (by omega)
      rw [if_pos e, if_pos (by omega), n]
      have : (pw j q - b).toNat = (pw j q - a).toNat + (a - b).toNat := by omega
      rw [this, Int.pow_add, Int.add_mul]
      simp only [Bool.false_eq_true, if_false]
      rw [← Int.mul_assoc]
      omega
    · rw [if_neg e]
      by_cases e2 : pw j q = b
      · have n : at_ j b q = true := by
          unfold at_
          exact decide_eq_true e2
        rw [n, if_pos (by omega), if_pos rfl, tval]
        have : (pw j q - b).toNat = 0 := by omega
        rw [this, Int.pow_zero, Int.mul_one, Int.zero_add]
        omega
      · have n : at_ j b q = false := by
          unfold at_
          exact decide_eq_false e2
        rw [n, if_neg (by omega)]
        simp
theorem pt_first {xs : List Int} {j : Nat} {a : Int} : ∀ {T : Ts}, (∀ q ∈ T, pw j q ≤ a) → pt xs j a T = tval xs j (T.filter (at_ j a))
  | [], _ => rfl
  | q :: T, hT => by
    have ih := pt_first (T := T) (xs := xs) fun q hq => hT q (List.mem_cons_of_mem _ hq)
    have hq := hT q List.mem_cons_self
    rw [pt, ih, List.filter_cons]
    by_cases e : pw j q = a
    · have n : at_ j a q = true := decide_eq_true e
      rw [n, if_pos (by omega), if_pos rfl, tval]
      have : (pw j q - a).toNat = 0 := by omega
      rw [this, Int.pow_zero, Int.mul_one]
    · have n : at_ j a q = false := decide_eq_false e
      rw [n, if_neg (by omega)]
      simp
theorem pt_last {xs : List Int} {j : Nat} {a : Int} (h0 : 0 ≤ a) : ∀ {T : Ts}, (∀ q ∈ T, a ≤ pw j q) → pt xs j a T * (xs.getD j 0) ^ a.toNat = tval xs (j + 1) T
  | [], _ => by simp [pt, tval]
  | q :: T, hT => by
    have ih := pt_last (T := T) (xs := xs) h0 fun q hq => hT q (List.mem_cons_of_mem _ hq)
    have hq := hT q List.mem_cons_self
    rw [pt, if_pos hq, Int.add_mul, ih, tval, mono]
    congr 1
    have : (q.1.getD j 0).toNat = (pw j q - a).toNat + a.toNat := by
      unfold pw at hq ⊢
      omega
    rw [this, Int.pow_add, ← Int.mul_assoc, ← Int.mul_assoc, Int.mul_assoc q.2]
theorem mono_bits {xs : List Int} {E W : Nat} (hx : ∀ x ∈ xs, x.natAbs ≤ 2 ^ E) : ∀ {m : Nat} {p : List Int}, (∀ j, j < m → (p.getD j 0).toNat ≤ W) → (mono xs m p).natAbs ≤ 2 ^ (m * (E * W))
  | 0, _, _ => by simp [mono]
  | m + 1, p, h => by
    have ih := mono_bits hx (m := m) (p := p) fun j hj => h j (by omega)
    have hw := h m (Nat.lt_succ_self m)
    have h1 : (xs.getD m 0).natAbs ≤ 2 ^ E := by
      by_cases hm : m < xs.length
      · rw [List.getD_eq_getElem?_getD, List.getElem?_eq_getElem hm]
        exact hx _ (List.getElem_mem hm)
      · rw [List.getD_eq_getElem?_getD, List.getElem?_eq_none (by omega)]
        exact Nat.zero_le _
    have h2 : ((xs.getD m 0) ^ (p.getD m 0).toNat).natAbs ≤ 2 ^ (E * W) := by
      rw [Int.natAbs_pow]
      refine Nat.le_trans (Nat.pow_le_pow_left h1 _) ?_
      rw [← Nat.pow_mul]
      exact Nat.pow_le_pow_right (by decide) (Nat.mul_le_mul_left _ hw)
    rw [mono, Int.natAbs_mul, Nat.succ_mul, Nat.pow_add]
    exact Nat.mul_le_mul ih h2
theorem tval_bits {xs : List Int} {m B : Nat} : ∀ {T : Ts}, (∀ q ∈ T, (q.2 * mono xs m q.1).natAbs ≤ B) → (tval xs m T).natAbs ≤ T.length * B
  | [], _ => by simp [tval]
  | q :: T, h => by
    have ih := tval_bits (T := T) fun q hq => h q (List.mem_cons_of_mem _ hq)
    have h1 := h q List.mem_cons_self
    rw [tval, List.length_cons, Nat.succ_mul]
    have := Int.natAbs_add_le (q.2 * mono xs m q.1) (tval xs m T)
    omega
theorem pt_bits {xs : List Int} {j B : Nat} {a : Int} : ∀ {T : Ts}, (∀ q ∈ T, a ≤ pw j q → (q.2 * mono xs j q.1 * (xs.getD j 0) ^ (pw j q - a).toNat).natAbs ≤ B) → (pt xs j a T).natAbs ≤ T.length * B
  | [], _ => by simp [pt]
  | q :: T, h => by
    have ih := pt_bits (T := T) (a := a) fun q hq => h q (List.mem_cons_of_mem _ hq)
    have h1 := h q List.mem_cons_self
    rw [pt, List.length_cons, Nat.succ_mul]
    have := Int.natAbs_add_le (if a ≤ pw j q then q.2 * mono xs j q.1 * (xs.getD j 0) ^ (pw j q - a).toNat else 0) (pt xs j a T)
    by_cases e : a ≤ pw j q
    · have h2 := h1 e
      rw [if_pos e] at this ⊢
      omega
    · rw [if_neg e] at this ⊢
      have : (0 : Int).natAbs = 0 := rfl
      omega
end GM
set_option Elab.async false
set_option linter.all false
set_option maxRecDepth 100000
set_option maxHeartbeats 1000000
set_option exponentiation.threshold 100000
namespace NH
open PySem PySem.Spec PyProof.Rows L2 R1 ZN PK RS
theorem pi_or {X : Cx} {tg iter : Expr} {w1 w2 : TI} (h1 : PI X tg iter w1) (h2 : PI X tg iter w2) : PI X tg iter (fun σ H R => w1 σ H R ∨ w2 σ H R) :=
  ⟨fun pins s σ H R I h => h.elim (h1.run pins s σ H R I) (h2.run pins s σ H R I)⟩
/-- terms in a list or a tuple -/
structure TmAt (K : PySem.W.Frag) (H : Hp) (t : Addr) (L : List Trm) : Prop where
  seq : SqL K H t (L.map Trm.v) ∨ SqT K H t (L.map Trm.v)
  rows : RowsOk H L
/-- what the terms keep to: powers from 0 to W in the first m letters, no two alike -/
structure TmOk (m W : Nat) (T : Ts) : Prop where
  pos : ∀ q ∈ T, ∀ j, j < m → 0 ≤ q.1.getD j 0 ∧ q.1.getD j 0 ≤ W
  len : ∀ q ∈ T, m ≤ q.1.length
  ap : T.Pairwise fun x y => x.1.take m ≠ y.1.take m
  sm : ∀ q ∈ T, q.2.natAbs < 2 ^ 300
theorem take_succ' {p : List Int} {m : Nat} (h : m < p.length) : p.take (m + 1) = p.take m ++ [p.getD m 0] := by
  rw [List.take_add_one, List.getElem?_eq_getElem h, List.getD_eq_getElem?_getD, List.getElem?_eq_getElem h]
  rfl
theorem TmOk.part {m W : Nat} {T : Ts} (h : TmOk (m + 1) W T) (a : Int) : TmOk m W (T.filter (GM.at_ m a)) := by
  refine ⟨fun q hq j hj => h.pos q (List.mem_filter.mp hq).1 j (by omega), fun q hq => by have := h.len q (List.mem_filter.mp hq).1; omega, ?_, fun q hq => h.sm q (List.mem_filter.mp hq).1⟩
  refine (h.ap.filter _).imp_of_mem fun {x y} hx hy e z => e ?_
  obtain ⟨hx, ex⟩ := List.mem_filter.mp hx
  obtain ⟨hy, ey⟩ := List.mem_filter.mp hy
  have ex := of_decide_eq_true ex
  have ey := of_decide_eq_true ey
  rw [take_succ' (h.len x hx), take_succ' (h.len y hy), z]
  congr 2
  exact ex.trans ey.symm
theorem TmOk.one {W : Nat} {T : Ts} (h : TmOk 0 W T) : T.length ≤ 1 := by
  match T, h with
  | [], _ => exact Nat.zero_le _
  | [q], _ => exact Nat.le_refl _
  | p :: q :: T, h =>
    exfalso
    exact (List.pairwise_cons.mp h.ap).1 q List.mem_cons_self rfl
theorem sql_same {K : PySem.W.Frag} {H H' : Hp} {a : Addr} {xs : List V} (s : Same H H') (h : SqL K H a xs) : SqL K H' a xs := by
  rcases h with (h | ⟨o, h⟩) | h
  · exact .inl (.inl (s _ _ h))
  · exact .inl (.inr ⟨o, s _ _ h⟩)
  · exact .inr h
theorem for_seq {K : PySem.W.Frag} {a : Addr} {xs : List V} {g : TG} {tb : TS} {D : Ends} {σ : L2.St} {Hq H : Hp} {i0 : Nat} (hv : σ[i0]? = some (some (.ref a))) (hq : SqL K Hq a xs ∨ SqT K Hq a xs) (Pv : Nat → L2.St → Hp → Prop) (h0 : Pv 0 σ H) (hl : ∀ i σ H', i ≤ xs.length → Pv i σ H' → Same Hq H')
    (hs : ∀ i x σ H, xs[i]? = some x → Pv i σ H → g x σ H fun σ2 H2 => tb { D with nx := Pv (i + 1), ct := Pv (i + 1), bk := D.nx } σ2 H2) (hd : ∀ σ H, Pv xs.length σ H → D.nx σ H) :
    tFor (fun σ H R => iList K (tVar i0) σ H R ∨ iTup K (tVar i0) σ H R) g tb D σ H := by
  rcases hq with h | h
  · exact .inl ⟨.ref a, hv, a, rfl, ⟨_, sql_same (hl 0 σ H (Nat.zero_le _) h0) h⟩, for_list Pv h0 (fun i σ H' hi p => sql_same (hl i σ H' hi p) h) hs hd⟩
  · exact .inr ⟨.ref a, hv, a, rfl, ⟨_, sqt_same (hl 0 σ H (Nat.zero_le _) h0) h⟩, for_tup Pv h0 (fun i σ H' hi p => sqt_same (hl i σ H' hi p) h) hs hd⟩
theorem nodup_inj {α β : Type} {f : α → β} : ∀ {l : List α}, (l.map f).Nodup → ∀ {a b : α}, a ∈ l → b ∈ l → f a = f b → a = b
  | [], _, _, _, h, _, _ => nomatch h
  | x :: l, hn, a, b, ha, hb, e => by
    have hx := List.nodup_cons.mp hn
    rcases List.mem_cons.mp ha with rfl | ha'
    · rcases List.mem_cons.mp hb with rfl | hb'
      · rfl
      · exact absurd (e ▸ List.mem_map_of_mem hb') hx.1
    · rcases List.mem_cons.mp hb with rfl | hb'
      · exact absurd (e ▸ List.mem_map_of_mem ha') hx.1
      · exact nodup_inj hx.2 ha' hb' e
/-- the groups of terms by their power in the letter m -/
structure Grp (H0 H : Hp) (gd : Addr) (m : Nat) (T : Ts) (gs : List (Int × Addr)) : Prop where
  at_ : H gd = some (.dK (gs.map fun g => ((Sum.inl g.1 : Key), V.ref g.2)))
  nd : (gs.map (·.1)).Nodup
  nda : (gs.map (·.2)).Nodup
  grp : ∀ g ∈ gs, H0 g.2 = none ∧ ∃ M : List Trm, H g.2 = some (.lst (M.map Trm.v)) ∧ RowsOk H M ∧ M.map Trm.d = T.filter (GM.at_ m g.1) ∧ M ≠ []
  all : ∀ q ∈ T, ∃ g ∈ gs, g.1 = GM.pw m q
theorem filt_snoc (m : Nat) (a : Int) (T : Ts) (q : List Int × Int) : (T ++ [q]).filter (GM.at_ m a) = T.filter (GM.at_ m a) ++ if GM.pw m q = a then [q] else [] := by
  rw [List.filter_append]
  congr 1
  by_cases e : GM.pw m q = a
  · have : GM.at_ m a q = true := decide_eq_true e
    rw [if_pos e, List.filter_cons, this]
    rfl
  · have : GM.at_ m a q = false := decide_eq_false e
    rw [if_neg e, List.filter_cons, this]
    rfl
theorem valV_gs {v : V} {κ : Int} : ∀ {gs : List (Int × Addr)}, valV (gs.map fun g => ((Sum.inl g.1 : Key), V.ref g.2)) (Sum.inl κ) = some v → ∃ ga, (κ, ga) ∈ gs ∧ v = .ref ga
  | [], h => by cases h
  | g :: gs, h => by
    by_cases e : g.1 = κ
    · rw [List.map_cons, valV_pos (show ((Sum.inl g.1 : Key), V.ref g.2).1 = Sum.inl κ by rw [← e])] at h
      exact ⟨g.2, by rw [← e]; exact List.mem_cons_self, (Option.some.inj h).symm⟩
    · rw [List.map_cons, valV_neg (show ¬ ((Sum.inl g.1 : Key), V.ref g.2).1 = Sum.inl κ from fun z => e (by injection z))] at h
      obtain ⟨ga, h1, h2⟩ := valV_gs h
      exact ⟨ga, List.mem_cons_of_mem _ h1, h2⟩
theorem valV_gsn {κ : Int} : ∀ {gs : List (Int × Addr)}, valV (gs.map fun g => ((Sum.inl g.1 : Key), V.ref g.2)) (Sum.inl κ) = none → κ ∉ gs.map (·.1)
  | [], _ => by simp
  | g :: gs, h => by
    by_cases e : g.1 = κ
    · rw [List.map_cons, valV_pos (show ((Sum.inl g.1 : Key), V.ref g.2).1 = Sum.inl κ by rw [← e])] at h
      cases h
    · rw [List.map_cons, valV_neg (show ¬ ((Sum.inl g.1 : Key), V.ref g.2).1 = Sum.inl κ from fun z => e (by injection z))] at h
      have := valV_gsn h
      rw [List.map_cons, List.mem_cons]
      rintro (z | z)
      · exact e z.symm
      · exact this z
theorem valV_gsm {κ : Int} {ga : Addr} : ∀ {gs : List (Int × Addr)}, (gs.map (·.1)).Nodup → (κ, ga) ∈ gs → valV (gs.map fun g => ((Sum.inl g.1 : Key), V.ref g.2)) (Sum.inl κ) = some (.ref ga)
  | [], _, h => nomatch h
  | g :: gs, hn, h => by
    have hx := List.nodup_cons.mp hn
    rcases List.mem_cons.mp h with rfl | h
    · rw [List.map_cons, valV_pos rfl]
    · have e : ¬ g.1 = κ := fun z => hx.1 (by show g.1 ∈ _; rw [z]; exact List.mem_map_of_mem (f := (·.1)) h)
      rw [List.map_cons, valV_neg (show ¬ ((Sum.inl g.1 : Key), V.ref g.2).1 = Sum.inl κ from fun z => e (by injection z))]
      exact valV_gsm hx.2 h
theorem gs_keys : ∀ gs : List (Int × Addr), (gs.map fun g => ((Sum.inl g.1 : Key), V.ref g.2)).map (·.1) = (gs.map (·.1)).map Sum.inl
  | [] => rfl
  | g :: gs => by
    have := gs_keys gs
    simp only [List.map_cons, this]
theorem desc_lt {ys : List Int} (h : ys.Pairwise (· > ·)) {i j : Nat} {x y : Int} (hx : ys[i]? = some x) (hy : ys[j]? = some y) (hij : i < j) : y < x := by
  obtain ⟨h1, rfl⟩ := List.getElem?_eq_some_iff.mp hx
  obtain ⟨h2, rfl⟩ := List.getElem?_eq_some_iff.mp hy
  exact List.pairwise_iff_getElem.mp h i j h1 h2 hij
theorem putK_gs {κ : Int} {z : Addr} {gs : List (Int × Addr)} (h : κ ∉ gs.map (·.1)) : putK (gs.map fun g => ((Sum.inl g.1 : Key), V.ref g.2)) (Sum.inl κ) (.ref z) = (gs ++ [(κ, z)]).map fun g => ((Sum.inl g.1 : Key), V.ref g.2) := by
  unfold putK
  rw [if_neg]
  · rw [List.map_append]
    rfl
  · intro e
    obtain ⟨kv, hkv, e⟩ := List.any_eq_true.mp e
    obtain ⟨g, hg, rfl⟩ := List.mem_map.mp hkv
    have e : ((Sum.inl g.1 : Key)) = Sum.inl κ := of_decide_eq_true e
    exact h (List.mem_map.mpr ⟨g, hg, by injection e⟩)
theorem two_ok {a b : V} : [a, b].length ≤ sizeLine := by
  show 2 ≤ sizeLine
  rw [sizeLine_eq]
  decide
theorem Grp.same {H0 H H' : Hp} {gd : Addr} {m : Nat} {T : Ts} {gs : List (Int × Addr)} (h : Grp H0 H gd m T gs) (s : Same H H') : Grp H0 H' gd m T gs :=
  ⟨s _ _ h.at_, h.nd, h.nda, fun g hg => by
    obtain ⟨n0, M', a1, a2, a3, a4⟩ := h.grp g hg
    exact ⟨n0, M', s _ _ a1, a2.keep (same_keepT s), a3, a4⟩, h.all⟩
theorem Grp.more {H0 H H' : Hp} {gd ga tt p : Addr} {m : Nat} {T : Ts} {gs : List (Int × Addr)} {κ : Int} {M : List Trm} {ns : List Int} {c : Int} (h : Grp H0 H gd m T gs) (hg : (κ, ga) ∈ gs) (hM : H ga = some (.lst (M.map Trm.v))) (hr : RowsOk H M) (hd : M.map Trm.d = T.filter (GM.at_ m κ))
    (hκ : GM.pw m (ns, c) = κ) (hK : ∀ b o, b ≠ ga → H b = some o → H' b = some o) (hga : H' ga = some (.lst (M.map Trm.v ++ [.ref tt]))) (htt : H' tt = some (.tup [.ref p, .int c])) (hp : H' p = some (.tup (ns.map V.int))) : Grp H0 H' gd m (T ++ [(ns, c)]) gs := by
  have kt : KeepT H H' := fun b xs e => hK b _ (fun z => by rw [z, hM] at e; cases e) e
  refine ⟨hK _ _ (fun z => by have := h.at_; rw [z, hM] at this; cases this) h.at_, h.nd, h.nda, fun g hg' => ?_, fun q hq => ?_⟩
  · obtain ⟨n0, M', a1, a2, a3, a4⟩ := h.grp g hg'
    refine ⟨n0, ?_⟩
    by_cases e : g.2 = ga
    · have eg : g = (κ, ga) := by
        exact nodup_inj (f := (·.2)) h.nda hg' hg e
      subst eg
      refine ⟨M ++ [⟨tt, p, ns, c⟩], by rw [hga, List.map_append]; rfl, fun r hr' => ?_, ?_, by simp⟩
      · rcases List.mem_append.mp hr' with hr' | hr'
        · exact ⟨kt _ _ (hr r hr').1, kt _ _ (hr r hr').2⟩
        · cases List.mem_singleton.mp hr'
          exact ⟨htt, hp⟩
      · rw [List.map_append, hd, filt_snoc, if_pos hκ]
        rfl
    · refine ⟨M', hK _ _ e a1, a2.keep kt, ?_, a4⟩
      rw [a3, filt_snoc, if_neg, List.append_nil]
      intro z
      apply e
      rw [nodup_inj (f := (·.1)) h.nd hg' hg (z.symm.trans hκ)]
  · rcases List.mem_append.mp hq with hq | hq
    · exact h.all q hq
    · cases List.mem_singleton.mp hq
      exact ⟨_, hg, hκ.symm⟩
theorem Grp.new {H0 H H' : Hp} {gd z tt p : Addr} {m : Nat} {T : Ts} {gs : List (Int × Addr)} {κ : Int} {ns : List Int} {c : Int} (h : Grp H0 H gd m T gs) (hn : κ ∉ gs.map (·.1)) (nz : H z = none) (nz0 : H0 z = none)
    (hκ : GM.pw m (ns, c) = κ) (hK : ∀ b o, b ≠ gd → H b = some o → H' b = some o) (hgd : H' gd = some (.dK ((gs ++ [(κ, z)]).map fun g => ((Sum.inl g.1 : Key), V.ref g.2)))) (hz : H' z = some (.lst [.ref tt])) (htt : H' tt = some (.tup [.ref p, .int c])) (hp : H' p = some (.tup (ns.map V.int))) : Grp H0 H' gd m (T ++ [(ns, c)]) (gs ++ [(κ, z)]) := by
  have kt : KeepT H H' := fun b xs e => hK b _ (fun y => by rw [y, h.at_] at e; cases e) e
  have none_ : T.filter (GM.at_ m κ) = [] := by
    rw [List.filter_eq_nil_iff]
    intro q hq e
    obtain ⟨g, hg, eg⟩ := h.all q hq
    exact hn (List.mem_map.mpr ⟨g, hg, eg.trans (of_decide_eq_true e)⟩)
  refine ⟨hgd, ?_, ?_, fun g hg => ?_, fun q hq => ?_⟩
  · rw [List.map_append, List.nodup_append]
    refine ⟨h.nd, by simp, fun a ha b hb e => hn ?_⟩
    have : b = κ := by simpa using hb
    rw [← this, ← e]
    exact ha
  · rw [List.map_append, List.nodup_append]
    refine ⟨h.nda, by simp, fun a ha b hb e => ?_⟩
    have : b = z := by simpa using hb
    obtain ⟨g, hg, rfl⟩ := List.mem_map.mp ha
    obtain ⟨_, M', a1, _⟩ := h.grp g hg
    rw [e, this, nz] at a1
    cases a1
  · rcases List.mem_append.mp hg with hg | hg
    · obtain ⟨n0, M', a1, a2, a3, a4⟩ := h.grp g hg
      refine ⟨n0, M', hK _ _ (fun y => by rw [y, h.at_] at a1; cases a1) a1, a2.keep kt, ?_, a4⟩
      rw [a3, filt_snoc, if_neg, List.append_nil]
      intro y
      exact hn (List.mem_map.mpr ⟨g, hg, y.symm.trans hκ⟩)
    · cases List.mem_singleton.mp hg
      refine ⟨nz0, [⟨tt, p, ns, c⟩], hz, fun r hr => ?_, ?_, by simp⟩
      · cases List.mem_singleton.mp hr
        exact ⟨htt, hp⟩
      · rw [filt_snoc, none_, if_pos hκ]
        rfl
  · rcases List.mem_append.mp hq with hq | hq
    · obtain ⟨g, hg, e⟩ := h.all q hq
      exact ⟨g, List.mem_append_left _ hg, e⟩
    · cases List.mem_singleton.mp hq
      exact ⟨(κ, z), by simp, hκ.symm⟩
section
variable {P : Program} {w : World} {K : PySem.W.Frag} {mg : Str → Option Value} {base : Heap} {f : Nat → Addr} {d : Nat → FuncData}
def spGa (K : PySem.W.Frag) (m : Nat) : Sp := fun vs H Q _ => ∃ (t fl : Addr) (L : List Trm) (fs : List Addr) (xs : List Int), vs = [.ref t, .ref fl, .int (m : Nat)] ∧ TmAt K H t L ∧ (m = 0 → SqL K H t (L.map Trm.v)) ∧ L ≠ [] ∧ L.length ≤ 500 ∧ m ≤ 12 ∧ TmOk m 24 (L.map Trm.d) ∧
  H fl = some (.lst (fs.map V.ref)) ∧ m ≤ fs.length ∧ fs.length ≤ 1000 ∧ fs.length = xs.length ∧ (∀ j b, fs[j]? = some b → H b = some (.dK [(Sum.inl 0, .int (xs.getD j 0))])) ∧ (∀ x ∈ xs, x.natAbs < 2 ^ 110) ∧
  ∀ H' (e : Addr), Same H H' → H e = none → ZAt H' e (GM.tval xs m (L.map Trm.d)) → Q (.ref e) H'
theorem ok_ga0 {k : Nat} (D : Defs K mg f d) : FnOk P w K mg base CX0 (k + 1) (f i_gathered) (d i_gathered) ["terms", "factors", "many"] (spGa K 0) := by
  refine D.F_gathered.ok sc_gathered (fun vs H Q E h => ?_) (fun cdv A outer s H vs Q E hr h => ?_)
  · obtain ⟨t, fl, L, fs, xs, rfl, _⟩ := h
    rfl
  · obtain ⟨t, fl, L, fs, xs, rfl, hT, hl0, hne, hL, hm, hok, hfl, hmf, hfs, hfx, hfd, hx, q⟩ := h
    have nd := sc_gathered.nd
    refine ⟨_, pss_cons (ps_if (pt_not (pt_truth (pv 2) (by intro _; rfl)))
      (pss_one (ps_ret (pe_disp (pps_cons pe_int (pe_ix ix_tup (pe_ix ix_list (pv 0) pe_int (fun _ _ => rfl)) pe_int (fun _ _ => rfl)) pps_nil) (by rfl) (by rfl) (fun z => by cases z) (by decide))))
      pss_nil) pss_never, ?_⟩
    refine ⟨.int 0, rfl, _, rfl, iteT ?_⟩
    have h1 := hok.one
    rw [List.length_map] at h1
    have hlp : L.length = 1 := by
      have : L.length ≠ 0 := fun z => hne (List.length_eq_zero_iff.mp z)
      omega
    obtain ⟨r, hr0⟩ := List.length_eq_one_iff.mp hlp
    subst hr0
    refine fun e ne => ?_
    have s1 := same_new (o := .dK []) ne
    have he1 : upd H e (.dK []) e = some (.dK []) := upd_same
    have hl1 := sql_same s1 (hl0 rfl)
    obtain ⟨o1, o2⟩ := hT.rows r List.mem_cons_self
    have o1 := s1 _ _ o1
    generalize upd H e (.dK []) = H1 at s1 he1 hl1 o1
    refine ⟨.ref t, rfl, t, _, 0, .ref r.t, rfl, rfl, hl1, atI_nat (j := 0) rfl, r.t, _, 1, .int r.c, rfl, rfl, sqtOf o1, atI_nat (j := 1) rfl, he1, [(Sum.inl 0, .int r.c)], rfl, by show 1 ≤ 15; decide, ?_⟩
    have eM : mergeK [] [((Sum.inl 0 : Key), V.int r.c)] = [(Sum.inl 0, V.int r.c)] := rfl
    rw [eM]
    have ne0 := ne
    refine q _ e (fun c o ec => by rw [upd_ne (ne_of_none ec ne0)]; exact s1 _ _ ec) ne0 ?_
    have ev : GM.tval xs 0 ([r].map Trm.d) = r.c := by
      show r.c * 1 + 0 = r.c
      omega
    rw [ev]
    exact zat_one upd_same
theorem ok_gaS {k m : Nat} (D : Defs K mg f d) (G : FnOk P w K mg base CX0 (k + 2) (f i_gathered) (d i_gathered) ["terms", "factors", "many"] (spGa K m)) : FnOk P w K mg base CX0 (k + 3) (f i_gathered) (d i_gathered) ["terms", "factors", "many"] (spGa K (m + 1)) := by
  have G_packed_by_power : FnOk P w K mg base CX0 (k + 2) (f i_packed_by_power) (d i_packed_by_power) ["terms", "factor", "times"] spZB := ok_zb D
  have G_packed_plus : FnOk P w K mg base CX0 (k + 2) (f i_packed_plus) (d i_packed_plus) ["one", "other"] spZP := (ok_zp (k := k) D).mono (by omega)
  refine D.F_gathered.ok sc_gathered (fun vs H Q E h => ?_) (fun cdv A outer s H vs Q E hr h => ?_)
  · obtain ⟨t, fl, L, fs, xs, rfl, _⟩ := h
    rfl
  · obtain ⟨t, fl, L, fs, xs, rfl, hT, hl0, hne, hL, hm, hok, hfl, hmf, hfs, hfx, hfd, hx, q⟩ := h
    have nd := sc_gathered.nd
    have hu := hu_of hr
    refine ⟨_, pss_cons (ps_if (pt_not (pt_truth (pv 2) (by intro _; rfl))) pss_never pss_nil)
      (pss_cons (ps_set (i := 3) nd rfl (.inl rfl) (pe_dnewK))
      (pss_cons (ps_for PassesOwn.never rfl (pi_or (pi_list (pv 0)) (pi_tup (pv 0))) (pg_tup rfl (pgs_cons (pg_name (i := 4) nd rfl (.inl rfl)) (pgs_cons (pg_name (i := 5) nd rfl (.inl rfl)) pgs_nil)))
        (pss_one (ps_expr (pe_bm PySem.F.plainAttrs_list PySem.F.slot_list_append PySem.F.type_list_append mt_append (pe_dsetd (pv 3) (pe_ix ix_tup (pv 4) (pe_op op_sub (pv 2) pe_int) (fun _ _ => rfl)) (pe_lst pa_nil) ⟨rfl, rfl, rfl, rfl⟩) (pa_cons (pe_tup (pa_cons (pv 4) (pa_cons (pv 5) pa_nil))) pa_nil)))))
      (pss_cons (ps_set (i := 6) nd rfl (.inl rfl) (pe_dnewK))
      (pss_cons (ps_set (i := 7) nd rfl (.inl rfl) (pe_callB (cr_maxK rfl) (by rfl) D.z_max (by decide +kernel) (pa_cons (pv 3) pa_nil)))
      (pss_cons (ps_for PassesOwn.never rfl (pi_list (pe_callBK (cr_sortedRevK rfl) (by rfl) D.z_sorted (by decide +kernel) (pa_cons (pv 3) pa_nil) (pk_cons pe_bl pk_nil))) (pg_name (i := 8) nd rfl (.inl rfl))
        (pss_cons (ps_set (i := 6) nd rfl (.inl rfl) (pe_call G_packed_by_power hr (by rfl) D.g_packed_by_power D.F_packed_by_power.kp D.b_packed_by_power .nil pass0 (pa_cons (pv 6) (pa_cons (pe_ix ix_list (pv 1) (pe_op op_sub (pv 2) pe_int) (fun _ _ => rfl)) (pa_cons (pe_op op_sub (pv 7) (pv 8)) pa_nil)))))
        (pss_cons (ps_set (i := 6) nd rfl (.inl rfl) (pe_call G_packed_plus hr (by rfl) D.g_packed_plus D.F_packed_plus.kp D.b_packed_plus .nil pass0 (pa_cons (pv 6) (pa_cons (pe_call G hr (by rfl) D.g_gathered D.F_gathered.kp D.b_gathered .nil pass0 (pa_cons (pe_dget hu (pv 3) (pv 8) (fun _ _ => rfl)) (pa_cons (pv 1) (pa_cons (pe_op op_sub (pv 2) pe_int) pa_nil)))) pa_nil))))
        (pss_one (ps_set (i := 7) nd rfl (.inl rfl) (pv 8))))))
      (pss_one (ps_ret (pe_call G_packed_by_power hr (by rfl) D.g_packed_by_power D.F_packed_by_power.kp D.b_packed_by_power .nil pass0 (pa_cons (pv 6) (pa_cons (pe_ix ix_list (pv 1) (pe_op op_sub (pv 2) pe_int) (fun _ _ => rfl)) (pa_cons (pv 7) pa_nil))))))))))), ?_⟩
    refine ⟨.int ((m + 1 : Nat) : Int), rfl, _, rfl, ?_⟩
    have tr : (((m + 1 : Nat) : Int) != 0) = true := by
      simp
      omega
    rw [tr]
    refine iteF ?_
    dsimp only [tSeq, tAsg, gName]
    refine fun gd ngd => ?_
    have hgd : upd H gd (.dK []) gd = some (.dK []) := upd_same
    have s1 := same_new (o := .dK []) ngd
    generalize upd H gd (.dK []) = H1 at hgd s1
    have hrow1 : ∀ r ∈ L, H1 r.t = some (.tup [.ref r.p, .int r.c]) ∧ H1 r.p = some (.tup (r.ns.map V.int)) := fun r hr => ⟨s1 _ _ (hT.rows r hr).1, s1 _ _ (hT.rows r hr).2⟩
    have hlm : ∀ r ∈ L, m < r.ns.length := fun r hr => hok.len r.d (List.mem_map_of_mem hr)
    refine for_seq (i0 := 0) rfl hT.seq (fun i σ H' => ∃ y4 y5 gs, σ = [some (.ref t), some (.ref fl), some (.int ((m + 1 : Nat) : Int)), some (.ref gd), y4, y5, none, none, none] ∧ Same H H' ∧ gs.length ≤ i ∧ Grp H H' gd m ((L.take i).map Trm.d) gs)
      ⟨none, none, [], rfl, s1, Nat.le_refl _, ⟨hgd, List.nodup_nil, List.nodup_nil, (fun g hg => nomatch hg), (fun q hq => nomatch hq)⟩⟩ (fun i σ H' hi h => ?_) (fun i x σ H' hx h => ?_) (fun σ H' h => ?_)
    · obtain ⟨_, _, _, _, s, _⟩ := h
      exact s
    · obtain ⟨y4, y5, gs, rfl, sm, hgl, hG⟩ := h
      rw [List.getElem?_map] at hx
      obtain ⟨r, hr1, rfl⟩ := Option.map_eq_some_iff.mp hx
      have hrm := List.mem_of_getElem? hr1
      have hil : i < L.length := (List.getElem?_eq_some_iff.mp hr1).1
      obtain ⟨o1, o2⟩ := hT.rows r hrm
      have o1 := sm _ _ o1
      have o2 := sm _ _ o2
      have hml := hlm r hrm
      have eT : (L.take (i + 1)).map Trm.d = (L.take i).map Trm.d ++ [(r.ns, r.c)] := by
        rw [List.take_add_one, hr1, List.map_append]
        rfl
      rw [eT]
      have hat : atI (r.ns.map V.int) (((m + 1 : Nat) : Int) - 1) = some (.int (r.ns.getD m 0)) := by
        rw [show (((m + 1 : Nat) : Int) - 1) = ((m : Nat) : Int) by omega]
        refine atI_nat (j := m) ?_
        rw [List.getElem?_map, List.getElem?_eq_getElem hml, List.getD_eq_getElem?_getD, List.getElem?_eq_getElem hml]
        rfl
      refine ⟨r.t, _, rfl, sqtOf o1, rfl, _, _, rfl, _, _, rfl, rfl, ?_⟩
      have hκ : GM.pw m (r.ns, r.c) = r.ns.getD m 0 := rfl
      generalize r.ns.getD m 0 = κ at hat hκ
      refine ⟨.ref gd, rfl, gd, rfl, .inl ⟨_, .inl hG.at_⟩, .ref r.p, rfl, .int ((m + 1 : Nat) : Int), rfl, _, _, rfl, rfl, r.p, _, _, .int κ, rfl, rfl, sqtOf o2, hat, Nat.zero_le _, fun z nz => ?_⟩
      have sz := same_new (o := .lst ([] : List V)) nz
      have hz : upd H' z (.lst ([] : List V)) z = some (.lst []) := upd_same
      have hG2 := hG.same sz
      have o12 := sz _ _ o1
      have o22 := sz _ _ o2
      have nz0 : H z = none := sm.free nz
      have sm2 := sm.trans sz
      generalize upd H' z (.lst ([] : List V)) = H2 at sz hz hG2 o12 o22 sm2
      refine ⟨_, Sum.inl κ, hG2.at_, rfl, by rw [List.length_map, sizeLine_eq]; omega, fun v hv => ?_, fun hv => ?_⟩
      · obtain ⟨ga, hga, rfl⟩ := valV_gs hv
        obtain ⟨n0, M, a1, a2, a3, a4⟩ := hG2.grp _ hga
        dsimp only at n0 a1 a3
        refine ⟨.inl ⟨rfl, _, sqlOf a1⟩, .ref r.p, rfl, .int r.c, rfl, two_ok, fun tt ntt => ?_⟩
        have st := same_new (o := .tup [V.ref r.p, .int r.c]) ntt
        have ht : upd H2 tt (.tup [V.ref r.p, .int r.c]) tt = some (.tup [V.ref r.p, .int r.c]) := upd_same
        have hG3 := hG2.same st
        have a13 := st _ _ a1
        have a23 := a2.keep (same_keepT st)
        have o23 := st _ _ o22
        have sm3 := sm2.trans st
        generalize upd H2 tt (.tup [V.ref r.p, .int r.c]) = H3 at st ht hG3 a13 a23 o23 sm3
        have gat : tt ≠ ga := fun y => by rw [y, a13] at ht; cases ht
        have gap : r.p ≠ ga := fun y => by rw [y, a13] at o23; cases o23
        have hMl : M.length ≤ L.length := by
          have h1 := congrArg List.length a3
          rw [List.length_map] at h1
          have h2 := List.length_filter_le (GM.at_ m κ) ((L.take i).map Trm.d)
          rw [List.length_map, List.length_take] at h2
          omega
        refine ⟨ga, _, _, rfl, rfl, a13, by rw [List.length_map, sizeLine_eq]; omega, some (.ref r.p), some (.int r.c), gs, rfl, ?_, by omega, hG3.more hga a13 a23 a3 hκ (fun b o hb e => by rw [upd_ne hb]; exact e) upd_same (by rw [upd_ne gat]; exact ht) (by rw [upd_ne gap]; exact o23)⟩
        exact fun b o e => by rw [upd_ne (ne_of_none e n0)]; exact sm3 _ _ e
      · have hn := valV_gsn hv
        have zgd : z ≠ gd := fun y => by
          have := hG2.at_
          rw [← y, hz] at this
          cases this
        have hz3 : upd H2 gd (.dK (putK (gs.map fun g => ((Sum.inl g.1 : Key), V.ref g.2)) (Sum.inl κ) (.ref z))) z = some (.lst []) := by rw [upd_ne zgd]; exact hz
        refine ⟨.inl ⟨rfl, _, sqlOf hz3⟩, .ref r.p, rfl, .int r.c, rfl, two_ok, fun tt ntt => ?_⟩
        rw [putK_gs hn] at ntt hz3 ⊢
        have hgd3 : upd H2 gd (.dK ((gs ++ [(κ, z)]).map fun g => ((Sum.inl g.1 : Key), V.ref g.2))) gd = some (.dK ((gs ++ [(κ, z)]).map fun g => ((Sum.inl g.1 : Key), V.ref g.2))) := upd_same
        have k3 : But gd H2 (upd H2 gd (.dK ((gs ++ [(κ, z)]).map fun g => ((Sum.inl g.1 : Key), V.ref g.2)))) := But.start
        have pgd : r.p ≠ gd := fun y => by
          have := hG2.at_
          rw [← y, o22] at this
          cases this
        have o23 := k3 _ _ pgd o22
        generalize upd H2 gd (.dK ((gs ++ [(κ, z)]).map fun g => ((Sum.inl g.1 : Key), V.ref g.2))) = H3 at ntt hz3 hgd3 k3 o23
        have st := same_new (o := .tup [V.ref r.p, .int r.c]) ntt
        have ht : upd H3 tt (.tup [V.ref r.p, .int r.c]) tt = some (.tup [V.ref r.p, .int r.c]) := upd_same
        have hz4 := st _ _ hz3
        have hgd4 := st _ _ hgd3
        have o24 := st _ _ o23
        have k4 := k3.then st
        generalize upd H3 tt (.tup [V.ref r.p, .int r.c]) = H4 at st ht hz4 hgd4 o24 k4
        have ttz : tt ≠ z := fun y => by rw [y, hz4] at ht; cases ht
        have pz : r.p ≠ z := fun y => by rw [y, hz4] at o24; cases o24
        have ngd0 : H gd = none := ngd
        refine ⟨z, _, _, rfl, rfl, hz4, by rw [sizeLine_eq]; decide, some (.ref r.p), some (.int r.c), gs ++ [(κ, z)], rfl, fun b o e => ?_, by rw [List.length_append]; show gs.length + 1 ≤ i + 1; omega, ?_⟩
        · rw [upd_ne (ne_of_none e nz0)]
          exact k4 _ _ (ne_of_none e ngd0) (sm2 _ _ e)
        · refine hG.new hn nz nz0 hκ (fun b o hb e => ?_) (by rw [upd_ne zgd.symm]; exact hgd4) upd_same (by rw [upd_ne ttz]; exact ht) (by rw [upd_ne pz]; exact o24)
          rw [upd_ne (ne_of_none e nz)]
          exact k4 _ _ hb (sz _ _ e)
    · obtain ⟨y4, y5, gs, rfl, sm, hgl, hG⟩ := h
      rw [List.length_map, List.take_length] at hG
      rw [List.length_map] at hgl
      clear hgd s1 hrow1
      dsimp only [tSeq, tAsg, gName]
      refine fun e0 ne0 => ?_
      have se := same_new (o := .dK []) ne0
      have hG1 := hG.same se
      have hz1 : ZAt (upd H' e0 (.dK [])) e0 0 := zat_empty upd_same
      have sm1 := sm.trans se
      generalize upd H' e0 (.dK []) = H1 at se hG1 hz1 sm1
      have hTne : (L.map Trm.d) ≠ [] := fun z => hne (List.map_eq_nil_iff.mp z)
      have hgl2 : 0 < (gs.map (·.1)).length := by
        cases hL0 : L with
        | nil => exact absurd hL0 hne
        | cons r Lt =>
          obtain ⟨g, hg, _⟩ := hG1.all r.d (by rw [hL0]; exact List.mem_cons_self)
          exact List.length_pos_of_mem (List.mem_map_of_mem hg)
      refine ⟨.ref gd, rfl, gd, _, gs.map (·.1), rfl, .inl hG1.at_, gs_keys gs, hgl2, fun mx hmx hmax => ?_⟩
      refine ⟨.ref gd, rfl, gd, _, gs.map (·.1), rfl, rfl, .inl hG1.at_, gs_keys gs, fun ys p hperm hsrt np => ?_⟩
      have sp := same_new (o := .lst (ys.map V.int)) np
      have hp : upd H1 p (.lst (ys.map V.int)) p = some (.lst (ys.map V.int)) := upd_same
      have hG2 := hG1.same sp
      have hz2 := hz1.same sp
      have sm2 := sm1.trans sp
      generalize upd H1 p (.lst (ys.map V.int)) = H2 at sp hp hG2 hz2 sm2
      have hdesc : ys.Pairwise (· > ·) := by
        have nd2 : ys.Nodup := hperm.nodup_iff.mpr hG2.nd
        exact (hsrt.and nd2).imp fun h => by
          have h1 := h.1
          have h2 := h.2
          omega
      have hin : ∀ q ∈ L.map Trm.d, GM.pw m q ∈ ys := fun q hq => by
        obtain ⟨g, hg, e⟩ := hG2.all q hq
        exact hperm.mem_iff.mpr (by rw [← e]; exact List.mem_map_of_mem hg)
      have hout : ∀ y ∈ ys, ∃ ga M, (y, ga) ∈ gs ∧ H2 ga = some (.lst (M.map Trm.v)) ∧ RowsOk H2 M ∧ M.map Trm.d = (L.map Trm.d).filter (GM.at_ m y) ∧ M ≠ [] := fun y hy => by
        obtain ⟨g, hg, rfl⟩ := List.mem_map.mp (hperm.mem_iff.mp hy)
        obtain ⟨n0, M, a⟩ := hG2.grp g hg
        exact ⟨g.2, M, hg, a⟩
      have hrange : ∀ y ∈ ys, 0 ≤ y ∧ y ≤ 24 := fun y hy => by
        obtain ⟨ga, M, hg, a1, a2, a3, a4⟩ := hout y hy
        cases M with
        | nil => exact absurd rfl a4
        | cons r M =>
          have hr : r.d ∈ (L.map Trm.d).filter (GM.at_ m y) := by rw [← a3]; exact List.mem_cons_self
          obtain ⟨h1, h2⟩ := List.mem_filter.mp hr
          have h3 : GM.pw m r.d = y := of_decide_eq_true h2
          have := hok.pos r.d h1 m (Nat.lt_succ_self m)
          unfold GM.pw at h3
          omega
      have hyl : ys.length = (gs.map (·.1)).length := hperm.length_eq
      obtain ⟨y0, yt, rfl⟩ : ∃ y0 yt, ys = y0 :: yt := by
        cases ys with
        | nil => rw [List.length_nil] at hyl; omega
        | cons a b => exact ⟨a, b, rfl⟩
      obtain rfl : mx = y0 := by
        have h1 := hmax y0 (hperm.mem_iff.mp List.mem_cons_self)
        have h2 : mx ∈ y0 :: yt := hperm.mem_iff.mpr hmx
        rcases List.mem_cons.mp h2 with h2 | h2
        · exact h2
        · have := (List.pairwise_cons.mp hdesc).1 mx h2
          omega
      generalize hys : mx :: yt = ys at *
      have hys0 : ys.getD 0 0 = mx := by rw [← hys]; rfl
      have hylen : 0 < ys.length := by rw [← hys]; exact Nat.succ_pos _
      have hfb : ∃ fb, fs[m]? = some fb := ⟨fs[m], List.getElem?_eq_getElem (by omega)⟩
      obtain ⟨fb, hfb⟩ := hfb
      have hfbd := hfd m fb hfb
      have hxm : (xs.getD m 0).natAbs < 2 ^ 110 := by
        rw [List.getD_eq_getElem?_getD, List.getElem?_eq_getElem (by omega)]
        exact hx _ (List.getElem_mem _)
      have hatf : atI (fs.map V.ref) (((m + 1 : Nat) : Int) - 1) = some (.ref fb) := by
        rw [show (((m + 1 : Nat) : Int) - 1) = ((m : Nat) : Int) by omega]
        exact atI_nat (j := m) (by rw [List.getElem?_map, hfb]; rfl)
      have hxs : ∀ x ∈ xs, x.natAbs ≤ 2 ^ 110 := fun x h => Nat.le_of_lt (hx x h)
      -- how great it all is
      have bnd : ∀ (q : List Int × Int) (b : Nat), q ∈ L.map Trm.d → b ≤ 24 → (q.2 * GM.mono xs m q.1 * (xs.getD m 0) ^ b).natAbs ≤ 2 ^ 39000 := fun q b hq hb => by
        have h1 := hok.sm q hq
        have h2 := GM.mono_bits (xs := xs) (E := 110) (W := 24) hxs (m := m) (p := q.1) fun j hj => by
          have := hok.pos q hq j (by omega)
          omega
        have h3 : ((xs.getD m 0) ^ b).natAbs ≤ 2 ^ (110 * 24) := by
          rw [Int.natAbs_pow]
          refine Nat.le_trans (Nat.pow_le_pow_left (Nat.le_of_lt hxm) _) ?_
          rw [← Nat.pow_mul]
          exact Nat.pow_le_pow_right (by decide) (Nat.mul_le_mul_left _ hb)
        rw [Int.natAbs_mul, Int.natAbs_mul]
        have h4 := Nat.mul_le_mul (Nat.mul_le_mul (Nat.le_of_lt h1) h2) h3
        rw [← Nat.pow_add, ← Nat.pow_add] at h4
        refine Nat.le_trans h4 (Nat.pow_le_pow_right (by decide) ?_)
        omega
      have ptb : ∀ a : Int, 0 ≤ a → (GM.pt xs m a (L.map Trm.d)).natAbs < 2 ^ 40000 := fun a ha => by
        have h1 := GM.pt_bits (xs := xs) (j := m) (B := 2 ^ 39000) (a := a) (T := L.map Trm.d) fun q hq hq2 => bnd q _ hq (by
          have := hok.pos q hq m (Nat.lt_succ_self m)
          unfold GM.pw at hq2 ⊢
          omega)
        rw [List.length_map] at h1
        refine Nat.lt_of_le_of_lt h1 (Nat.lt_of_le_of_lt (Nat.mul_le_mul_right _ (show L.length ≤ 2 ^ 10 from Nat.le_trans hL (by decide))) ?_)
        rw [← Nat.pow_add]
        exact Nat.pow_lt_pow_right (by decide) (by decide)
      refine ⟨p, rfl, ⟨_, sqlOf hp⟩, for_list (xs := ys.map V.int) (fun i σ H' => ∃ er y8, σ = [some (.ref t), some (.ref fl), some (.int ((m + 1 : Nat) : Int)), some (.ref gd), y4, y5, some (.ref er), some (.int (ys.getD (i - 1) 0)), y8] ∧ Same H2 H' ∧ ZAt H' er (if i = 0 then 0 else GM.pt xs m (ys.getD (i - 1) 0) (L.map Trm.d)))
        ⟨e0, none, by rw [hys0]; rfl, fun _ _ e => e, hz2⟩ (fun i σ H' _ h => ?_) (fun i x σ H' hx' h => ?_) (fun σ H' h => ?_)⟩
      · obtain ⟨_, _, _, s, _⟩ := h
        exact sqlOf (s _ _ hp)
      · obtain ⟨er, y8, rfl, s3, hz⟩ := h
        rw [List.getElem?_map] at hx'
        obtain ⟨b, hb, rfl⟩ := Option.map_eq_some_iff.mp hx'
        have hil : i < ys.length := (List.getElem?_eq_some_iff.mp hb).1
        have hbm : b ∈ ys := List.mem_of_getElem? hb
        have hrb := hrange b hbm
        obtain ⟨a, ha⟩ : ∃ a, ys[i - 1]? = some a := ⟨ys[i - 1], List.getElem?_eq_getElem (by omega)⟩
        have ham : a ∈ ys := List.mem_of_getElem? ha
        have hra := hrange a ham
        have ead : ys.getD (i - 1) 0 = a := by rw [List.getD_eq_getElem?_getD, ha]; rfl
        have ebd : ys.getD (i + 1 - 1) 0 = b := by rw [Nat.add_sub_cancel, List.getD_eq_getElem?_getD, hb]; rfl
        rw [ead] at hz ⊢
        rw [ebd]
        have hba : b ≤ a := by
          by_cases z : i = 0
          · subst z
            rw [ha] at hb
            cases hb
            exact Int.le_refl _
          · exact Int.le_of_lt (desc_lt hdesc ha hb (by omega))
        have en : a - b = ((a - b).toNat : Nat) := by omega
        have hG' := hG2.same s3
        obtain ⟨ga, M, hga, a1, a2, a3, a4⟩ := hout b hbm
        have a1 := s3 _ _ a1
        have a2 := a2.keep (same_keepT s3)
        have smH := sm2.trans s3
        have hR : (if i = 0 then 0 else GM.pt xs m a (L.map Trm.d)).natAbs < 2 ^ 40000 := by
          split
          · exact Nat.pow_pos (by decide)
          · exact ptb a hra.1
        refine ⟨.ref er, rfl, .ref fl, rfl, .int ((m + 1 : Nat) : Int), rfl, _, _, rfl, rfl, fl, _, _, .ref fb, rfl, rfl, sqlOf (smH _ _ hfl), hatf, .int a, rfl, .int b, rfl, _, _, rfl, rfl, ?_⟩
        dsimp only
        rw [en]
        refine ⟨er, fb, _, xs.getD m 0, (a - b).toNat, 110, rfl, hz, smH _ _ hfbd, hR, hxm, by decide, by omega, fun H3 e3 s4 n3 hz3 => ?_⟩
        have hga4 := valV_gsm hG'.nd hga
        refine ⟨.ref e3, rfl, .ref gd, rfl, .int b, rfl, gd, .ref ga, rfl, .inl ⟨_, Sum.inl b, .inl (s4 _ _ hG'.at_), rfl, hga4.symm⟩, .ref fl, rfl, .int ((m + 1 : Nat) : Int), rfl, _, _, rfl, rfl, ?_⟩
        have smH4 := smH.trans s4
        have hMl : M.length ≤ 500 := by
          have h1 := congrArg List.length a3
          rw [List.length_map] at h1
          have h2 := List.length_filter_le (GM.at_ m b) (L.map Trm.d)
          rw [List.length_map] at h2
          omega
        refine ⟨ga, fl, M, fs, xs, ?_, ⟨.inl (sqlOf (s4 _ _ a1)), a2.keep (same_keepT s4)⟩, fun _ => sqlOf (s4 _ _ a1), a4, hMl, by omega, by rw [a3]; exact hok.part b, smH4 _ _ hfl, by omega, hfs, hfx, fun j fb' hj => smH4 _ _ (hfd j fb' hj), hx, fun H5 e5 s5 n5 hz5 => ?_⟩
        · show [V.ref ga, .ref fl, .int (((m + 1 : Nat) : Int) - 1)] = _
          rw [show (((m + 1 : Nat) : Int) - 1) = ((m : Nat) : Int) by omega]
        refine ⟨e3, e5, _, _, rfl, hz3.same s5, hz5, fun H6 e6 s6 n6 hz6 => ?_⟩
        refine ⟨.int b, rfl, e6, some (.int b), rfl, ((s3.trans s4).trans s5).trans s6, ?_⟩
        rw [if_neg (Nat.succ_ne_zero i)]
        have hval : (if i = 0 then 0 else GM.pt xs m a (L.map Trm.d)) * (xs.getD m 0) ^ (a - b).toNat + GM.tval xs m (M.map Trm.d) = GM.pt xs m b (L.map Trm.d) := by
          rw [a3]
          by_cases z : i = 0
          · rw [if_pos z, Int.zero_mul, Int.zero_add]
            subst z
            refine (GM.pt_first fun q hq => ?_).symm
            have h1 := hin q hq
            obtain ⟨j, hj, ej⟩ := List.mem_iff_getElem.mp h1
            rcases Nat.eq_zero_or_pos j with z | z
            · subst z
              rw [List.getElem?_eq_getElem hj, ej] at hb
              cases hb
              exact Int.le_refl _
            · exact Int.le_of_lt (desc_lt hdesc hb (by rw [List.getElem?_eq_getElem hj, ej]) z)
          · rw [if_neg z]
            refine (GM.pt_step (desc_lt hdesc ha hb (by omega)) fun q hq hqa => ?_).symm
            have h1 := hin q hq
            obtain ⟨j, hj, ej⟩ := List.mem_iff_getElem.mp h1
            have hj2 : ys[j]? = some (GM.pw m q) := by rw [List.getElem?_eq_getElem hj, ej]
            by_cases y : j ≤ i - 1
            · exfalso
              rcases Nat.lt_or_eq_of_le y with y | y
              · have := desc_lt hdesc hj2 ha y
                omega
              · rw [y, ha] at hj2
                cases hj2
                omega
            · by_cases y2 : j = i
              · rw [y2, hb] at hj2
                cases hj2
                exact Int.le_refl _
              · exact Int.le_of_lt (desc_lt hdesc hb hj2 (by omega))
        rw [← hval]
        exact hz6
      · obtain ⟨er, y8, rfl, s3, hz⟩ := h
        rw [List.length_map] at hz ⊢
        obtain ⟨a, ha⟩ : ∃ a, ys[ys.length - 1]? = some a := ⟨ys[ys.length - 1], List.getElem?_eq_getElem (by omega)⟩
        have ham : a ∈ ys := List.mem_of_getElem? ha
        have hra := hrange a ham
        have ead : ys.getD (ys.length - 1) 0 = a := by rw [List.getD_eq_getElem?_getD, ha]; rfl
        rw [ead, if_neg (by omega)] at hz
        rw [ead]
        have en : a = (a.toNat : Nat) := by omega
        have smH := sm2.trans s3
        refine ⟨.ref er, rfl, .ref fl, rfl, .int ((m + 1 : Nat) : Int), rfl, _, _, rfl, rfl, fl, _, _, .ref fb, rfl, rfl, sqlOf (smH _ _ hfl), hatf, .int a, rfl, ?_⟩
        refine ⟨er, fb, _, xs.getD m 0, a.toNat, 110, ?_, hz, smH _ _ hfbd, ptb a hra.1, hxm, by decide, by omega, fun H3 e3 s4 n3 hz3 => ?_⟩
        · rw [← en]
          rfl
        · rw [GM.pt_last hra.1 fun q hq => ?_] at hz3
          · exact q H3 e3 (smH.trans s4) (smH.free n3) hz3
          · have h1 := hin q hq
            obtain ⟨j, hj, ej⟩ := List.mem_iff_getElem.mp h1
            have hj2 : ys[j]? = some (GM.pw m q) := by rw [List.getElem?_eq_getElem hj, ej]
            by_cases y2 : j = ys.length - 1
            · rw [y2, ha] at hj2
              cases hj2
              exact Int.le_refl _
            · exact Int.le_of_lt (desc_lt hdesc hj2 ha (by omega))
theorem ok_ga {k : Nat} (D : Defs K mg f d) : ∀ m, FnOk P w K mg base CX0 (k + 3 + m) (f i_gathered) (d i_gathered) ["terms", "factors", "many"] (spGa K m)
  | 0 => (ok_ga0 (k := k) D).mono (by omega)
  | m + 1 => by
    have G := ok_ga (k := k) D m
    have := ok_gaS (k := k + 1 + m) D (G.mono (by omega))
    exact this.mono (by omega)
end
end NH
set_option Elab.async false
set_option linter.all false
set_option maxRecDepth 100000
set_option maxHeartbeats 1000000
set_option exponentiation.threshold 100000
namespace NH
open PySem PySem.Spec PyProof.Rows L2 R1 ZN PK RS
/-- a term with ms added to its powers -/
def more (ms : List Int) (q : List Int × Int) : List Int × Int := (List.zipWith (fun a b => a + 1 * b) q.1 ms, q.2)
section
variable {P : Program} {w : World} {K : PySem.W.Frag} {mg : Str → Option Value} {base : Heap}
def spMovedL : Sp := fun vs H Q _ => ∃ (t p : Addr) (ms : List Int) (L : List Trm), vs = [.ref t, .ref p, .int 1] ∧ SumAt H t L ∧ L.length ≤ 1000 ∧ H p = some (.lst (ms.map V.int)) ∧ ms.length ≤ 1000 ∧ (∀ r ∈ L, r.ns.length = ms.length) ∧
  ∀ H' (t' : Addr) (L' : List Trm), Same H H' → H t' = none → SumAt H' t' L' → L'.map Trm.d = (L.map Trm.d).map (more ms) → Q (.ref t') H'
theorem ok_movedL {f : Addr} {fd : FuncData} {k : Nat} (F : Fun K "moved" "moved" sMoved f fd) (mt : mg "tuple" = none) (mz : mg "zip" = none) : FnOk P w K mg base CX0 (k + 1) f fd ["told", "powers", "sign"] spMovedL := by
  refine F.ok scMoved (fun vs H Q E h => ?_) (fun cdv A outer s H vs Q E hr h => ?_)
  · obtain ⟨t, m, L, _, rfl, _⟩ := h
    rfl
  · obtain ⟨t, p, ms, L, rfl, hS, hL, hp, hms, hlen, q⟩ := h
    refine ⟨_, pss_one (ps_ret (pe_callTy call_tuple_of (by rfl) mt (by decide +kernel) (pa_cons (pe_lc (own := [("own", 3), ("coefficient", 4)]) (g := gTup K 2 (gCons (gName 3) (gCons (gName 4) gNil))) (by rfl) scMoved.nd (pi_tup (pv 0)) (blkOk_by (own := [("own", 3), ("coefficient", 4)]) (N := nmMoved) (sc := defScope sMoved) (by decide +kernel))
          (fun _ _ _ _ _ => pg_tup rfl (pgs_cons (pg_name (i := 3) scMoved.nd rfl (.inl rfl)) (pgs_cons (pg_name (i := 4) scMoved.nd rfl (.inl rfl)) pgs_nil))) (fun _ _ _ _ _ => pts_nil)
          (fun _ _ _ _ _ => pe_tup (pa_cons (pe_callTy (r := fun xs H Q => ∃ p ys, xs = [.ref p] ∧ ((SqL K H p ys ∧ ∀ l, H l = none → Q (.ref l) (upd H l (.tup ys))) ∨ (SqT K H p ys ∧ Q (.ref p) H))) call_tuple_of (by rfl) mt (by decide +kernel) (pa_cons (pe_lc (wi := iZipM K (tCons (tVar 3) (tCons (tVar 1) tNil))) (own := [("one", 5), ("other", 6)]) (g := gTup K 2 (gCons (gName 5) (gCons (gName 6) gNil))) (by rfl) scMoved.nd (pi_zipM (by rfl) mz (pa_cons (pv 3) (pa_cons (pv 1) pa_nil))) (blkOk_by (own := [("one", 5), ("other", 6)]) (N := nmMoved) (by rfl))
              (fun _ _ _ _ _ => pg_tup rfl (pgs_cons (pg_name (i := 5) scMoved.nd rfl (.inl rfl)) (pgs_cons (pg_name (i := 6) scMoved.nd rfl (.inl rfl)) pgs_nil))) (fun _ _ _ _ _ => pts_nil)
              (fun _ _ _ _ _ => pe_op op_add (pv 5) (pe_op op_mul (pv 2) (pv 6)))) pa_nil)) (pa_cons (pv 4) pa_nil)))) pa_nil))), ?_⟩
    refine ⟨.ref t, rfl, t, rfl, ⟨_, hS.sq⟩, fun D nD => ?_⟩
    refine lc_tup (xs := L.map Trm.v) (fun j H' => ∃ L' : List Trm, H' D = some (.lst (L'.map Trm.v)) ∧ RowsOk H' L' ∧ L'.map Trm.d = ((L.take j).map Trm.d).map (more ms) ∧ ∀ b o, b ≠ D → H b = some o → H' b = some o) ⟨[], upd_same, (fun r h => by cases h), by simp, fun b o hb e => by rw [upd_ne hb]; exact e⟩ (fun i H' _ h => ?_) (fun i x H1 hx h => ?_) (fun H1 h => ?_)
    · obtain ⟨_, _, _, _, kp⟩ := h
      exact .inl (.inl (kp t _ (ne_of_none hS.at_ nD) hS.at_))
    · obtain ⟨L', hD, ho, ed, kp⟩ := h
      rw [List.getElem?_map] at hx
      obtain ⟨r, hr1, rfl⟩ := Option.map_eq_some_iff.mp hx
      obtain ⟨o1, o2⟩ := hS.rows r (List.mem_of_getElem? hr1)
      have hlt := (List.getElem?_eq_some_iff.mp hr1).1
      have hrl := hlen r (List.mem_of_getElem? hr1)
      have up : ∀ {b o}, H b = some o → H1 b = some o := fun {b o} e => kp b o (ne_of_none e nD) e
      refine ⟨r.t, _, rfl, .inl (.inl (up o1)), rfl, _, _, rfl, _, _, rfl, rfl, rfl, .ref r.p, rfl, .ref p, rfl, r.p, p, _, _, rfl, .inl (.inl (up o2)), .inl (.inl (up hp)), fun D2 nD2 => ?_⟩
      refine lc_it (walk_zipM (xs := r.ns.map V.int) (ys := ms.map V.int) (by rw [List.length_map, List.length_map, hrl])) (fun j H' => H' D2 = some (.lst (((List.zipWith (fun a b => a + 1 * b) r.ns ms).take j).map V.int)) ∧ ∀ b o, b ≠ D2 → H1 b = some o → H' b = some o) ⟨upd_same, fun b o hb e => by rw [upd_ne hb]; exact e⟩ (fun j H' _ h => ?_) (fun j x H2 H' hj h hy => ?_) (fun H2 h => ?_)
      · exact ⟨.inl (.inl (h.2 _ _ (ne_of_none (up o2) nD2) (up o2))), .inl (.inl (h.2 _ _ (ne_of_none (up hp) nD2) (up hp)))⟩
      · obtain ⟨hD2, kp2⟩ := h
        obtain ⟨T, x1, x2, rfl, nT, rfl, e1, e2⟩ := hy
        dsimp only at e1 e2
        rw [List.getElem?_map] at e1 e2
        obtain ⟨n1, f1, rfl⟩ := Option.map_eq_some_iff.mp e1
        obtain ⟨n2, f2, rfl⟩ := Option.map_eq_some_iff.mp e2
        have hj1 := (List.getElem?_eq_some_iff.mp f1).1
        have TD : D2 ≠ T := ne_of_none hD2 nT
        refine ⟨T, _, rfl, .inl (.inl upd_same), rfl, _, _, rfl, _, _, rfl, rfl, rfl, .int n1, rfl, .int 1, rfl, .int n2, rfl, 1, n2, rfl, rfl, .inl ⟨by decide, by decide⟩, n1, 1 * n2, rfl, rfl, _, (by rw [upd_ne TD]; exact hD2), ?_, ?_, fun b o hb e => ?_⟩
        · rw [List.length_map, List.length_take, List.length_zipWith, sizeLine_eq]
          omega
        · rw [upd_same, zip_take f1 f2, List.map_append]
          rfl
        · rw [upd_ne hb]
          exact same_new nT _ _ (kp2 b o hb e)
      · obtain ⟨hD2, kp2⟩ := h
        rw [List.length_map, List.take_of_length_le (by rw [List.length_zipWith]; omega)] at hD2
        have up2 : ∀ {b o}, H1 b = some o → H2 b = some o := fun {b o} e => kp2 b o (ne_of_none e nD2) e
        refine ⟨D2, _, rfl, .inl ⟨sqlOf hD2, fun p2 np2 => ?_⟩⟩
        refine ⟨.int r.c, rfl, size2', fun t2 nt2 => ?_⟩
        have h4 : ∀ {b o}, H1 b = some o → upd (upd H2 p2 (.tup ((List.zipWith (fun a b => a + 1 * b) r.ns ms).map V.int))) t2 (.tup [.ref p2, .int r.c]) b = some o := fun {b o} e => same_new nt2 _ _ (same_new np2 _ _ (up2 e))
        obtain ⟨g1, g2⟩ := rows_step (D := D) (t := t2) (p := p2) (ns := List.zipWith (fun a b => a + 1 * b) r.ns ms) (c := r.c) (h4 hD) (ho.keep fun b xs e => h4 e) upd_same (same_new nt2 _ _ upd_same)
        have ll : L'.length = i := by
          have := congrArg List.length ed
          simp at this
          omega
        refine ⟨_, h4 hD, (by rw [List.length_map, sizeLine_eq]; omega), _, g1, g2, ?_, fun b o hb e => ?_⟩
        · rw [List.map_append, ed, List.take_add_one, hr1, List.map_append, List.map_append]
          rfl
        · rw [upd_ne hb]
          exact h4 (kp b o hb e)
    · obtain ⟨L', hD, ho, ed, kp⟩ := h
      rw [List.length_map, List.take_length] at ed
      have sm : Same H H1 := fun b o e => kp b o (ne_of_none e nD) e
      refine ⟨D, _, rfl, .inl ⟨sqlOf hD, fun t' nt' => ?_⟩⟩
      exact q _ t' L' (sm.trans (same_new nt')) (sm.free nt') ⟨upd_same, ho.keep (same_keepT (same_new nt'))⟩ ed
/-! ### freed -/
end
end NH
set_option Elab.async false
set_option linter.all false
set_option maxRecDepth 100000
namespace GM
/-! ### fractions in lowest terms -/
structure IsLow (T B a b : Int) : Prop where
  pos : 0 < b
  cop : Nat.gcd a.natAbs b.natAbs = 1
  eq : T * b = a * B
theorem IsLow.uniq {T B T2 B2 a b a2 b2 : Int} (h : IsLow T B a b) (h2 : IsLow T2 B2 a2 b2) (hB : B ≠ 0) (hB2 : B2 ≠ 0) (e : T * B2 = T2 * B) : a = a2 ∧ b = b2 := by
  -- a * b2 = a2 * b
  have e1 : a * b2 = a2 * b := by
    have h3 : (a * b2) * (B * B2) = (a2 * b) * (B * B2) := by
      calc (a * b2) * (B * B2) = (a * B) * (b2 * B2) := by grind
        _ = (T * b) * (b2 * B2) := by rw [h.eq]
        _ = (T * B2) * (b * b2) := by grind
        _ = (T2 * B) * (b * b2) := by rw [e]
        _ = (T2 * b2) * (b * B) := by grind
        _ = (a2 * B2) * (b * B) := by rw [h2.eq]
        _ = (a2 * b) * (B * B2) := by grind
    exact Int.eq_of_mul_eq_mul_right (Int.mul_ne_zero hB hB2) h3
  have d1 : b.natAbs ∣ b2.natAbs := by
    have : b.natAbs ∣ (a.natAbs * b2.natAbs) := by
      rw [← Int.natAbs_mul, e1, Int.natAbs_mul]
      exact Nat.dvd_mul_left _ _
    exact (Nat.Coprime.symm h.cop).dvd_of_dvd_mul_left this
  have d2 : b2.natAbs ∣ b.natAbs := by
    have : b2.natAbs ∣ (a2.natAbs * b.natAbs) := by
      rw [← Int.natAbs_mul, ← e1, Int.natAbs_mul]
      exact Nat.dvd_mul_left _ _
    exact (Nat.Coprime.symm h2.cop).dvd_of_dvd_mul_left this
  have eb : b = b2 := by
    have := Nat.dvd_antisymm d1 d2
    have p1 := h.pos
    have p2 := h2.pos
    omega
  subst eb
  refine ⟨?_, rfl⟩
  exact Int.eq_of_mul_eq_mul_right (by have := h.pos; omega) e1
/-- division by the common divisor with the sign of the lower one -/
theorem low_of {T B s : Int} (hB : B ≠ 0) (hs : s = if B < 0 then -((Nat.gcd T.natAbs B.natAbs : Nat) : Int) else ((Nat.gcd T.natAbs B.natAbs : Nat) : Int)) : s ≠ 0 ∧ s.natAbs = Nat.gcd T.natAbs B.natAbs ∧ IsLow T B (T.fdiv s) (B.fdiv s) := by
  have g0 : 0 < Nat.gcd T.natAbs B.natAbs := Nat.gcd_pos_of_pos_right _ (by omega)
  have sa : s.natAbs = Nat.gcd T.natAbs B.natAbs := by
    rw [hs]
    split <;> omega
  have s0 : s ≠ 0 := by omega
  obtain ⟨t, ht⟩ : s ∣ T := Int.natAbs_dvd_natAbs.mp (by rw [sa]; exact Nat.gcd_dvd_left _ _)
  obtain ⟨b, hb⟩ : s ∣ B := Int.natAbs_dvd_natAbs.mp (by rw [sa]; exact Nat.gcd_dvd_right _ _)
  have e1 : T.fdiv s = t := by rw [ht]; exact Int.mul_fdiv_cancel_left _ s0
  have e2 : B.fdiv s = b := by rw [hb]; exact Int.mul_fdiv_cancel_left _ s0
  refine ⟨s0, sa, ?_, ?_, ?_⟩
  · rw [e2]
    by_cases h : B < 0
    · rw [if_pos h] at hs
      have sn : s < 0 := by omega
      rw [hb] at h
      by_cases hb0 : 0 < b
      · exact hb0
      · exfalso
        have : 0 ≤ s * b := Int.mul_nonneg_of_nonpos_of_nonpos (by omega) (by omega)
        omega
    · rw [if_neg h] at hs
      have sp : 0 < s := by omega
      have hb1 : 0 < s * b := by rw [← hb]; omega
      by_cases hb0 : 0 < b
      · exact hb0
      · exfalso
        have := Int.mul_nonpos_of_nonneg_of_nonpos (a := s) (b := b) (by omega) (by omega)
        omega
  · rw [e1, e2]
    have h1 : T.natAbs = s.natAbs * t.natAbs := by rw [ht, Int.natAbs_mul]
    have h2 : B.natAbs = s.natAbs * b.natAbs := by rw [hb, Int.natAbs_mul]
    have h3 : Nat.gcd T.natAbs B.natAbs = s.natAbs * Nat.gcd t.natAbs b.natAbs := by rw [h1, h2, Nat.gcd_mul_left]
    rw [← sa] at h3
    have : s.natAbs * Nat.gcd t.natAbs b.natAbs = s.natAbs * 1 := by omega
    exact Nat.eq_of_mul_eq_mul_left (by omega) this
  · rw [e1, e2]
    rw [ht, hb]
    grind
/-- all letters raised -/
def prodP (xs : List Int) : Nat → List Int → Int
  | 0, _ => 1
  | m + 1, ms => prodP xs m ms * (xs.getD m 0) ^ (ms.getD m 0).toNat
theorem prodP_mono (xs : List Int) : ∀ (m : Nat) (ms : List Int), prodP xs m ms = mono xs m ms
  | 0, _ => rfl
  | m + 1, ms => by rw [prodP, mono, prodP_mono xs m ms]
theorem mono_add {xs : List Int} : ∀ {m : Nat} {p q r : List Int}, (∀ j, j < m → 0 ≤ p.getD j 0 ∧ 0 ≤ q.getD j 0 ∧ r.getD j 0 = p.getD j 0 + q.getD j 0) → mono xs m r = mono xs m p * mono xs m q
  | 0, _, _, _, _ => rfl
  | m + 1, p, q, r, h => by
    have ih := mono_add (xs := xs) (m := m) (p := p) (q := q) (r := r) fun j hj => h j (by omega)
    obtain ⟨h1, h2, h3⟩ := h m (Nat.lt_succ_self m)
    have h4 : (r.getD m 0).toNat = (p.getD m 0).toNat + (q.getD m 0).toNat := by omega
    rw [mono, mono, mono, ih, h4, Int.pow_add]
    grind
theorem mono_ne {xs : List Int} : ∀ {m : Nat} {p : List Int}, (∀ j, j < m → xs.getD j 0 ≠ 0) → mono xs m p ≠ 0
  | 0, _, _ => by simp [mono]
  | m + 1, p, h => by
    rw [mono]
    exact Int.mul_ne_zero (mono_ne fun j hj => h j (by omega)) (Int.pow_ne_zero (h m (Nat.lt_succ_self m)))
end GM
set_option Elab.async false
set_option linter.all false
set_option maxRecDepth 100000
set_option maxHeartbeats 1000000
set_option exponentiation.threshold 100000
namespace NH
open PySem PySem.Spec PyProof.Rows L2 R1 ZN PK RS
/-- what is missing to 0 -/
def miss (v : Int) : Int := if 0 > -v then 0 else -v
theorem miss_is (v : Int) : 0 ≤ miss v ∧ 0 ≤ v + miss v ∧ (0 ≤ v → miss v = 0) ∧ (v ≤ 0 → miss v = -v) := by
  unfold miss
  split <;> omega
theorem op_fdivB {X : Cx} : OpR X (binaryOp .FloorDiv) (rI (fun _ j => j ≠ 0 ∧ j.natAbs.log2 < 9000) fun i j => .int (i.fdiv j)) := opI fun _ _ _ _ _ _ _ hc q => floordiv_int hc.1 q (.inl (PyProof.noPylong_of_log2 hc.2))
theorem fn_all {P : Program} {w : World} {K : PySem.W.Frag} {mg : Str → Option Value} {base : Heap} {CX : CXT} {k : Nat} {f : Addr} {fd : FuncData} {ps : List Str} {sp : Nat → Sp} {N : Nat} (F : ∀ m, m ≤ N → FnOk P w K mg base CX k f fd ps (sp m)) : FnOk P w K mg base CX k f fd ps (fun vs H Q E => ∃ m, m ≤ N ∧ sp m vs H Q E) :=
  ⟨fun vs H Q E ⟨m, hm, h⟩ => (F m hm).len vs H Q E h, fun A outer s H args us vs Q E r e0 bd vv ⟨m, hm, h⟩ => (F m hm).run A outer s H args us vs Q E r e0 bd vv h⟩
theorem more_at {q : List Int × Int} {ms : List Int} {j m : Nat} (h1 : q.1.length = m) (h2 : ms.length = m) (hj : j < m) : (more ms q).1.getD j 0 = q.1.getD j 0 + ms.getD j 0 := by
  unfold more
  dsimp only
  rw [List.getD_eq_getElem?_getD, List.getElem?_zipWith, List.getElem?_eq_getElem (by omega), List.getElem?_eq_getElem (by omega), List.getD_eq_getElem?_getD, List.getD_eq_getElem?_getD, List.getElem?_eq_getElem (by omega), List.getElem?_eq_getElem (by omega)]
  show _ + 1 * _ = _
  simp
theorem more_len {q : List Int × Int} {ms : List Int} {m : Nat} (h1 : q.1.length = m) (h2 : ms.length = m) : (more ms q).1.length = m := by
  unfold more
  dsimp only
  rw [List.length_zipWith, h1, h2]
  exact Nat.min_self m
theorem getD_map_miss (ms : List Int) {j : Nat} (h : j < ms.length) : (ms.map miss).getD j 0 = miss (ms.getD j 0) := by
  rw [List.getD_eq_getElem?_getD, List.getElem?_map, List.getElem?_eq_getElem h, List.getD_eq_getElem?_getD, List.getElem?_eq_getElem h]
  rfl
theorem getD_ext {a b : List Int} {m : Nat} (h1 : a.length = m) (h2 : b.length = m) (h : ∀ j, j < m → a.getD j 0 = b.getD j 0) : a = b := by
  apply List.ext_getElem (by omega)
  intro j h3 h4
  have := h j (by omega)
  rw [List.getD_eq_getElem?_getD, List.getD_eq_getElem?_getD, List.getElem?_eq_getElem h3, List.getElem?_eq_getElem h4] at this
  exact this
structure Bnds (D : Ts) : Prop where
  b : ∀ q ∈ D, q.2.natAbs < 2 ^ 300 ∧ ∀ v ∈ q.1, -12 ≤ v ∧ v ≤ 12
theorem Bnds.at {D : Ts} (h : Bnds D) {q : List Int × Int} (hq : q ∈ D) (j : Nat) : -12 ≤ q.1.getD j 0 ∧ q.1.getD j 0 ≤ 12 := by
  by_cases hj : j < q.1.length
  · rw [List.getD_eq_getElem?_getD, List.getElem?_eq_getElem hj]
    exact (h.b q hq).2 _ (List.getElem_mem hj)
  · rw [List.getD_eq_getElem?_getD, List.getElem?_eq_none (by omega)]
    decide
theorem least_at {D : Ts} {m : Nat} {ms : List Int} (hI : IsLeast D m ms) {j : Nat} (hj : j < m) : (∃ q ∈ D, q.1.getD j 0 = ms.getD j 0) ∧ ∀ q ∈ D, ms.getD j 0 ≤ q.1.getD j 0 := by
  obtain ⟨v, hv, h1, h2⟩ := hI.2 j hj
  have e : ms.getD j 0 = v := by rw [List.getD_eq_getElem?_getD, hv]; rfl
  rw [e]
  refine ⟨?_, fun q hq => h2 _ (List.mem_map.mpr ⟨q, hq, rfl⟩)⟩
  obtain ⟨q, hq, eq⟩ := List.mem_map.mp h1
  exact ⟨q, hq, eq⟩
theorem tmok_of {m : Nat} {D : Ts} {ms : List Int} (hG : Good m D) (hI : IsLeast D m ms) (hb : Bnds D) : TmOk m 24 (D.map (more (ms.map miss))) := by
  have hml : (ms.map miss).length = m := by rw [List.length_map]; exact hI.1
  have at_ : ∀ q ∈ D, ∀ j, j < m → (more (ms.map miss) q).1.getD j 0 = q.1.getD j 0 + miss (ms.getD j 0) := fun q hq j hj => by
    rw [more_at (hG.1 q hq).1 hml hj, getD_map_miss ms (by rw [hI.1]; exact hj)]
  refine ⟨fun q' hq' j hj => ?_, fun q' hq' => ?_, ?_, fun q' hq' => ?_⟩
  · obtain ⟨q, hq, rfl⟩ := List.mem_map.mp hq'
    rw [at_ q hq j hj]
    obtain ⟨⟨q2, hq2, e⟩, hle⟩ := least_at hI hj
    have h1 := hb.at hq j
    have h2 := hb.at hq2 j
    have h3 := hle q hq
    obtain ⟨m1, m2, m3, m4⟩ := miss_is (ms.getD j 0)
    rw [e] at h2
    by_cases z : 0 ≤ ms.getD j 0
    · have := m3 z
      omega
    · have := m4 (by omega)
      omega
  · obtain ⟨q, hq, rfl⟩ := List.mem_map.mp hq'
    rw [more_len (hG.1 q hq).1 hml]
    exact Nat.le_refl _
  · rw [List.pairwise_map]
    refine hG.2.imp_of_mem fun {x y} hx hy e z => ?_
    rw [List.take_of_length_le (Nat.le_of_eq (more_len (hG.1 x hx).1 hml)), List.take_of_length_le (Nat.le_of_eq (more_len (hG.1 y hy).1 hml))] at z
    have : x.1 = y.1 := getD_ext (hG.1 x hx).1 (hG.1 y hy).1 fun j hj => by
      have h1 := at_ x hx j hj
      have h2 := at_ y hy j hj
      rw [z] at h1
      omega
    rw [this, lex_irrefl] at e
    cases e
  · obtain ⟨q, hq, rfl⟩ := List.mem_map.mp hq'
    exact (hb.b q hq).1
theorem miss_small {m : Nat} {D : Ts} {ms : List Int} (hI : IsLeast D m ms) (hb : Bnds D) {j : Nat} (hj : j < m) : 0 ≤ (ms.map miss).getD j 0 ∧ (ms.map miss).getD j 0 ≤ 12 := by
  rw [getD_map_miss ms (by rw [hI.1]; exact hj)]
  obtain ⟨⟨q2, hq2, e⟩, hle⟩ := least_at hI hj
  have h2 := hb.at hq2 j
  rw [e] at h2
  obtain ⟨m1, m2, m3, m4⟩ := miss_is (ms.getD j 0)
  by_cases z : 0 ≤ ms.getD j 0
  · have := m3 z
    omega
  · have := m4 (by omega)
    omega
section
variable {P : Program} {w : World} {K : PySem.W.Frag} {mg : Str → Option Value} {base : Heap} {f : Nat → Addr} {d : Nat → FuncData}
def spLifted : Sp := fun vs H Q _ => ∃ (t : Addr) (m : Nat) (L : List Trm), vs = [.ref t] ∧ SumAt H t L ∧ L.length ≤ 1000 ∧ L ≠ [] ∧ 0 < m ∧ m ≤ 1000 ∧ (∀ r ∈ L, r.ns.length = m) ∧
  ∀ H' (z l t' : Addr) (ms : List Int) (L' : List Trm), Same H H' → IsLeast (L.map Trm.d) m ms → H' l = some (.lst ((ms.map miss).map V.int)) → SumAt H' t' L' → L'.map Trm.d = (L.map Trm.d).map (more (ms.map miss)) → H' z = some (.tup [.ref l, .ref t']) → Q (.ref z) H'
theorem ok_lifted {k : Nat} (D : Defs K mg f d) : FnOk P w K mg base CX0 (k + 3) (f i_lifted) (d i_lifted) ["told"] spLifted := by
  have G_least_of : FnOk P w K mg base CX0 (k + 2) (f i_least_of) (d i_least_of) ["told"] spLeast := ok_least D.F_least_of D.F_lines_of D.b_lines_of D.g_lines_of D.z_list D.z_zip D.z_min D.z_tuple
  have G_moved : FnOk P w K mg base CX0 (k + 2) (f i_moved) (d i_moved) ["told", "powers", "sign"] spMovedL := (ok_movedL (k := k) D.F_moved D.z_tuple D.z_zip).mono (by omega)
  refine D.F_lifted.ok sc_lifted (fun vs H Q E h => ?_) (fun cdv A outer s H vs Q E hr h => ?_)
  · obtain ⟨t, m, L, rfl, _⟩ := h
    rfl
  · obtain ⟨t, m, L, rfl, hS, hL, hne, hm0, hm, hlen, q⟩ := h
    have nd := sc_lifted.nd
    refine ⟨_, pss_cons (ps_setLc (i := 1) (own := [("low", 2)]) (g := gName 2) (by rfl) nd rfl rfl (sw_true rfl rfl rfl (by decide +kernel)) (pi_tup (pe_call G_least_of hr (by rfl) D.g_least_of D.F_least_of.kp D.b_least_of .nil pass0 (pa_cons (pv 0) pa_nil))) (blkOk_by (own := [("low", 2)]) (N := N_lifted) (sc := defScope s_lifted) (by decide +kernel))
          (fun _ _ _ _ _ => pg_name (i := 2) nd rfl (.inl rfl)) (fun _ _ _ _ _ => pts_nil) (fun _ _ _ _ _ => pe_callB (call_max2 rfl) (by rfl) D.z_max (by decide +kernel) (pa_cons (pe_un un_neg (pv 2)) (pa_cons pe_int pa_nil))))
      (pss_one (ps_ret (pe_tup (pa_cons (pv 1) (pa_cons (pe_call G_moved hr (by rfl) D.g_moved D.F_moved.kp D.b_moved .nil pass0 (pa_cons (pv 0) (pa_cons (pv 1) (pa_cons pe_int pa_nil)))) pa_nil))))), ?_⟩
    refine ⟨.ref t, rfl, t, m, L, rfl, hS, hL, hm0, hm, hlen, fun H1 p ms s1 np hp hI => ?_⟩
    have hc : cnt m L = m := by
      unfold cnt
      cases L with
      | nil => exact absurd rfl hne
      | cons r Lt => rfl
    rw [hc] at hI
    have hml : ms.length = m := hI.1
    refine ⟨p, rfl, ⟨_, sqtOf hp⟩, fun l nl => ?_⟩
    refine lc_tup (xs := ms.map V.int) (fun i H' => H' l = some (.lst (((ms.take i).map miss).map V.int)) ∧ But l H1 H') ⟨upd_same, But.start⟩ (fun i H' _ h => sqtOf (h.2 _ _ (ne_of_none hp nl) hp)) (fun i x H' hx h => ?_) (fun H' h => ?_)
    · rw [List.getElem?_map] at hx
      obtain ⟨v, hv, rfl⟩ := Option.map_eq_some_iff.mp hx
      have hil : i < ms.length := (List.getElem?_eq_some_iff.mp hv).1
      refine ⟨rfl, .int v, rfl, _, rfl, _, _, rfl, _, h.1, ?_, ?_, h.2.step (Same.refl _)⟩
      · rw [List.length_map, List.length_map, List.length_take, sizeLine_eq]
        omega
      · rw [upd_same, List.take_add_one, hv, List.map_append, List.map_append]
        rfl
    · obtain ⟨hl, kp⟩ := h
      rw [List.length_map, List.take_length] at hl
      have s2 := s1.trans (kp.same nl)
      refine ⟨.ref l, rfl, .ref t, rfl, .ref l, rfl, t, l, ms.map miss, L, rfl, hS.same s2, hL, hl, by rw [List.length_map]; omega, fun r hr => by rw [List.length_map, hlen r hr, hml], fun H3 t' L' s3 nt hS' ed => ?_⟩
      refine ⟨two_ok, fun z nz => ?_⟩
      have s4 := same_new (o := .tup [V.ref l, .ref t']) nz
      exact q _ z l t' ms L' ((s2.trans s3).trans s4) hI (s4 _ _ (s3 _ _ hl)) (hS'.same s4) ed upd_same
def spVo : Sp := fun vs H Q _ => ∃ (t nl : Addr) (m : Nat) (L : List Trm) (xs : List Int), vs = [.ref t, .ref nl] ∧ SumAt H t L ∧ L.length ≤ 500 ∧ Good m (L.map Trm.d) ∧ 0 < m ∧ m ≤ 6 ∧ H nl = some (.lst (xs.map V.int)) ∧ (L ≠ [] → xs.length = m) ∧ (∀ x ∈ xs, x ≠ 0 ∧ x.natAbs < 2 ^ 110) ∧ Bnds (L.map Trm.d) ∧
  (∀ H' (z : Addr), Same H H' → L = [] → H' z = some (.tup [.int 0, .int 1]) → Q (.ref z) H') ∧
  (∀ H' (z : Addr) (a b : Int) (ms : List Int), Same H H' → L ≠ [] → IsLeast (L.map Trm.d) m ms → GM.IsLow (GM.tval xs m ((L.map Trm.d).map (more (ms.map miss)))) (GM.mono xs m (ms.map miss)) a b → H' z = some (.tup [.int a, .int b]) → Q (.ref z) H')
theorem ok_vo {k : Nat} (D : Defs K mg f d) (gG : mg "gcd" = some (.builtin "math.gcd")) : FnOk P w K mg base CX0 (k + 10) (f i_value_of) (d i_value_of) ["told", "numbers"] spVo := by
  have G_lifted : FnOk P w K mg base CX0 (k + 9) (f i_lifted) (d i_lifted) ["told"] spLifted := (ok_lifted (k := k) D).mono (by omega)
  have G_gathered : FnOk P w K mg base CX0 (k + 9) (f i_gathered) (d i_gathered) ["terms", "factors", "many"] (fun vs H Q E => ∃ m, m ≤ 6 ∧ spGa K m vs H Q E) := fn_all fun m hm => (ok_ga (k := k) D m).mono (by omega)
  have G_whole_power : FnOk P w K mg base CX0 (k + 9) (f i_whole_power) (d i_whole_power) ["base", "times"] spWP := (ok_wp (k := k) D).mono (by omega)
  refine D.F_value_of.ok sc_value_of (fun vs H Q E h => ?_) (fun cdv A outer s H vs Q E hr h => ?_)
  · obtain ⟨t, nl, m, L, xs, rfl, _⟩ := h
    rfl
  · obtain ⟨t, nl, m, L, xs, rfl, hS, hL, hGd, hm0, hm6, hnl, hxl, hx, hb, q0, q⟩ := h
    have nd := sc_value_of.nd
    have hu := hu_of hr
    refine ⟨_, pss_cons (ps_if (pt_not (pt_truth (pv 0) (by intro _; rfl)))
        (pss_one (ps_ret (pe_tup (pa_cons pe_int (pa_cons pe_int pa_nil)))))
        pss_nil)
      (pss_cons (ps_asg (pe_call G_lifted hr (by rfl) D.g_lifted D.F_lifted.kp D.b_lifted .nil pass0 (pa_cons (pv 0) pa_nil)) (pg_tup rfl (pgs_cons (pg_name (i := 2) nd rfl (.inl rfl)) (pgs_cons (pg_name (i := 3) nd rfl (.inl rfl)) pgs_nil))))
      (pss_cons (ps_set (i := 5) nd rfl (.inl rfl) (pe_dget2 hu (pe_call G_gathered hr (by rfl) D.g_gathered D.F_gathered.kp D.b_gathered .nil pass0 (pa_cons (pv 3) (pa_cons (pe_lc (own := [("number", 4)]) (g := gName 4) (by rfl) nd (pi_list (pv 1)) (blkOk_by (own := [("number", 4)]) (N := N_value_of) (sc := defScope s_value_of) (by decide +kernel))
          (fun _ _ _ _ _ => pg_name (i := 4) nd rfl (.inl rfl)) (fun _ _ _ _ _ => pts_nil) (fun _ _ _ _ _ => pe_disp (pps_cons pe_int (pv 4) pps_nil) (by rfl) (by rfl) (fun z => by cases z) (by decide))) (pa_cons (pe_callB call_len_seq (by rfl) D.z_len PySem.boot_len (pa_cons (pv 1) pa_nil)) pa_nil)))) pe_int pe_int ⟨rfl, rfl, rfl, rfl⟩))
      (pss_cons (ps_set (i := 6) nd rfl (.inl rfl) (pe_int))
      (pss_cons (ps_for PassesOwn.never rfl (pi_zip (by rfl) D.z_zip (pa_cons (pv 2) (pa_cons (pv 1) pa_nil))) (pg_tup rfl (pgs_cons (pg_name (i := 7) nd rfl (.inl rfl)) (pgs_cons (pg_name (i := 4) nd rfl (.inl rfl)) pgs_nil)))
        (pss_one (ps_set (i := 6) nd rfl (.inl rfl) (pe_op op_mulX (pv 6) (pe_call G_whole_power hr (by rfl) D.g_whole_power D.F_whole_power.kp D.b_whole_power .nil pass0 (pa_cons (pv 4) (pa_cons (pv 7) pa_nil)))))))
      (pss_cons (ps_set (i := 8) nd rfl (.inl rfl) (pe_ifExp (pt_cmpR op_gt (pv 6) pe_int (nomark _)) (pe_callBfun cr_gcd (by rfl) gG (pa_cons (pv 5) (pa_cons (pv 6) pa_nil))) (pe_un un_neg (pe_callBfun cr_gcd (by rfl) gG (pa_cons (pv 5) (pa_cons (pv 6) pa_nil))))))
      (pss_one (ps_ret (pe_tup (pa_cons (pe_op op_fdivB (pv 5) (pv 8)) (pa_cons (pe_op op_fdivB (pv 6) (pv 8)) pa_nil)))))))))), ?_⟩
    refine ⟨.ref t, rfl, _, .inr (.inl ⟨_, hS.sq, rfl⟩), ?_⟩
    by_cases hne : L = []
    · subst hne
      refine iteT ?_
      refine ⟨two_ok, fun z nz => ?_⟩
      exact q0 _ z (same_new nz) rfl upd_same
    have tr : (!(L.map Trm.v).isEmpty) = true := by
      cases L with
      | nil => exact absurd rfl hne
      | cons r Lt => rfl
    rw [tr]
    refine iteF ?_
    have hxm := hxl hne
    have hlen : ∀ r ∈ L, r.ns.length = m := hGd.len
    refine ⟨.ref t, rfl, t, m, L, rfl, hS, by omega, hne, hm0, by omega, hlen, fun H1 z l t' ms L' s1 hI hl hS' ed hz => ?_⟩
    refine ⟨z, _, rfl, sqtOf hz, rfl, _, _, rfl, _, _, rfl, rfl, ?_⟩
    dsimp only [tSeq, tAsg, gName]
    have hnl1 := s1 _ _ hnl
    refine ⟨.ref t', rfl, .ref nl, rfl, nl, rfl, ⟨_, sqlOf hnl1⟩, fun fl nfl => ?_⟩
    refine lc_list (xs := xs.map V.int) (fun i H' => ∃ fs : List Addr, H' fl = some (.lst (fs.map V.ref)) ∧ fs.length = i ∧ (∀ j b, fs[j]? = some b → H' b = some (.dK [(Sum.inl 0, .int (xs.getD j 0))]) ∧ b ≠ fl) ∧ But fl H1 H') ⟨[], upd_same, rfl, (fun j b e => by simp at e), But.start⟩ (fun i H' _ h => ?_) (fun i x H' hx' h => ?_) (fun H2 h => ?_)
    · obtain ⟨_, _, _, _, kp⟩ := h
      exact sqlOf (kp _ _ (ne_of_none hnl1 nfl) hnl1)
    · obtain ⟨fs, hfl, hfsl, hfs, kp⟩ := h
      rw [List.getElem?_map] at hx'
      obtain ⟨v, hv, rfl⟩ := Option.map_eq_some_iff.mp hx'
      have hil : i < xs.length := (List.getElem?_eq_some_iff.mp hv).1
      refine ⟨rfl, fun b nb => ?_⟩
      have sb := same_new (o := .dK []) nb
      have hbb : upd H' b (.dK []) b = some (.dK []) := upd_same
      refine ⟨.int v, rfl, hbb, [(Sum.inl 0, .int v)], rfl, by show 1 ≤ 15; decide, ?_⟩
      have eM : mergeK [] [((Sum.inl 0 : Key), V.int v)] = [(Sum.inl 0, V.int v)] := rfl
      rw [eM, upd_upd']
      have sb2 : Same H' (upd H' b (.dK [(Sum.inl 0, V.int v)])) := same_new nb
      have bfl : b ≠ fl := fun z => by rw [z, hfl] at nb; cases nb
      refine ⟨_, sb2 _ _ hfl, by rw [List.length_map, sizeLine_eq]; omega, fs ++ [b], by rw [upd_same, List.map_append]; rfl, by rw [List.length_append, hfsl]; rfl, fun j b' hj => ?_, kp.step sb2⟩
      by_cases z : j < fs.length
      · rw [List.getElem?_append_left z] at hj
        obtain ⟨h1, h2⟩ := hfs j b' hj
        exact ⟨by rw [upd_ne h2]; exact sb2 _ _ h1, h2⟩
      · rw [List.getElem?_append_right (by omega)] at hj
        have hj0 : j - fs.length = 0 := by
          have := (List.getElem?_eq_some_iff.mp hj).1
          simp at this
          omega
        rw [hj0] at hj
        cases hj
        refine ⟨?_, bfl⟩
        rw [upd_ne bfl, upd_same]
        have : xs.getD j 0 = v := by
          rw [List.getD_eq_getElem?_getD, show j = i by omega, hv]
          rfl
        rw [this]
    · obtain ⟨fs, hfl, hfsl, hfs, kp⟩ := h
      rw [List.length_map] at hfsl
      have s2 := s1.trans (kp.same nfl)
      have k2 := kp.same nfl
      have hnl2 := k2 _ _ hnl1
      have hok := tmok_of hGd hI hb
      have hL'len : L'.length = L.length := by
        have := congrArg List.length ed
        rw [List.length_map, List.length_map, List.length_map] at this
        exact this
      have hL'ne : L' ≠ [] := fun z => by
        rw [z] at hL'len
        exact hne (List.length_eq_zero_iff.mp hL'len.symm)
      refine ⟨.ref nl, rfl, nl, _, rfl, .inl (sqlOf hnl2), ?_⟩
      rw [List.length_map]
      have hST := hS'.same k2
      refine ⟨m, hm6, t', fl, L', fs, xs, by rw [hxm]; rfl, ⟨.inr hST.sq, hST.rows⟩, fun z => by omega, hL'ne, by omega, by omega, by rw [ed]; exact hok, hfl, by omega, by omega, hfsl, fun j b hj => (hfs j b hj).1, fun x h => (hx x h).2, fun H3 e s3 ne3 hz3 => ?_⟩
      rw [ed] at hz3
      obtain ⟨Dz, hDz, _, hval⟩ := hz3
      refine ⟨e, rfl, .inl ⟨_, .inl hDz.at_⟩, (getI Dz 0).map V.int, dget (.inl hDz.at_), ?_⟩
      rw [getD_int, show (getI Dz 0).getD 0 = vI Dz 0 from rfl, hval]
      have qq := fun (H' : Hp) (z : Addr) (a b : Int) (s : Same H H') (lo : GM.IsLow (GM.tval xs m ((L.map Trm.d).map (more (ms.map miss)))) (GM.mono xs m (ms.map miss)) a b) (hz : H' z = some (.tup [.int a, .int b])) => q H' z a b ms s hne hI lo hz
      generalize hTop : GM.tval xs m ((L.map Trm.d).map (more (ms.map miss))) = top at qq hval
      have hl3 := s3 _ _ (k2 _ _ hl)
      have hnl3 := s3 _ _ hnl2
      have s23 := s2.trans s3
      have hmsl : (ms.map miss).length = m := by rw [List.length_map]; exact hI.1
      have hmm : ∀ j, j < m → 0 ≤ (ms.map miss).getD j 0 ∧ (ms.map miss).getD j 0 ≤ 12 := fun j hj => miss_small hI hb hj
      generalize ms.map miss = mm at hl3 hmsl hmm qq hTop
      have bitsM : ∀ i, i ≤ m → (GM.mono xs i mm).natAbs < 2 ^ 8000 := fun i hi => by
        have := GM.mono_bits (xs := xs) (E := 110) (W := 12) (fun x h => Nat.le_of_lt (hx x h).2) (m := i) (p := mm) fun j hj => by have := hmm j (by omega); omega
        refine Nat.lt_of_le_of_lt this (Nat.pow_lt_pow_right (by decide) ?_)
        have : i * (110 * 12) ≤ 6 * (110 * 12) := Nat.mul_le_mul_right _ (by omega)
        omega
      refine ⟨.ref l, rfl, .ref nl, rfl, l, nl, _, _, rfl, sqlOf hl3, sqlOf hnl3, for_it (walk_zip (n := m) (xs := mm.map V.int) (ys := xs.map V.int) (by rw [List.length_map, List.length_map, hmsl, hxm]; exact (Nat.min_self m).symm)) (fun i σ H' => ∃ y4 y7, σ = [some (.ref t), some (.ref nl), some (.ref l), some (.ref t'), y4, some (.int top), some (.int (GM.mono xs i mm)), y7, none] ∧ Same H3 H')
        ⟨none, none, rfl, fun _ _ e => e⟩ (fun i σ H' _ h => ?_) (fun i x σ H0 H' hi h hy => ?_) (fun σ H' h => ?_)⟩
      · obtain ⟨_, _, _, s⟩ := h
        exact ⟨sqlOf (s _ _ hl3), sqlOf (s _ _ hnl3)⟩
      · obtain ⟨y4, y7, rfl, s4⟩ := h
        obtain ⟨T, x1, x2, rfl, nT, rfl, e1, e2⟩ := hy
        dsimp only at e1 e2
        rw [List.getElem?_map] at e1 e2
        obtain ⟨n1, f1, rfl⟩ := Option.map_eq_some_iff.mp e1
        obtain ⟨n2, f2, rfl⟩ := Option.map_eq_some_iff.mp e2
        have g1 : mm.getD i 0 = n1 := by rw [List.getD_eq_getElem?_getD, f1]; rfl
        have g2 : xs.getD i 0 = n2 := by rw [List.getD_eq_getElem?_getD, f2]; rfl
        have hr1 := hmm i hi
        rw [g1] at hr1
        have hx2 := hx n2 (List.mem_of_getElem? f2)
        have sT := same_new (o := .tup [V.int n1, .int n2]) nT
        refine ⟨T, _, rfl, sqtOf upd_same, rfl, _, _, rfl, _, _, rfl, rfl, ?_⟩
        refine ⟨.int (GM.mono xs i mm), rfl, .int n2, rfl, .int n1, rfl, n2, n1.toNat, 110, by rw [show n1 = ((n1.toNat : Nat) : Int) by omega]; rfl, hx2.2, by decide, by omega, ?_⟩
        have b2 : (n2 ^ n1.toNat).natAbs < 2 ^ 8000 := Nat.lt_of_lt_of_le (pow_bits hx2.2 _) (Nat.pow_le_pow_right (by decide) (by
          have : 110 * n1.toNat ≤ 110 * 12 := Nat.mul_le_mul_left _ (by omega)
          omega))
        refine ⟨_, _, rfl, rfl, mulx (bitsM i (by omega)) b2 (by decide), some (.int n2), some (.int n1), ?_, s4.trans sT⟩
        rw [GM.mono, g1, g2]
        rfl
      · obtain ⟨y4, y7, rfl, s4⟩ := h
        have hB0 : GM.mono xs m mm ≠ 0 := GM.mono_ne fun j hj => by
          rw [List.getD_eq_getElem?_getD, List.getElem?_eq_getElem (by omega)]
          exact (hx _ (List.getElem_mem _)).1
        have hB2 := bitsM m (Nat.le_refl m)
        have fin : ∀ s : Int, s = (if GM.mono xs m mm < 0 then -((Nat.gcd top.natAbs (GM.mono xs m mm).natAbs : Nat) : Int) else ((Nat.gcd top.natAbs (GM.mono xs m mm).natAbs : Nat) : Int)) → s ≠ 0 ∧ s.natAbs.log2 < 9000 ∧ GM.IsLow top (GM.mono xs m mm) (top.fdiv s) ((GM.mono xs m mm).fdiv s) := fun s hs => by
          obtain ⟨h1, h2, h3⟩ := GM.low_of (T := top) hB0 hs
          refine ⟨h1, ?_, h3⟩
          have h4 : s.natAbs ≤ (GM.mono xs m mm).natAbs := by
            rw [h2]
            exact Nat.gcd_le_right _ (by omega)
          exact log2_lt (Nat.lt_of_le_of_lt h4 (Nat.lt_trans hB2 (Nat.pow_lt_pow_right (by decide) (by decide)))) (by decide)
        generalize GM.mono xs m mm = B at hB0 fin qq
        refine ⟨.int B, rfl, _, _, rfl, rfl, _, rfl, ite2 (fun e => ?_) (fun e => ?_)⟩
        · have hpos : ¬ B < 0 := by
            have := of_decide_eq_true e
            omega
          obtain ⟨f1, f2, f3⟩ := fin _ (by rw [if_neg hpos])
          refine ⟨.int top, rfl, .int B, rfl, top, B, rfl, ?_⟩
          refine ⟨.int top, rfl, _, rfl, _, _, rfl, rfl, ⟨f1, f2⟩, .int B, rfl, _, rfl, _, _, rfl, rfl, ⟨f1, f2⟩, two_ok, fun z nz => ?_⟩
          exact qq _ z _ _ ((s23.trans s4).trans (same_new nz)) f3 upd_same
        · have hneg : B < 0 := by
            have : ¬ (0 : Int) < B := fun z => e (decide_eq_true z)
            omega
          obtain ⟨f1, f2, f3⟩ := fin _ (by rw [if_pos hneg])
          refine ⟨.int top, rfl, .int B, rfl, top, B, rfl, _, rfl, ?_⟩
          refine ⟨.int top, rfl, _, rfl, _, _, rfl, rfl, ⟨f1, f2⟩, .int B, rfl, _, rfl, _, _, rfl, rfl, ⟨f1, f2⟩, two_ok, fun z nz => ?_⟩
          exact qq _ z _ _ ((s23.trans s4).trans (same_new nz)) f3 upd_same
end
end NH
set_option Elab.async false
set_option linter.all false
set_option maxRecDepth 100000
set_option maxHeartbeats 1000000
set_option exponentiation.threshold 100000
namespace NH
open PySem PySem.Spec PyProof.Rows L2 R1 ZN PK RS
theorem in_zero {xs : List Int} (h : ∀ x ∈ xs, x ≠ 0) : inV (.int 0) (xs.map V.int) = false := by
  induction xs with
  | nil => rfl
  | cons x xs ih =>
    have h1 := ih fun y hy => h y (List.mem_cons_of_mem _ hy)
    unfold inV at h1 ⊢
    rw [List.map_cons, List.any_cons, h1, Bool.or_false]
    show (x == (0 : Int)) = false
    have := h x List.mem_cons_self
    simp [this]
theorem flat_ints (xs : List Int) : (xs.map V.int).all flatV = true := by
  rw [List.all_eq_true]
  intro v hv
  obtain ⟨x, _, rfl⟩ := List.mem_map.mp hv
  rfl
section
variable {P : Program} {w : World} {K : PySem.W.Frag} {mg : Str → Option Value} {base : Heap} {f : Nat → Addr} {d : Nat → FuncData}
theorem ok_value {k : Nat} (D : Defs K mg f d) (gG : mg "gcd" = some (.builtin "math.gcd")) : FnOk P w K mg base CX0 (k + 11) (f i_value) (d i_value) ["one", "numbers"] spVo := by
  have G_letters_of : FnOk P w K mg base CX0 (k + 10) (f i_letters_of) (d i_letters_of) ["sums"] (spLettersOf K) := (ok_lettersOf (k := k) D.F_letters_of D.F_check_sum D.b_check_sum D.g_check_sum D.F_is_sum D.b_is_sum D.g_is_sum D.z_enumerate D.z_len).mono (by omega)
  have G_value_of : FnOk P w K mg base CX0 (k + 10) (f i_value_of) (d i_value_of) ["told", "numbers"] spVo := ok_vo D gG
  refine D.F_value.ok sc_value (fun vs H Q E h => ?_) (fun cdv A outer s H vs Q E hr h => ?_)
  · obtain ⟨t, nl, m, L, xs, rfl, _⟩ := h
    rfl
  · obtain ⟨t, nl, m, L, xs, rfl, hS, hL, hGd, hm0, hm6, hnl, hxl, hx, hb, q0, q⟩ := h
    have nd := sc_value.nd
    refine ⟨_, pss_cons (ps_set (i := 2) nd rfl (.inl rfl) (pe_call G_letters_of hr (by rfl) D.g_letters_of D.F_letters_of.kp D.b_letters_of .nil pass0 (pa_cons (pe_lst (pa_cons (pv 0) pa_nil)) pa_nil)))
      (Evl.pss_cut (ps_if (PW.pt (pw_and (pt_truth (pv 0) (by intro _; rfl)) (pw_and1 (PW.pt (pw_or (pt_cmpR op_ne (pe_callB call_len_seq (by rfl) D.z_len PySem.boot_len (pa_cons (pv 1) pa_nil)) (pv 2) (nomark _)) (pw_or1 (pt_cmpR (r := rIn K false) op_in_seq pe_int (pv 1) (by rfl))))))))
        pss_never
        pss_nil)
      (pss_one (ps_ret (pe_call G_value_of hr (by rfl) D.g_value_of D.F_value_of.kp D.b_value_of .nil pass0 (pa_cons (pv 0) (pa_cons (pv 1) pa_nil)))))), ?_⟩
    refine ⟨.ref t, rfl, one1, fun l nl' => ?_⟩
    have s1 : Same H (upd H l (.lst [.ref t])) := same_new nl'
    refine ⟨l, t, m, L, rfl, sqlOf upd_same, hS.same s1, by omega, hm0, hGd, fun H2 s2 => ?_⟩
    have s12 := s1.trans s2
    refine ⟨fun σ' H3 => H3 = H2 ∧ ∃ y, σ' = [some (.ref t), some (.ref nl), y], ?_, ?_⟩
    · have hnl2 := s12 _ _ hnl
      refine ⟨.ref t, rfl, _, .inr (.inl ⟨_, (hS.same s12).sq, rfl⟩), ?_⟩
      by_cases hne : L = []
      · subst hne
        exact iteF (iteF ⟨rfl, _, rfl⟩)
      have tr : (!(L.map Trm.v).isEmpty) = true := by
        cases L with
        | nil => exact absurd rfl hne
        | cons r Lt => rfl
      have te : (if L.isEmpty = true then (0 : Int) else (m : Int)) = (m : Nat) := by
        cases L with
        | nil => exact absurd rfl hne
        | cons r Lt => rfl
      rw [tr]
      refine iteT ?_
      have hxm := hxl hne
      refine ⟨.ref nl, rfl, nl, _, rfl, .inl (sqlOf hnl2), _, rfl, rfl, _, rfl, ?_⟩
      rw [List.length_map, hxm, te, decide_eq_true (show V.int ((m : Nat) : Int) = V.int ((m : Nat) : Int) from rfl)]
      refine iteF ?_
      refine ⟨.ref nl, rfl, nl, _, rfl, .inl (sqlOf hnl2), rfl, flat_ints xs, _, rfl, ?_⟩
      rw [if_neg (by decide), in_zero fun x h => (hx x h).1]
      exact iteF ⟨rfl, _, rfl⟩
    · rintro σ' H3 ⟨rfl, y, rfl⟩
      exact ⟨.ref t, rfl, .ref nl, rfl, t, nl, m, L, xs, rfl, hS.same s12, hL, hGd, hm0, hm6, s12 _ _ hnl, hxl, hx, hb, fun H' z s3 => q0 H' z (s12.trans s3), fun H' z a b ms s3 => q H' z a b ms (s12.trans s3)⟩
end
end NH
set_option Elab.async false
set_option linter.all false
set_option maxRecDepth 100000
set_option exponentiation.threshold 100000
namespace NH
open PySem PySem.Spec PyProof.Rows L2 R1 ZN
theorem Stock.keepT {H H' : Hp} {a c : Addr} {n : Nat} (S : Stock H a c n) (k : Keep a c H H') : KeepT H H' := fun b xs e => by
  obtain ⟨ne, cs, x, y, z, h1, h2, _⟩ := S
  exact k _ _ (ne_of e h1 (by intro z; cases z)) (ne_of e h2 (by intro z; cases z)) e
theorem Stock.fresh {H : Hp} {a c p : Addr} {n : Nat} (S : Stock H a c n) (h : H p = none) : p ≠ a ∧ p ≠ c := by
  obtain ⟨ne, cs, x, y, z, h1, h2, _⟩ := S
  exact ⟨fun e => ne_of_none h1 h e.symm, fun e => ne_of_none h2 h e.symm⟩
theorem Stock.put {H : Hp} {a c p : Addr} {n : Nat} {o : HO} (S : Stock H a c n) (h : p ≠ a ∧ p ≠ c) : Stock (upd H p o) a c n := by
  obtain ⟨ne, cs, x, y, z, h1, h2, r⟩ := S
  exact ⟨ne, cs, x, y, z, by rw [upd_ne h.1.symm]; exact h1, by rw [upd_ne h.2.symm]; exact h2, r⟩
theorem Keep.free {H H' : Hp} {a c p : Addr} (k : Keep a c H H') (h : p ≠ a ∧ p ≠ c) (e : H' p = none) : H p = none := by
  cases q : H p with
  | none => rfl
  | some o =>
    rw [k p o h.1 h.2 q] at e
    cases e
theorem Keep.put {H H' : Hp} {a c p : Addr} {o : HO} (k : Keep a c H H') (e : H p = none) : Keep a c H (upd H' p o) := fun b u h1 h2 q => by
  rw [upd_ne (ne_of_none q e)]
  exact k b u h1 h2 q
theorem pick3 {x y z r : Int} (h0 : 0 ≤ r) (h1 : r < 3) : ∃ v, atI [V.int x, .int y, .int z] r = some (.int v) ∧ (v = x ∨ v = y ∨ v = z) := by
  have h : r = 0 ∨ r = 1 ∨ r = 2 := by omega
  rcases h with rfl | rfl | rfl
  · exact ⟨x, atI_nat (j := 0) rfl, .inl rfl⟩
  · exact ⟨y, atI_nat (j := 1) rfl, .inr (.inl rfl)⟩
  · exact ⟨z, atI_nat (j := 2) rfl, .inr (.inr rfl)⟩
theorem pick2 {x y r : Int} (h0 : 0 ≤ r) (h1 : r < 2) : ∃ v, atI [V.int x, .int y] r = some (.int v) ∧ (v = x ∨ v = y) := by
  have h : r = 0 ∨ r = 1 := by omega
  rcases h with rfl | rfl
  · exact ⟨x, atI_nat (j := 0) rfl, .inl rfl⟩
  · exact ⟨y, atI_nat (j := 1) rfl, .inr rfl⟩
theorem KeepT.new {H : Hp} {p : Addr} {o : HO} (h : H p = none) : KeepT H (upd H p o) := fun b xs e => by
  rw [upd_ne (ne_of_none e h)]
  exact e
theorem Stock.same {H H' : Hp} {a c : Addr} {n : Nat} (S : Stock H a c n) (s : Same H H') : Stock H' a c n := by
  obtain ⟨ne, cs, x, y, z, h1, h2, r⟩ := S
  exact ⟨ne, cs, x, y, z, s _ _ h1, s _ _ h2, r⟩
abbrev nmTerms : List Str := ["_law_stock_here", "_law_many", "_law_most", "_law_span", "_law_great", "_law_terms_here", "_law_k", "_law_powers", "_law_j"]
theorem scTerms : FnScope nmTerms ["_law_stock_here", "_law_many", "_law_most", "_law_span", "_law_great"] (defScope sTerms) := ⟨rfl, rfl, rfl, by decide +kernel, rfl, by decide +kernel, by decide +kernel⟩
/-- terms of coefficients to g, powers to sp -/
structure Bn (g sp : Int) (D : Ts) : Prop where
  b : ∀ q ∈ D, q.2.natAbs ≤ g.natAbs ∧ ∀ v ∈ q.1, -sp ≤ v ∧ v ≤ sp
theorem Bn.bnds {g sp : Int} {D : Ts} (h : Bn g sp D) (hg : g.natAbs < 2 ^ 300) (hs : sp ≤ 12) : Bnds D := ⟨fun q hq => ⟨Nat.lt_of_le_of_lt (h.b q hq).1 hg, fun v hv => by have := (h.b q hq).2 v hv; omega⟩⟩
def spTerms : Sp := fun vs H Q _ => ∃ (a c : Addr) (n m mo : Nat) (sp g : Int), vs = [.ref a, .int m, .int (mo : Nat), .int sp, .int g] ∧ Stock H a c n ∧ n ≤ 900000 ∧ 1 ≤ m ∧ m ≤ 12 ∧ mo ≤ 10 ∧ 1 ≤ sp ∧ sp ≤ 12 ∧ 1 ≤ g ∧ g ≤ 2 ^ 120 ∧
  ∀ H' (d : Addr) (D : Ts), Stock H' a c (n + 201) → Keep a c H H' → H d = none → DictAt H' d m D → Bn g sp D → D.length ≤ mo → Q (.ref d) H'
theorem coef_small {r g u : Int} (h0 : 0 ≤ r) (h1 : r < g) (u0 : 0 ≤ u) (u1 : u < 2) : ((1 + r) * (1 - 2 * u)).natAbs ≤ g.natAbs := by
  have h : u = 0 ∨ u = 1 := by omega
  rcases h with rfl | rfl
  · rw [show (1 - 2 * (0 : Int)) = 1 by decide, Int.mul_one]
    omega
  · rw [show (1 - 2 * (1 : Int)) = -1 by decide]
    omega
section
variable {P : Program} {w : World} {K : PySem.W.Frag} {mg : Str → Option Value} {base : Heap}
theorem ok_terms {f fP fW : Addr} {fd fdP fdW : FuncData} {k : Nat} (F : Fun K "_law_terms" "_law_terms" sTerms f fd) (FP : Fun K "_law_pick" "_law_pick" sPick fP fdP) (bP : Binds K fdP ["_law_stock_here", "_law_limit"] []) (gP : mg "_law_pick" = some (.ref fP))
    (FW : Fun K "_law_wide" "_law_wide" sWide fW fdW) (bW : Binds K fdW ["_law_stock_here", "_law_limit"] []) (gW : mg "_law_wide" = some (.ref fW)) (mi : mg "int" = none) (mr : mg "range" = none) (mt : mg "tuple" = none) :
    FnOk P w K mg base CX0 (k + 3) f fd ["_law_stock_here", "_law_many", "_law_most", "_law_span", "_law_great"] spTerms := by
  have GP : FnOk P w K mg base CX0 (k + 1) fP fdP ["_law_stock_here", "_law_limit"] spPick := ok_pick FP mi
  have GW : FnOk P w K mg base CX0 (k + 2) fW fdW ["_law_stock_here", "_law_limit"] spWide := ok_wide FW FP bP gP mi mr
  refine F.ok scTerms (fun vs H Q E h => ?_) (fun cdv A outer s H vs Q E hr h => ?_)
  · obtain ⟨a, c, n, m, mo, sp, g, rfl, _⟩ := h
    rfl
  · obtain ⟨a, c, n, m, mo, sp, g, rfl, S, hn, hm1, hm2, hmo, hs1, hs2, hg, hg2, q⟩ := h
    have hu := hu_of hr
    have hr1 := hr.mono (show k + 1 ≤ k + 2 by omega)
    refine ⟨_, pss_cons (ps_set (i := 5) scTerms.nd rfl (.inl rfl) pe_dnewT)
      (pss_cons (ps_for PassesOwn.never rfl (pi_range1 rfl mr (pa_cons (pe_call GP hr1 (by rfl) gP FP.kp bP .nil pass0 (pa_cons (pv 0) (pa_cons (pe_op op_add (pv 2) pe_int) pa_nil))) pa_nil)) (pg_name (i := 6) scTerms.nd rfl (.inl rfl))
        (pss_cons (ps_set (i := 7) scTerms.nd rfl (.inl rfl) (pe_callTy call_tuple_of (by rfl) mt (by decide +kernel) (pa_cons (pe_lc (own := [("_law_j", 8)]) (g := gName 8) (by rfl) scTerms.nd (pi_range1 rfl mr (pa_cons (pv 1) pa_nil)) (blkOk_by (own := [("_law_j", 8)]) (N := nmTerms) (sc := defScope sTerms) (by decide +kernel))
            (fun _ _ _ _ _ => pg_name (i := 8) scTerms.nd rfl (.inl rfl)) (fun _ _ _ _ _ => pts_nil) (fun _ _ _ _ _ => pe_op op_sub (pe_call GP hr1 (by rfl) gP FP.kp bP .nil pass0 (pa_cons (pv 0) (pa_cons (pe_op op_add (pe_op op_mul pe_int (pv 3)) pe_int) pa_nil))) (pv 3))) pa_nil)))
        (pss_one (ps_dput hu (pv 5) (pv 7) (pe_op op_mul (pe_op op_add pe_int (pe_call GW hr (by rfl) gW FW.kp bW .nil pass0 (pa_cons (pv 0) (pa_cons (pv 4) pa_nil)))) (pe_op op_sub pe_int (pe_op op_mul pe_int (pe_call GP hr1 (by rfl) gP FP.kp bP .nil pass0 (pa_cons (pv 0) (pa_cons pe_int pa_nil)))))) rfl))))
      (pss_one (ps_ret (pv 5)))), ?_⟩
    refine fun d nd => ?_
    have adn := S.fresh nd
    have S1 := S.new (o := .dT []) nd
    refine ⟨.ref a, rfl, .int (mo : Nat), rfl, (mo : Nat), 1, rfl, rfl, a, c, n, (mo : Nat) + 1, rfl, S1, by omega, by omega, Nat.lt_of_le_of_lt (show (((mo : Nat) : Int) + 1).natAbs ≤ 20 by omega) (by decide), fun H5 r5 S5 k5 r50 r51 => ?_⟩
    have hd5 : H5 d = some (.dT []) := k5 d _ adn.1 adn.2 upd_same
    have kp5 := (Keep.new (a := a) (c := c) (o := .dT []) nd).trans k5
    refine ⟨r5, rfl, by omega, by omega, for_range (n := r5.toNat) (fun i σ H' => ∃ y6 y7 T, σ = [some (.ref a), some (.int m), some (.int (mo : Nat)), some (.int sp), some (.int g), some (.ref d), y6, y7, none] ∧ Stock H' a c (n + 1 + 20 * i) ∧ Keep a c H H' ∧ DictAt H' d m T ∧ Bn g sp T ∧ T.length ≤ i)
      ⟨none, none, [], rfl, S5, kp5, ⟨hd5, by simp [NodupK], fun q h => by cases h⟩, ⟨fun q h => by cases h⟩, Nat.le_refl _⟩ (fun i σ H6 hi h => ?_) (fun σ H6 h => ?_)⟩
    · obtain ⟨y6, y7, T, rfl, S6, kp6, hT, hlow, hTl⟩ := h
      have hi9 : i < 11 := by omega
      refine ⟨.int m, rfl, m, rfl, by omega, by omega, fun D nD => ?_⟩
      have dD : d ≠ D := ne_of_none hT.at_ nD
      have aD := S6.fresh nD
      refine lc_range (lo := 0) (n := m) (fun j H' => ∃ ns : List Int, ns.length = j ∧ (∀ x ∈ ns, -sp ≤ x ∧ x ≤ sp) ∧ H' D = some (.lst (ns.map V.int)) ∧ Stock H' a c (n + 1 + 20 * i + j) ∧ Keep a c H H' ∧ H' d = some (dZ T))
        ⟨[], rfl, (fun x h => by cases h), upd_same, S6.new nD, kp6.trans (Keep.new nD), (by rw [upd_ne dD]; exact hT.at_)⟩ (fun j H7 hj h => ?_) (fun H7 h => ?_)
      · obtain ⟨ns, rfl, h12, hD, S7, kp7, hd7⟩ := h
        refine ⟨rfl, .ref a, rfl, .int sp, rfl, 2, sp, rfl, rfl, .inl ⟨by decide, by decide⟩, _, 1, rfl, rfl, a, c, _, _, rfl, S7, by omega, by omega, by omega, fun H8 r8 S8 k8 p0 p1 => ?_⟩
        have hD8 := k8 D _ aD.1 aD.2 hD
        have hd8 := k8 d _ adn.1 adn.2 hd7
        refine ⟨.int sp, rfl, r8, sp, rfl, rfl, _, hD8, (by rw [List.length_map, sizeLine_eq]; omega), ns ++ [r8 - sp], by simp, (fun x hx => ?_), (by rw [upd_same]; simp), S8.put aD, (kp7.trans k8).put (kp6.free aD nD), (by rw [upd_ne dD]; exact hd8)⟩
        rcases List.mem_append.mp hx with hx | hx
        · exact h12 x hx
        · rw [List.mem_singleton.mp hx]
          omega
      · obtain ⟨ns, hns, h12, hD, S7, kp7, hd7⟩ := h
        refine ⟨D, _, rfl, .inl ⟨sqlOf hD, fun t nt => ?_⟩⟩
        have S8 := S7.new (o := .tup (ns.map V.int)) nt
        have kp8 := kp7.trans (Keep.new (o := .tup (ns.map V.int)) nt)
        have at8 := S7.fresh nt
        have hd8 : upd H7 t (.tup (ns.map V.int)) d = some (dZ T) := by
          rw [upd_ne (ne_of_none hd7 nt)]
          exact hd7
        refine ⟨.ref a, rfl, .int g, rfl, a, c, _, g, rfl, S8, by omega, hg, fun H9 r9 S9 k9 w0 w1 => ?_⟩
        refine ⟨1, r9, rfl, rfl, .ref a, rfl, a, c, _, 2, rfl, S9, by omega, by decide, by decide, fun H10 r10 S10 k10 u0 u1 => ?_⟩
        have k910 := k9.trans k10
        have hd10 : H10 d = some (dZ T) := k910 d _ adn.1 adn.2 hd8
        have ht10 : H10 t = some (.tup (ns.map V.int)) := k910 t _ at8.1 at8.2 upd_same
        refine ⟨2, r10, rfl, rfl, .inl ⟨by decide, by decide⟩, 1, 2 * r10, rfl, rfl, 1 + r9, 1 - 2 * r10, rfl, rfl, .inr ⟨by omega, by omega⟩, .ref d, rfl, .ref t, rfl, d, _, rfl, DPut.t (k := ns.map Sum.inl) hd10 (by rw [map_kV]; exact ht10) ?_, ?_⟩
        · rw [List.length_map, sizeLine_eq]
          omega
        · refine ⟨_, _, setD T ns ((1 + r9) * (1 - 2 * r10)), rfl, (S10.put adn).more (by omega), (kp8.trans k910).put nd, ⟨?_, setD_nodup _ _ hT.nodup, fun q hq => ?_⟩, ⟨fun q hq => ?_⟩, Nat.le_trans (setD_len _ _ _) (Nat.succ_le_succ hTl)⟩
          · rw [upd_same, putK_enc]
          · rcases setD_mem hq with ⟨hq, _⟩ | rfl
            · exact hT.len q hq
            · exact hns
          · rcases setD_mem hq with ⟨hq, _⟩ | rfl
            · exact hlow.b q hq
            · exact ⟨coef_small w0 w1 u0 u1, h12⟩
    · obtain ⟨y6, y7, T, rfl, S6, kp6, hT, hlow, hTl⟩ := h
      exact ⟨.ref d, rfl, q H6 d T (S6.more (by omega)) kp6 nd hT hlow (by omega)⟩
/-! ### the law's places -/
end
end NH
set_option Elab.async false
set_option linter.all false
set_option maxRecDepth 100000
set_option maxHeartbeats 1000000
set_option exponentiation.threshold 100000
namespace NH
open PySem PySem.Spec PyProof.Rows L2 R1 ZN PK RS
section
variable {P : Program} {w : World} {K : PySem.W.Frag} {mg : Str → Option Value} {base : Heap} {f : Nat → Addr} {d : Nat → FuncData}
def spGcd : Sp := fun vs H Q _ => ∃ a b : Int, vs = [.int a, .int b] ∧ Q (.int ((Nat.gcd a.natAbs b.natAbs : Nat) : Int)) H
theorem ok_gcd {k : Nat} (D : Defs K mg f d) : FnOk P w K mg base CX0 (k + 1) (f i__law_gcd) (d i__law_gcd) ["_law_one", "_law_other"] spGcd := by
  refine D.F__law_gcd.ok sc__law_gcd (fun vs H Q E h => ?_) (fun cdv A outer s H vs Q E hr h => ?_)
  · obtain ⟨a, b, rfl, _⟩ := h
    rfl
  · obtain ⟨a, b, rfl, q⟩ := h
    have nd := sc__law_gcd.nd
    refine ⟨_, pss_cons (ps_par (i := 0) (j := 1) (by rfl) nd rfl rfl (by decide) rfl rfl (pa_cons (pe_callB call_abs (by rfl) D.z_abs (by decide +kernel) (pa_cons (pv 0) pa_nil)) (pa_cons (pe_callB call_abs (by rfl) D.z_abs (by decide +kernel) (pa_cons (pv 1) pa_nil)) pa_nil)) (by rfl))
      (pss_cons (ps_while PassesOwn.never (pt_cmpR op_ne (pv 1) pe_int (nomark _))
        (pss_one (ps_par (i := 0) (j := 1) (by rfl) nd rfl rfl (by decide) rfl rfl (pa_cons (pv 1) (pa_cons (pe_op op_modN (pe_callTy call_int1 (by rfl) D.z_int (by decide +kernel) (pa_cons (pv 0) pa_nil)) (pv 1)) pa_nil)) (by rfl))))
      (pss_one (ps_ret (pv 0)))), ?_⟩
    dsimp only [tSeq, tAsg, gName]
    have na : ∀ x : Int, (if x < 0 then -x else x) = ((x.natAbs : Nat) : Int) := fun x => by split <;> omega
    refine ⟨.int a, rfl, _, rfl, .int b, rfl, _, rfl, _, _, rfl, ?_⟩
    rw [na, na]
    refine while_by (fun σ H' => ∃ x y : Nat, σ = [some (.int (x : Nat)), some (.int (y : Nat))] ∧ H' = H ∧ Nat.gcd x y = Nat.gcd a.natAbs b.natAbs) (fun σ _ => slotN 1 σ) ⟨a.natAbs, b.natAbs, rfl, rfl, rfl⟩ (fun σ H' h => ?_) (fun σ H Q Q' hq h => ?_)
    · obtain ⟨x, y, rfl, rfl, e⟩ := h
      refine ⟨_, rfl, rfl, _, rfl, ?_⟩
      by_cases hy : y = 0
      · subst hy
        rw [Nat.gcd_zero_right] at e
        rw [show (!decide (V.int ((0 : Nat) : Int) = V.int 0)) = false by rfl]
        refine iteF ⟨_, rfl, ?_⟩
        rw [e]
        exact q
      · rw [show (!decide (V.int ((y : Nat) : Int) = V.int 0)) = true by
          rw [decide_eq_false (fun z => hy (by injection z with z; omega))]
          rfl]
        refine iteT ?_
        refine ⟨_, rfl, _, rfl, .inl ⟨_, rfl, _, rfl, _, _, rfl, rfl, by omega, _, _, rfl, ?_⟩⟩
        have em : ((x : Nat) : Int).fmod (y : Nat) = ((x % y : Nat) : Int) := by
          rw [Int.fmod_eq_emod_of_nonneg _ (by omega)]
          rfl
        refine ⟨⟨y, x % y, ?_, rfl, ?_⟩, ?_⟩
        · rw [← em]
          rfl
        · rw [← e, Nat.gcd_comm x y, Nat.gcd_rec y x, Nat.gcd_comm]
        · show (((x : Nat) : Int).fmod (y : Nat)).toNat < ((y : Nat) : Int).toNat
          rw [em, Int.toNat_natCast, Int.toNat_natCast]
          exact Nat.mod_lt _ (by omega)
    · obtain ⟨v, e, z, k, hk, q⟩ := h
      exact ⟨v, e, z, k, hk, hq _ _ q⟩
def spLowest : Sp := fun vs H Q _ => ∃ T B : Int, vs = [.int T, .int B] ∧ B ≠ 0 ∧ B.natAbs < 2 ^ 8500 ∧ ∀ H' (z : Addr) (a b : Int), Same H H' → H z = none → GM.IsLow T B a b → H' z = some (.tup [.int a, .int b]) → Q (.ref z) H'
theorem ok_lowest {k : Nat} (D : Defs K mg f d) : FnOk P w K mg base CX0 (k + 2) (f i__law_lowest) (d i__law_lowest) ["_law_top", "_law_bottom"] spLowest := by
  have G__law_gcd : FnOk P w K mg base CX0 (k + 1) (f i__law_gcd) (d i__law_gcd) ["_law_one", "_law_other"] spGcd := ok_gcd D
  refine D.F__law_lowest.ok sc__law_lowest (fun vs H Q E h => ?_) (fun cdv A outer s H vs Q E hr h => ?_)
  · obtain ⟨T, B, rfl, _⟩ := h
    rfl
  · obtain ⟨T, B, rfl, hB, hb, q⟩ := h
    have nd := sc__law_lowest.nd
    refine ⟨_, pss_cons (ps_set (i := 2) nd rfl (.inl rfl) (pe_call G__law_gcd hr (by rfl) D.g__law_gcd D.F__law_gcd.kp D.b__law_gcd .nil pass0 (pa_cons (pv 0) (pa_cons (pv 1) pa_nil))))
      (Evl.pss_cut (ps_if (pt_cmpR op_lt (pv 1) pe_int (nomark _))
        (pss_one (ps_set (i := 2) nd rfl (.inl rfl) (pe_op op_sub pe_int (pv 2))))
        pss_nil)
      (pss_one (ps_ret (pe_tup (pa_cons (pe_op op_fdivB (pv 0) (pv 2)) (pa_cons (pe_op op_fdivB (pv 1) (pv 2)) pa_nil)))))), ?_⟩
    refine ⟨.int T, rfl, .int B, rfl, T, B, rfl, ?_⟩
    refine ⟨fun σ' H2 => H2 = H ∧ ∃ s : Int, σ' = [some (.int T), some (.int B), some (.int s)] ∧ s = (if B < 0 then -((Nat.gcd T.natAbs B.natAbs : Nat) : Int) else ((Nat.gcd T.natAbs B.natAbs : Nat) : Int)), ?_, ?_⟩
    · refine ⟨.int B, rfl, _, _, rfl, rfl, _, rfl, ite2 (fun e => ?_) (fun e => ?_)⟩
      · have hneg : B < 0 := of_decide_eq_true e
        refine ⟨_, rfl, _, _, rfl, rfl, rfl, _, rfl, ?_⟩
        rw [if_pos hneg]
        omega
      · have hpos : ¬ B < 0 := fun z => e (decide_eq_true z)
        exact ⟨rfl, _, rfl, by rw [if_neg hpos]⟩
    · rintro σ' H2 ⟨rfl, s, rfl, hs⟩
      obtain ⟨h1, h2, h3⟩ := GM.low_of (T := T) hB hs
      have hlog : s.natAbs.log2 < 9000 := by
        have h4 : s.natAbs ≤ B.natAbs := by
          rw [h2]
          exact Nat.gcd_le_right _ (by omega)
        exact log2_lt (Nat.lt_of_le_of_lt h4 (Nat.lt_trans hb (Nat.pow_lt_pow_right (by decide) (by decide)))) (by decide)
      refine ⟨.int T, rfl, .int s, rfl, _, _, rfl, rfl, ⟨h1, hlog⟩, .int B, rfl, .int s, rfl, _, _, rfl, rfl, ⟨h1, hlog⟩, two_ok, fun z nz => ?_⟩
      exact q _ z _ _ (same_new nz) nz h3 upd_same
end
end NH
set_option Elab.async false
set_option linter.all false
set_option maxRecDepth 100000
set_option maxHeartbeats 1000000
namespace R1
open PySem PySem.Spec PyProof.Rows L2
/-! ### zip(l, t) -/
abbrev yH1 (h : Heap) (l1 : Addr) : Heap := h.push { cls := .type "list_iterator", data := .fields #[.ref l1, .int 0 0] }
abbrev yH2 (h : Heap) (l1 l2 : Addr) : Heap := (yH1 h l1).push { cls := .type "tuple_iterator", data := .fields #[.ref l2, .int 0 0] }
abbrev yH3 (h : Heap) (l1 l2 : Addr) : Heap := (yH2 h l1 l2).push { cls := .type "tuple", data := .seq #[.ref h.objs.size, .ref (yH1 h l1).objs.size] }
abbrev yH4 (h : Heap) (l1 l2 : Addr) : Heap := (yH3 h l1 l2).push { cls := .type "tuple", data := .seq #[.none, .none] }
abbrev yH5 (h : Heap) (l1 l2 : Addr) : Heap := (yH4 h l1 l2).push { cls := .type "zip", data := .fields #[.none, .bool false, .bool false, .ref (yH2 h l1 l2).objs.size, .ref (yH3 h l1 l2).objs.size] }
theorem meets_zipLT_new (l1 l2 : Addr) (xs ys : Array Value) :
    Meets (Builtin.«zip.__new__» ⟨[.type "zip", .ref l1, .ref l2], []⟩) (fun _ R s => s.heap.IsList l1 xs ∧ s.heap.IsTuple l2 ys ∧
      R (.ok (.ret (.ref (yH4 s.heap l1 l2).objs.size))) { s with heap := yH5 s.heap l1 l2 }) :=
  .of_wp fun prog w A R s h => by
    obtain ⟨hp, g, d, tk, os⟩ := s; obtain ⟨hl1, hl2, h⟩ := h
    have hsub := sub_zip
    have hL1 : Heap.IsList (Shared.heap ⟨hp, g, d, tk, os⟩) l1 xs := hl1
    have hL2 : Heap.IsTuple (Shared.heap ⟨hp.push { cls := .type "list_iterator", data := .fields #[.ref l1, .int 0 0] }, g, d, tk, os⟩) l2 ys := hl2.push _
    wp_walk using wpAny_pyIter_list hL1, wpAny_pyIter_tuple hL2
    exact ⟨_, rfl, h⟩
section
variable {prog : Program} {w : World} {A : Around} {E : Value → Shared → Prop} {s : Shared}
theorem call_zipLT {l1 l2 : Addr} {xs ys : Array Value} {Q : Value → Shared → Prop} (hl1 : s.heap.IsList l1 xs) (hl2 : s.heap.IsTuple l2 ys)
    (h : ∀ h', IsZip h' (s.heap.objs.size + 4) (s.heap.objs.size + 2) (s.heap.objs.size + 3) .none → IsPair h' (s.heap.objs.size + 2) (.ref s.heap.objs.size) (.ref (s.heap.objs.size + 1)) →
      IsPair h' (s.heap.objs.size + 3) .none .none → h'.IsListIter s.heap.objs.size l1 0 → h'.IsTupleIter (s.heap.objs.size + 1) l2 0 → h'.objs.size = s.heap.objs.size + 5 →
      (∀ c o, s.heap.get? c = some o → h'.get? c = some o) → Q (.ref (s.heap.objs.size + 4)) { s with heap := h' }) :
    wpAny (model prog w) A (call (.type "zip") [.ref l1, .ref l2]) Q E s := by
  refine callType_new F.called_zip (by decide) (F.typeCall_zip_2 _ _) (F.newCall_zip_2 _ _) (fun obj => F.args_object_init_3 obj _ _) F.entry_zip_new
    (meets_zipLT_new l1 l2 xs ys) ⟨hl1, hl2, ?_⟩
  have z1 : (yH1 s.heap l1).objs.size = s.heap.objs.size + 1 := Heap.size_push ..
  have z2 : (yH2 s.heap l1 l2).objs.size = s.heap.objs.size + 2 := by rw [Heap.size_push, z1]
  have z3 : (yH3 s.heap l1 l2).objs.size = s.heap.objs.size + 3 := by rw [Heap.size_push, z2]
  have z4 : (yH4 s.heap l1 l2).objs.size = s.heap.objs.size + 4 := by rw [Heap.size_push, z3]
  have z5 : (yH5 s.heap l1 l2).objs.size = s.heap.objs.size + 5 := by rw [Heap.size_push, z4]
  have g5 : (yH5 s.heap l1 l2).get? (yH4 s.heap l1 l2).objs.size = some _ := Heap.get?_push_size _ rfl
  have g4 : (yH5 s.heap l1 l2).get? (yH3 s.heap l1 l2).objs.size = some _ := Heap.get?_push_of_some _ (Heap.get?_push_size _ rfl)
  have g3 : (yH5 s.heap l1 l2).get? (yH2 s.heap l1 l2).objs.size = some _ := Heap.get?_push_of_some _ (Heap.get?_push_of_some _ (Heap.get?_push_size _ rfl))
  have g2 : (yH5 s.heap l1 l2).get? (yH1 s.heap l1).objs.size = some _ := Heap.get?_push_of_some _ (Heap.get?_push_of_some _ (Heap.get?_push_of_some _ (Heap.get?_push_size _ rfl)))
  have g1 : (yH5 s.heap l1 l2).get? s.heap.objs.size = some _ := Heap.get?_push_of_some _ (Heap.get?_push_of_some _ (Heap.get?_push_of_some _ (Heap.get?_push_of_some _ (Heap.get?_push_size _ rfl))))
  show _ ∧ _
  rw [z2, z3, z4] at g5
  rw [z1, z2] at g3
  rw [z3] at g4
  rw [z1] at g2
  rw [z4]
  exact ⟨⟨_, g5, rfl⟩, h _ g5 g3 g4 ⟨_, g1, rfl, rfl⟩ ⟨_, g2, rfl, rfl⟩ z5 fun c o x =>
    Heap.get?_push_of_some _ (Heap.get?_push_of_some _ (Heap.get?_push_of_some _ (Heap.get?_push_of_some _ (Heap.get?_push_of_some _ x))))⟩
end
/-- the list at a and the tuple at b, the items in new pairs -/
def ItzL (K : PySem.W.Frag) (a b : Addr) : It :=
  ⟨fun i H => ∃ (xs ys : List V) (x y : V), SqL K H a xs ∧ SqT K H b ys ∧ xs[i]? = some x ∧ ys[i]? = some y,
    fun i H v H' => ∃ T x y, v = .ref T ∧ H T = none ∧ H' = upd H T (.tup [x, y]) ∧ (∀ xs, SqL K H a xs → xs[i]? = some x) ∧ ∀ ys, SqT K H b ys → ys[i]? = some y,
    fun i H => ∃ xs ys : List V, SqL K H a xs ∧ SqT K H b ys ∧ xs.length = i ∧ ys.length = i⟩
theorem turn_zipL {P : Program} {w : World} {K : PySem.W.Frag} {elts : List Expr} {kk : Nat} {tpos : Pos} {a b z TI TO i1 i2 : Addr} (D : ZipApart z TI TO i1 i2 a b) :
    Turn P w K (.Tuple elts kk tpos) (ItzL K a b) [z, TI, TO, i1, i2] z (fun i h => IsZip h z TI TO .none ∧ IsPair h TI (.ref i1) (.ref i2) ∧ (∃ x y, IsPair h TO x y) ∧ h.IsListIter i1 a i ∧ h.IsTupleIter i2 b i) where
  mem := by simp
  obj := fun i h st c hc => by
    obtain ⟨hz, hTI, ⟨x, y, hTO⟩, ⟨o1, e1, _, d1⟩, ⟨o2, e2, _, d2⟩⟩ := st
    have e' : c = z ∨ c = TI ∨ c = TO ∨ c = i1 ∨ c = i2 := by simpa using hc
    rcases e' with q | q | q | q | q
    · rw [q]; exact ⟨_, hz, fun v q => nomatch q⟩
    · rw [q]; exact ⟨_, hTI, fun v q => nomatch q⟩
    · rw [q]; exact ⟨_, hTO, fun v q => nomatch q⟩
    · rw [q]; exact ⟨o1, e1, fun v q => by rw [d1] at q; cases q⟩
    · rw [q]; exact ⟨o2, e2, fun v q => by rw [d2] at q; cases q⟩
  keep := fun i h h' st k => by
    obtain ⟨hz, hTI, ⟨x, y, hTO⟩, h1, h2⟩ := st
    exact ⟨k z (by simp) _ hz, k TI (by simp) _ hTI, ⟨x, y, k TO (by simp) _ hTO⟩, h1.at fun o q => k i1 (by simp) o q, h2.at fun o q => k i2 (by simp) o q⟩
  item := by
    intro X hP hw hK hc i pins s σ H E I hf st hg
    subst hP hw hK
    obtain ⟨hz, hTI, ⟨x0, y0, hTO⟩, h1, h2⟩ := st
    obtain ⟨xs, ys, x, y, hqx, hqy, hx, hy⟩ := hg
    obtain ⟨its, rv, p, _⟩ := I.list hqx
    obtain ⟨its2, rv2, p2, _⟩ := I.tuple hqy
    obtain ⟨u, hu, ru⟩ := rv.get hx
    obtain ⟨u2, hu2, ru2⟩ := rv2.get hy
    have hzl : z < s.heap.objs.size := Heap.lt_size hz
    have lt1 : i < its.toArray.size := by
      rw [List.size_toArray]
      exact (List.getElem?_eq_some_iff.mp hu).1
    have lt2 : i < its2.toArray.size := by
      rw [List.size_toArray]
      exact (List.getElem?_eq_some_iff.mp hu2).1
    refine wpAny_pyNext_zipD2_item (sep_of (h := s.heap) D) (Draws.list (A := X.A.in1) (I.ok.hd hc) i1 a D.l1i1 its.toArray) (draws_tuple (A := X.A.in1) (I.ok.hd hc) i2 b D.l2i2 its2.toArray) hz hTI hTO ⟨h1, p.isList⟩ ⟨h2, p2⟩ lt1 lt2 fun w1 w2 h' tk e1 e2 z' TO' s1' s2' hT hsz hk => ?_
    have e1' : w1 = u := by
      have : its[i]? = some w1 := by simpa using e1
      rw [hu] at this
      exact (Option.some.inj this).symm
    have e2' : w2 = u2 := by
      have : its2[i]? = some w2 := by simpa using e2
      rw [hu2] at this
      exact (Option.some.inj this).symm
    subst e1' e2'
    refine ⟨_, rfl, wpAny_letOwnedTupleGo_zip (s := { s with heap := h', toks := tk }) z' fun h'' z'' sb => ?_⟩
    have hT2 : h''.get? s.heap.objs.size = some { cls := .type "tuple", data := .seq #[w1, w2] } := (sb.2 _ (Nat.ne_of_gt hzl)).trans hT
    have new : ObjOk X.prog X.w (upd H s.heap.objs.size (.tup [x, y])) h'' s.heap.objs.size (.tup [x, y]) :=
      ⟨by show 2 ≤ sizeLine; decide, [w1, w2], .cons ru (.cons ru2 .nil), ⟨_, hT2, rfl, _, rfl⟩⟩
    have I1 : Inv X pins σ (upd H s.heap.objs.size (.tup [x, y])) { s with heap := h'', toks := tk } :=
      I.turnedNew (t' := tk) (ch := [z, TI, TO, i1, i2]) (fun c o hb q => (sb.2 c (fun q' => hb (by simp [q']))).trans (hk c o (fun q' => hb (by simp [q'])) (fun q' => hb (by simp [q'])) (fun q' => hb (by simp [q'])) (fun q' => hb (by simp [q'])) q)) hf (Nat.le_refl _) new
    refine ⟨.ref s.heap.objs.size, _, I1, rfl, ⟨_, x, y, rfl, I.hok.fresh (Nat.le_refl _), rfl, fun l hl => by rw [I.list_inj hl hqx]; exact hx, fun l hl => by rw [I.tuple_inj hl hqy]; exact hy⟩, ⟨z'', ?_, ⟨w1, w2, ?_⟩, ?_, ?_⟩, fun c hcm => ?_⟩
    · exact (sb.2 _ D.TIz).trans (hk _ _ D.TIz D.TITO D.TIi1 D.TIi2 hTI)
    · exact (sb.2 _ D.TOz).trans TO'
    · exact s1'.1.at fun o q => (sb.2 _ D.i1z).trans q
    · exact s2'.1.at fun o q => (sb.2 _ D.i2z).trans q
    · have hlt : c < s.heap.objs.size := by
        have e' : c = z ∨ c = TI ∨ c = TO ∨ c = i1 ∨ c = i2 := by simpa using hcm
        rcases e' with q | q | q | q | q
        · rw [q]; exact hzl
        · rw [q]; exact Heap.lt_size hTI
        · rw [q]; exact Heap.lt_size hTO
        · rw [q]; obtain ⟨_, e1, _⟩ := h1; exact Heap.lt_size e1
        · rw [q]; obtain ⟨_, e2, _⟩ := h2; exact Heap.lt_size e2
      rw [upd_ne (Nat.ne_of_lt hlt)]
      exact (hf c hcm).1
  done := by
    intro X hP hw hK hc i pins s σ H E I hf st hg
    subst hP hw hK
    obtain ⟨hz, hTI, ⟨x0, y0, hTO⟩, h1, h2⟩ := st
    obtain ⟨xs, ys, hqx, hqy, he1, he2⟩ := hg
    obtain ⟨its, rv, p, _⟩ := I.list hqx
    obtain ⟨its2, rv2, p2, _⟩ := I.tuple hqy
    have l1 := rv.length
    have l2 := rv2.length
    refine wpAny_pyNext_zipD2_end (sep_of (h := s.heap) D) (Draws.list (A := X.A.in1) (I.ok.hd hc) i1 a D.l1i1 its.toArray) (draws_tuple (A := X.A.in1) (I.ok.hd hc) i2 b D.l2i2 its2.toArray) hz hTI hTO ⟨h1, p.isList⟩ ⟨h2, p2⟩ (by rw [List.size_toArray]; omega) (by rw [List.size_toArray]; omega) (.inl (by rw [List.size_toArray]; omega)) fun h' tk hk => ⟨rfl, I.turnedL (t' := tk) (ch := [z, TI, TO, i1, i2]) (fun c o hb q =>
      hk c o (fun q' => hb (by simp [q'])) (fun q' => hb (by simp [q'])) (fun q' => hb (by simp [q'])) (fun q' => hb (by simp [q'])) q) hf⟩
  self := fun A i s Q E st h => wpAny_pyIter_zip st.1 h
def iZipL (K : PySem.W.Frag) (ta : TA) : TI := fun σ H R => ta σ H fun vs H1 => ∃ a b xs ys, vs = [.ref a, .ref b] ∧ SqL K H1 a xs ∧ SqT K H1 b ys ∧ R (ItzL K a b) H1
theorem pi_zipL {X : Cx} {e e2 : Expr} {ta : TA} {p pos tpos : Pos} {elts : List Expr} {kk : Nat} (hg : Gl X "zip") (hm : X.mg "zip" = none) (ha : PA X [e, e2] ta)
    (hs : starEach [e, e2] X.env = (false, eval e X.env) :: starEach [e2] X.env := by rfl) (hpl : (backTo pos (starEach [e2] X.env)).any (·.1) = false := by rfl) :
    PI X (.Tuple elts kk tpos) (.Call (.Name "zip" p) [e, e2] [] pos) (iZipL X.K ta) := by
  refine ⟨fun pins s σ H R I h => ?_⟩
  refine Call_ (ld_blt I hg hm PyProof.Rows.boot_zip (PyProof.Rows.callWith_type1 (thn (ha.run pos pins s σ H _ I h) fun us s1 ⟨vs, H1, I1, r1, q1⟩ => ?_) hs hpl))
  obtain ⟨a, b, xs, ys, ex, hqx, hqy, q⟩ := q1
  subst ex
  cases r1 with
  | cons r rr =>
    cases rr with
    | cons r' rr =>
      cases rr
      cases r
      cases r'
      have fresh5 : ∀ c, c ∈ [s1.heap.objs.size + 4, s1.heap.objs.size + 2, s1.heap.objs.size + 3, s1.heap.objs.size, s1.heap.objs.size + 1] → FpOk X pins H1 c := fun c hcm => by
        have e' : c = s1.heap.objs.size + 4 ∨ c = s1.heap.objs.size + 2 ∨ c = s1.heap.objs.size + 3 ∨ c = s1.heap.objs.size ∨ c = s1.heap.objs.size + 1 := by simpa using hcm
        have hle : s1.heap.objs.size ≤ c := by
          rcases e' with z | z | z | z | z
          · rw [z]; exact Nat.le_add_right _ _
          · rw [z]; exact Nat.le_add_right _ _
          · rw [z]; exact Nat.le_add_right _ _
          · rw [z]; exact Nat.le_refl _
          · rw [z]; exact Nat.le_add_right _ _
        exact I1.fpOk hle (I1.hok.fresh hle)
      obtain ⟨its, rv, p1, _⟩ := I1.list hqx
      obtain ⟨its2, rv2, p2, _⟩ := I1.tuple hqy
      obtain ⟨o2, ho2, _⟩ := id p2
      refine call_zipLT p1.isList (show s1.heap.IsTuple b its2.toArray from p2) fun h' hz hTI hTO h1 h2 hsz hk => wpAny_pyIter_zip hz ?_
      have I2 : Inv X pins σ H1 { s1 with heap := h' } := I1.kept (t' := s1.toks) hk
      exact ⟨s1.heap.objs.size + 4, [s1.heap.objs.size + 4, s1.heap.objs.size + 2, s1.heap.objs.size + 3, s1.heap.objs.size, s1.heap.objs.size + 1], _, _, H1, rfl, I2, turn_zipL (PySem.W.ktu_apart s1.heap.objs.size a b p1.lt (Heap.lt_size ho2)), ⟨hz, hTI, ⟨_, _, hTO⟩, h1, h2⟩, fresh5, q⟩
section
variable {K : PySem.W.Frag} {a b : Addr} {xs ys : List V}
theorem walk_zipL (hl : xs.length = ys.length) : Walk (ItzL K a b) xs.length (fun H => SqL K H a xs ∧ SqT K H b ys) (YPair (fun i => xs[i]?) (fun i => ys[i]?)) := by
  refine ⟨fun i _ hi q => ?_, fun _ q => ⟨xs, ys, q.1, q.2, rfl, hl.symm⟩, fun i H v H' _ q y => ?_⟩
  · have h2 : i < ys.length := by omega
    exact ⟨xs, ys, xs[i], ys[i], q.1, q.2, by simp [hi], by simp [h2]⟩
  · obtain ⟨T, x, z, h1, h2, h3, h4, h5⟩ := y
    exact ⟨T, x, z, h1, h2, h3, h4 xs q.1, h5 ys q.2⟩
end
end R1
set_option Elab.async false
set_option linter.all false
set_option maxRecDepth 100000
set_option maxHeartbeats 1000000
set_option exponentiation.threshold 100000
namespace NH
open PySem PySem.Spec PyProof.Rows L2 R1 ZN PK RS
def pows (x : Int) (n : Nat) : List Int := (List.range n).map fun i => x ^ i
theorem pows_succ (x : Int) (n : Nat) : pows x (n + 1) = pows x n ++ [x ^ n] := by
  unfold pows
  rw [List.range_succ, List.map_append]
  rfl
theorem pows_len (x : Int) (n : Nat) : (pows x n).length = n := by
  unfold pows
  rw [List.length_map, List.length_range]
theorem pows_at (x : Int) {i n : Nat} (h : i < n) : (pows x n)[i]? = some (x ^ i) := by
  unfold pows
  rw [List.getElem?_map, List.getElem?_range h]
  rfl
theorem tval_app (xs : List Int) (m : Nat) : ∀ A B : Ts, GM.tval xs m (A ++ B) = GM.tval xs m A + GM.tval xs m B
  | [], B => by simp [GM.tval]
  | q :: A, B => by
    rw [List.cons_append, GM.tval, GM.tval, tval_app xs m A B]
    omega
def tw (m : Nat) : List Int := List.replicate m 12
theorem tw_at {m j : Nat} (h : j < m) : (tw m).getD j 0 = 12 := by
  unfold tw
  rw [List.getD_eq_getElem?_getD, List.getElem?_replicate, if_pos h]
  rfl
theorem tw_len (m : Nat) : (tw m).length = m := List.length_replicate
section
variable {P : Program} {w : World} {K : PySem.W.Frag} {mg : Str → Option Value} {base : Heap} {f : Nat → Addr} {d : Nat → FuncData}
def spWorth : Sp := fun vs H Q _ => ∃ (t nl : Addr) (m : Nat) (D : Ts) (xs : List Int), vs = [.ref t, .ref nl] ∧ DictAt H t m D ∧ Bnds D ∧ D.length ≤ 400 ∧ m ≤ 6 ∧ H nl = some (.lst (xs.map V.int)) ∧ xs.length = m ∧ (∀ x ∈ xs, x ≠ 0 ∧ x.natAbs < 2 ^ 110) ∧
  ∀ H' (z : Addr) (a b : Int), Same H H' → H z = none → GM.IsLow (GM.tval xs m (D.map (more (tw m)))) (GM.mono xs m (tw m)) a b → H' z = some (.tup [.int a, .int b]) → Q (.ref z) H'
theorem ok_worth {k : Nat} (Df : Defs K mg f d) : FnOk P w K mg base CX0 (k + 3) (f i__law_worth) (d i__law_worth) ["_law_terms_here", "_law_numbers_here"] spWorth := by
  have D := Df
  have G__law_lowest : FnOk P w K mg base CX0 (k + 2) (f i__law_lowest) (d i__law_lowest) ["_law_top", "_law_bottom"] spLowest := ok_lowest D
  refine D.F__law_worth.ok sc__law_worth (fun vs H Q E h => ?_) (fun cdv A outer s H vs Q E hr h => ?_)
  · obtain ⟨t, nl, m, T, xs, rfl, _⟩ := h
    rfl
  · obtain ⟨t, nl, m, T, xs, rfl, hT, hB, hTl, hm6, hnl, hxm, hx, q⟩ := h
    have nd := sc__law_worth.nd
    have hu := hu_of hr
    refine ⟨_, pss_cons (ps_set (i := 2) nd rfl (.inl rfl) (pe_lst pa_nil))
      (pss_cons (ps_for PassesOwn.never rfl (pi_list (pv 1)) (pg_name (i := 3) nd rfl (.inl rfl))
        (pss_cons (ps_set (i := 4) nd rfl (.inl rfl) (pe_lst (pa_cons pe_int pa_nil)))
          (pss_cons (ps_for PassesOwn.never rfl (pi_range1 (by rfl) D.z_range (pa_cons pe_int pa_nil)) (pg_name (i := 5) nd rfl (.inl rfl))
            (pss_one (ps_expr (pe_bm PySem.F.plainAttrs_list PySem.F.slot_list_append PySem.F.type_list_append mt_append (pv 4) (pa_cons (pe_op op_mulX (pe_ix ix_list (pv 4) (pe_un un_neg pe_int) (fun _ _ => rfl)) (pv 3)) pa_nil)))))
          (pss_one (ps_expr (pe_bm PySem.F.plainAttrs_list PySem.F.slot_list_append PySem.F.type_list_append mt_append (pv 2) (pa_cons (pv 4) pa_nil)))))))
      (pss_cons (ps_asg (pe_tup (pa_cons pe_int (pa_cons pe_int pa_nil))) (pg_tup rfl (pgs_cons (pg_name (i := 6) nd rfl (.inl rfl)) (pgs_cons (pg_name (i := 7) nd rfl (.inl rfl)) pgs_nil))))
      (pss_cons (ps_for PassesOwn.never rfl (pi_list (pv 2)) (pg_name (i := 4) nd rfl (.inl rfl))
        (pss_one (ps_set (i := 7) nd rfl (.inl rfl) (pe_op op_mulX (pv 7) (pe_ix ix_list (pv 4) pe_int (fun _ _ => rfl))))))
      (pss_cons (ps_lock (ps_for PassesOwn.never rfl (pi_keys (pv 0)) (pg_name (i := 8) nd rfl (.inl rfl))
        (pss_cons (ps_set (i := 9) nd rfl (.inl rfl) (pe_dget hu (pv 0) (pv 8) (fun _ _ => rfl)))
          (pss_cons (ps_for PassesOwn.never rfl (pi_zipL (by rfl) D.z_zip (pa_cons (pv 2) (pa_cons (pv 8) pa_nil))) (pg_tup rfl (pgs_cons (pg_name (i := 4) nd rfl (.inl rfl)) (pgs_cons (pg_name (i := 10) nd rfl (.inl rfl)) pgs_nil)))
            (pss_one (ps_set (i := 9) nd rfl (.inl rfl) (pe_op op_mulX (pv 9) (pe_ix ix_list (pv 4) (pe_op op_add (pv 10) pe_int) (fun _ _ => rfl))))))
          (pss_one (ps_set (i := 6) nd rfl (.inl rfl) (pe_op op_add (pv 6) (pv 9))))))))
      (pss_one (ps_ret (pe_call G__law_lowest hr (by rfl) D.g__law_lowest D.F__law_lowest.kp D.b__law_lowest .nil pass0 (pa_cons (pv 6) (pa_cons (pv 7) pa_nil))))))))), ?_⟩
    dsimp only [tSeq, tAsg, gName]
    refine ⟨Nat.zero_le _, fun rl nrl => ?_⟩
    have s1 := same_new (o := .lst ([] : List V)) nrl
    have hrl : upd H rl (.lst ([] : List V)) rl = some (.lst []) := upd_same
    generalize hH1 : upd H rl (.lst ([] : List V)) = H1 at s1 hrl
    have hnlrl : nl ≠ rl := fun z => by rw [z, nrl] at hnl; cases hnl
    have pb : ∀ {x : Int}, x ∈ xs → ∀ {i : Nat}, i ≤ 24 → (x ^ i).natAbs < 2 ^ 3000 := fun {x} hxm' {i} hi => Nat.lt_of_lt_of_le (pow_bits (hx _ hxm').2 i) (Nat.pow_le_pow_right (by decide) (by
      have : 110 * i ≤ 110 * 24 := Nat.mul_le_mul_left _ hi
      omega))
    refine ⟨.ref nl, rfl, nl, rfl, ⟨_, sqlOf (s1 _ _ hnl)⟩, for_list (xs := xs.map V.int) (fun i σ H' => ∃ (rs : List Addr) (y3 y4 y5 : Option V), σ = [some (.ref t), some (.ref nl), some (.ref rl), y3, y4, y5, none, none, none, none, none] ∧ H' rl = some (.lst (rs.map V.ref)) ∧ rs.length = i ∧ (∀ j b, rs[j]? = some b → b ≠ rl ∧ H' b = some (.lst ((pows (xs.getD j 0) 25).map V.int))) ∧ But rl H1 H')
      ⟨[], none, none, none, rfl, hrl, rfl, (fun j b e => by simp at e), fun _ _ _ e => e⟩ (fun i σ H' _ h => ?_) (fun i x σ H' hx' h => ?_) (fun σ H' h => ?_)⟩
    · obtain ⟨_, _, _, _, _, _, _, _, kp⟩ := h
      exact sqlOf (kp _ _ hnlrl (s1 _ _ hnl))
    · obtain ⟨rs, y3, y4, y5, rfl, hR, hRl, hRd, kp⟩ := h
      rw [List.getElem?_map] at hx'
      obtain ⟨v, hv, rfl⟩ := Option.map_eq_some_iff.mp hx'
      have hvm := List.mem_of_getElem? hv
      have hil : i < xs.length := (List.getElem?_eq_some_iff.mp hv).1
      refine ⟨one1, fun b nb => ?_⟩
      have sb := same_new (o := .lst [V.int 1]) nb
      have bR : b ≠ rl := fun z => by rw [z, hR] at nb; cases nb
      refine ⟨24, rfl, by decide, by decide, for_range (n := 24) (fun j σ H2 => ∃ y5 : Option V, σ = [some (.ref t), some (.ref nl), some (.ref rl), some (.int v), some (.ref b), y5, none, none, none, none, none] ∧ H2 b = some (.lst ((pows v (j + 1)).map V.int)) ∧ But b H' H2)
        ⟨y5, rfl, by rw [upd_same]; show _ = some (HO.lst [V.int (v ^ 0)]); rw [Int.pow_zero], But.start⟩ (fun j σ H2 hj h => ?_) (fun σ H2 h => ?_)⟩
      · obtain ⟨y5, rfl, hb, kb⟩ := h
        rw [pows_succ, List.map_append] at hb
        refine ⟨.ref b, rfl, .inl ⟨rfl, _, sqlOf hb⟩, .ref b, rfl, _, rfl, b, _, -1, .int (v ^ j), rfl, rfl, sqlOf hb, atI_last _ _, .int v, rfl, _, _, rfl, rfl, ?_, b, _, _, rfl, rfl, hb, ?_, some (.int ((0 : Int) + (j : Nat))), rfl, ?_, kb.step (Same.refl _)⟩
        · exact mulx (pb hvm (by omega)) (Nat.lt_trans (hx v hvm).2 (Nat.pow_lt_pow_right (by decide) (show 110 < 3000 by decide))) (by decide)
        · rw [List.length_append, List.length_map, pows_len, sizeLine_eq]
          show j + 1 < _
          omega
        · rw [upd_same, pows_succ, pows_succ, List.map_append, List.map_append, Int.pow_succ]
          rfl
      · obtain ⟨y5, rfl, hb, kb⟩ := h
        have hR2 := kb _ _ bR.symm hR
        refine ⟨.ref rl, rfl, .inl ⟨rfl, _, sqlOf hR2⟩, .ref b, rfl, rl, _, _, rfl, rfl, hR2, by rw [List.length_map, sizeLine_eq]; omega, rs ++ [b], some (.int v), some (.ref b), y5, rfl, by rw [upd_same, List.map_append]; rfl, by rw [List.length_append, hRl]; rfl, fun j b' hj => ?_, fun c o hc ec => ?_⟩
        · by_cases z : j < rs.length
          · rw [List.getElem?_append_left z] at hj
            obtain ⟨h1, h2⟩ := hRd j b' hj
            refine ⟨h1, ?_⟩
            rw [upd_ne h1]
            exact kb _ _ (fun y => by rw [y, nb] at h2; cases h2) h2
          · rw [List.getElem?_append_right (by omega)] at hj
            have hj0 : j - rs.length = 0 := by
              have := (List.getElem?_eq_some_iff.mp hj).1
              simp at this
              omega
            rw [hj0] at hj
            cases hj
            refine ⟨bR, ?_⟩
            rw [upd_ne bR]
            have : xs.getD j 0 = v := by
              rw [List.getD_eq_getElem?_getD, show j = i by omega, hv]
              rfl
            rw [this]
            exact hb
        · rw [upd_ne hc]
          have h1 := kp c o hc ec
          exact kb _ _ (ne_of_none h1 nb) h1
    · obtain ⟨rs, y3, y4, y5, rfl, hR, hRl, hRd, kp⟩ := h
      rw [List.length_map] at hRl
      have nrl0 : H rl = none := nrl
      have s02 : Same H H' := fun b o e => kp b o (ne_of_none e nrl0) (s1 b o e)
      dsimp only [tSeq, tAsg, gName]
      refine ⟨two_ok, fun z nz => ?_⟩
      have sz := same_new (o := .tup [V.int 0, .int 1]) nz
      refine ⟨z, _, rfl, sqtOf upd_same, rfl, _, _, rfl, _, _, rfl, rfl, ?_⟩
      have hR2 := sz _ _ hR
      have hRd2 : ∀ (j : Nat) (b : Addr), rs[j]? = some b → upd H' z (.tup [V.int 0, .int 1]) b = some (.lst ((pows (xs.getD j 0) 25).map V.int)) := fun j b hj => sz _ _ (hRd j b hj).2
      have s03 := s02.trans sz
      generalize upd H' z (.tup [V.int 0, .int 1]) = H2 at hR2 hRd2 s03
      have xat : ∀ {j : Nat} {b : Addr}, rs[j]? = some b → j < m ∧ xs.getD j 0 ∈ xs := fun {j b} hj => by
        have h1 := (List.getElem?_eq_some_iff.mp hj).1
        refine ⟨by omega, ?_⟩
        rw [List.getD_eq_getElem?_getD, List.getElem?_eq_getElem (by omega)]
        exact List.getElem_mem _
      have rowat : ∀ {v : Int} {n : Nat}, n ≤ 24 → atI ((pows v 25).map V.int) ((n : Nat) : Int) = some (.int (v ^ n)) := fun {v n} hn => atI_nat (j := n) (by rw [List.getElem?_map, pows_at v (by omega)]; rfl)
      have bM : ∀ i, i ≤ m → (GM.mono xs i (tw m)).natAbs < 2 ^ 8000 := fun i hi => by
        have := GM.mono_bits (xs := xs) (E := 110) (W := 12) (fun x h => Nat.le_of_lt (hx x h).2) (m := i) (p := tw m) fun j hj => by rw [tw_at (by omega)]; decide
        refine Nat.lt_of_le_of_lt this (Nat.pow_lt_pow_right (by decide) ?_)
        have : i * (110 * 12) ≤ 6 * (110 * 12) := Nat.mul_le_mul_right _ (by omega)
        omega
      refine ⟨.ref rl, rfl, rl, rfl, ⟨_, sqlOf hR2⟩, for_list (xs := rs.map V.ref) (fun i σ H' => ∃ y4 : Option V, σ = [some (.ref t), some (.ref nl), some (.ref rl), y3, y4, y5, some (.int 0), some (.int (GM.mono xs i (tw m))), none, none, none] ∧ H' = H2)
        ⟨y4, rfl, rfl⟩ (fun i σ H' _ h => ?_) (fun i x σ H' hx' h => ?_) (fun σ H' h => ?_)⟩
      · obtain ⟨_, _, rfl⟩ := h
        exact sqlOf hR2
      · obtain ⟨y4, rfl, rfl⟩ := h
        rw [List.getElem?_map] at hx'
        obtain ⟨b, hb, rfl⟩ := Option.map_eq_some_iff.mp hx'
        obtain ⟨him, hxi⟩ := xat hb
        refine ⟨.int (GM.mono xs i (tw m)), rfl, .ref b, rfl, b, _, 12, _, rfl, rfl, sqlOf (hRd2 i b hb), rowat (n := 12) (by decide), _, _, rfl, rfl, mulx (bM i (by omega)) (pb hxi (by decide)) (by decide), some (.ref b), ?_, rfl⟩
        rw [GM.mono, tw_at him]
        rfl
      · obtain ⟨y4, rfl, rfl⟩ := h
        rw [List.length_map, hRl, hxm]
        have hT2 := hT.same s03
        refine ⟨t, _, hT2.at_, trivial, fun od => ?_⟩
        have htF : upd H' t (.frz od (dZ T)) t = some (.frz od (dZ T)) := upd_same
        have oth : ∀ {b : Addr} {o : HO}, b ≠ t → H' b = some o → upd H' t (.frz od (dZ T)) b = some o := fun hb e => by rw [upd_ne hb]; exact e
        have trl : rl ≠ t := fun z => by have := hT2.at_; rw [← z, hR2] at this; cases this
        have hR3 := oth trl hR2
        have hRd3 : ∀ (j : Nat) (b : Addr), rs[j]? = some b → upd H' t (.frz od (dZ T)) b = some (.lst ((pows (xs.getD j 0) 25).map V.int)) := fun j b hj => oth (fun z => by have := hT2.at_; rw [← z, hRd2 j b hj] at this; cases this) (hRd2 j b hj)
        refine ⟨.ref t, rfl, t, od, rfl, .inr ⟨_, htF, for_it (walk_keysT (d := t) (o := od) (kvs := T.map enc)) (fun i σ H'' => ∃ y4 y8 y9 y10 : Option V, σ = [some (.ref t), some (.ref nl), some (.ref rl), y3, y4, y5, some (.int (GM.tval xs m ((T.take i).map (more (tw m))))), some (.int (GM.mono xs m (tw m))), y8, y9, y10] ∧ Same (upd H' t (.frz od (dZ T))) H'')
          ⟨y4, none, none, none, rfl, fun _ _ e => e⟩ (fun i σ H'' _ h => ?_) (fun i x σ H0 H'' hi h hy => ?_) (fun σ H'' h => ?_)⟩⟩
        · obtain ⟨_, _, _, _, _, s⟩ := h
          exact s _ _ htF
        · obtain ⟨y4, y8, y9, y10, rfl, s4⟩ := h
          obtain ⟨rfl, kk, v, qa, e1, rfl, hqa⟩ := hy
          obtain ⟨r, hr1, er⟩ := Option.map_eq_some_iff.mp (by rw [List.getElem?_map] at e1; exact e1)
          cases er
          have hrm := List.mem_of_getElem? hr1
          have hrl2 := hT.len r hrm
          have hrb := hB.b r hrm
          rw [map_kV] at hqa
          have g1 : DGet H'' t (.ref qa) (some (.int r.2)) := by
            have := DictAt.get (m := m) (D := T) (k := r.1) (.inr ⟨od, s4 _ _ htF⟩) hqa
            rwa [show getO T r.1 = some r.2 from (getO_mem hT.nodup).mpr hrm] at this
          refine ⟨.ref t, rfl, .ref qa, rfl, t, .int r.2, rfl, g1, ?_⟩
          have hR4 := s4 _ _ hR3
          have more12 : ∀ j, j < m → (more (tw m) r).1.getD j 0 = r.1.getD j 0 + 12 := fun j hj => by rw [more_at hrl2 (tw_len m) hj, tw_at hj]
          have bP : ∀ i, i ≤ m → (r.2 * GM.mono xs i (more (tw m) r).1).natAbs < 2 ^ 17000 := fun i hi => by
            have h1 := GM.mono_bits (xs := xs) (E := 110) (W := 24) (fun x h => Nat.le_of_lt (hx x h).2) (m := i) (p := (more (tw m) r).1) fun j hj => by
              rw [more12 j (by omega)]
              have := hB.at hrm j
              omega
            rw [Int.natAbs_mul]
            refine Nat.lt_of_le_of_lt (Nat.mul_le_mul (Nat.le_of_lt hrb.1) h1) ?_
            rw [← Nat.pow_add]
            refine Nat.pow_lt_pow_right (by decide) ?_
            have : i * (110 * 24) ≤ 6 * (110 * 24) := Nat.mul_le_mul_right _ (by omega)
            omega
          refine ⟨.ref rl, rfl, .ref qa, rfl, rl, qa, _, _, rfl, sqlOf hR4, sqtOf hqa, for_it (walk_zipL (xs := rs.map V.ref) (ys := r.1.map V.int) (by rw [List.length_map, List.length_map, hRl, hxm, hrl2])) (fun j σ H5 => ∃ y4 y10 : Option V, σ = [some (.ref t), some (.ref nl), some (.ref rl), y3, y4, y5, some (.int (GM.tval xs m ((T.take i).map (more (tw m))))), some (.int (GM.mono xs m (tw m))), some (.ref qa), some (.int (r.2 * GM.mono xs j (more (tw m) r).1)), y10] ∧ Same H'' H5)
            ⟨y4, y10, by rw [GM.mono, Int.mul_one]; rfl, fun _ _ e => e⟩ (fun j σ H5 _ h => ?_) (fun j x σ H5 H6 hj h hy => ?_) (fun σ H5 h => ?_)⟩
          · obtain ⟨_, _, _, s5⟩ := h
            exact ⟨sqlOf (s5 _ _ hR4), sqtOf (s5 _ _ hqa)⟩
          · obtain ⟨y4, y10, rfl, s5⟩ := h
            obtain ⟨TT, x1, x2, rfl, nTT, rfl, e1, e2⟩ := hy
            dsimp only at e1 e2
            rw [List.getElem?_map] at e1 e2
            obtain ⟨b, hb, rfl⟩ := Option.map_eq_some_iff.mp e1
            obtain ⟨n2, f2, rfl⟩ := Option.map_eq_some_iff.mp e2
            obtain ⟨hjm, hxj⟩ := xat hb
            have sT := same_new (o := .tup [V.ref b, .int n2]) nTT
            have hb6 := sT _ _ (s5 _ _ (s4 _ _ (hRd3 j b hb)))
            have hn2 := hrb.2 n2 (List.mem_of_getElem? f2)
            have g2 : r.1.getD j 0 = n2 := by rw [List.getD_eq_getElem?_getD, f2]; rfl
            have hexp : (more (tw m) r).1.getD j 0 = n2 + 12 := by rw [more12 j hjm, g2]
            refine ⟨TT, _, rfl, sqtOf upd_same, rfl, _, _, rfl, _, _, rfl, rfl, ?_⟩
            refine ⟨_, rfl, .ref b, rfl, .int n2, rfl, _, _, rfl, rfl, b, _, n2 + 12, .int (xs.getD j 0 ^ (n2 + 12).toNat), rfl, rfl, sqlOf hb6, ?_, _, _, rfl, rfl, mulx (bP j (by omega)) (pb hxj (by omega)) (by decide), some (.ref b), some (.int n2), ?_, s5.trans sT⟩
            · have := rowat (v := xs.getD j 0) (n := (n2 + 12).toNat) (by omega)
              rwa [show (((n2 + 12).toNat : Nat) : Int) = n2 + 12 by omega] at this
            · rw [GM.mono, hexp, ← Int.mul_assoc]
              rfl
          · obtain ⟨y4, y10, rfl, s5⟩ := h
            rw [List.length_map, hRl, hxm]
            refine ⟨_, rfl, _, rfl, _, _, rfl, rfl, y4, some (.ref qa), some (.int (r.2 * GM.mono xs m (more (tw m) r).1)), y10, ?_, s4.trans s5⟩
            rw [List.take_add_one, hr1, List.map_append, tval_app]
            show _ = [some (V.ref t), some (.ref nl), some (.ref rl), y3, y4, y5, some (.int (GM.tval xs m ((T.take i).map (more (tw m))) + (r.2 * GM.mono xs m (more (tw m) r).1 + 0))), some (.int (GM.mono xs m (tw m))), some (.ref qa), some (.int (r.2 * GM.mono xs m (more (tw m) r).1)), y10]
            rw [Int.add_zero]
            rfl
        · obtain ⟨y4, y8, y9, y10, rfl, s4⟩ := h
          rw [List.length_map, List.take_length]
          refine ⟨s4 _ _ htF, ?_⟩
          have sE : Same H (upd H'' t (dZ T)) := fun b o e => by
            by_cases z : b = t
            · rw [z] at e ⊢
              rw [upd_same, ← hT.at_, e]
            · rw [upd_ne z]
              exact s4 _ _ (oth z (s03 _ _ e))
          have hB0 : GM.mono xs m (tw m) ≠ 0 := GM.mono_ne fun j hj => by
            rw [List.getD_eq_getElem?_getD, List.getElem?_eq_getElem (by omega)]
            exact (hx _ (List.getElem_mem _)).1
          refine ⟨_, rfl, _, rfl, _, _, rfl, hB0, Nat.lt_trans (bM m (Nat.le_refl m)) (Nat.pow_lt_pow_right (by decide) (by decide)), fun H7 z a b s7 nz7 lo hz => ?_⟩
          exact q H7 z a b (sE.trans s7) (sE.free nz7) lo hz
end
end NH
set_option Elab.async false
set_option linter.all false
set_option maxRecDepth 100000
set_option maxHeartbeats 1000000
set_option exponentiation.threshold 100000
namespace NH
open PySem PySem.Spec PyProof.Rows L2 R1 ZN PK RS
/-- numbers that may be put for letters -/
def Nums (xs : List Int) : Prop := ∀ x ∈ xs, x ≠ 0 ∧ x.natAbs < 2 ^ 110
theorem sgn_pick {r : Int} (h0 : 0 ≤ r) (h1 : r < 2) : (1 - 2 * r = 1) ∨ (1 - 2 * r = -1) := by omega
theorem pick4 {x y z u r : Int} (h0 : 0 ≤ r) (h1 : r < 4) : ∃ v, atI [V.int x, .int y, .int z, .int u] r = some (.int v) ∧ (v = x ∨ v = y ∨ v = z ∨ v = u) := by
  have h : r = 0 ∨ r = 1 ∨ r = 2 ∨ r = 3 := by omega
  rcases h with rfl | rfl | rfl | rfl
  · exact ⟨x, atI_nat (j := 0) rfl, .inl rfl⟩
  · exact ⟨y, atI_nat (j := 1) rfl, .inr (.inl rfl)⟩
  · exact ⟨z, atI_nat (j := 2) rfl, .inr (.inr (.inl rfl))⟩
  · exact ⟨u, atI_nat (j := 3) rfl, .inr (.inr (.inr rfl))⟩
theorem ten30 : (10 : Int) ^ (30 : Int).toNat = 1000000000000000000000000000000 := by decide
theorem four_ok {a b c d : V} : [a, b, c, d].length ≤ sizeLine := by
  show 4 ≤ sizeLine
  rw [sizeLine_eq]
  decide
theorem Nums.snoc {xs : List Int} {x : Int} (h : Nums xs) (h0 : x ≠ 0) (h1 : x.natAbs < 2 ^ 110) : Nums (xs ++ [x]) := fun y hy => by
  rcases List.mem_append.mp hy with hy | hy
  · exact h y hy
  · cases List.mem_singleton.mp hy
    exact ⟨h0, h1⟩
section
variable {P : Program} {w : World} {K : PySem.W.Frag} {mg : Str → Option Value} {base : Heap} {f : Nat → Addr} {d : Nat → FuncData}
def spNumbers : Sp := fun vs H Q _ => ∃ (a c : Addr) (n m : Nat), vs = [.ref a, .int (m : Nat)] ∧ Stock H a c n ∧ n ≤ 900000 ∧ m ≤ 12 ∧
  ∀ H' (l : Addr) (xs : List Int), Stock H' a c (n + 100) → Keep a c H H' → H l = none → H' l = some (.lst (xs.map V.int)) → xs.length = m → Nums xs → Q (.ref l) H'
theorem ok_numbers {k : Nat} (D : Defs K mg f d) : FnOk P w K mg base CX0 (k + 2) (f i__law_numbers) (d i__law_numbers) ["_law_stock_here", "_law_many"] spNumbers := by
  have G__law_pick : FnOk P w K mg base CX0 (k + 1) (f i__law_pick) (d i__law_pick) ["_law_stock_here", "_law_limit"] spPick := ok_pick D.F__law_pick D.z_int
  refine D.F__law_numbers.ok sc__law_numbers (fun vs H Q E h => ?_) (fun cdv A outer s H vs Q E hr h => ?_)
  · obtain ⟨a, c, n, m, rfl, _⟩ := h
    rfl
  · obtain ⟨a, c, n, m, rfl, S, hn, hm, q⟩ := h
    have nd := sc__law_numbers.nd
    refine ⟨_, pss_cons (ps_set (i := 2) nd rfl (.inl rfl) (pe_lst pa_nil))
      (pss_cons (ps_for PassesOwn.never rfl (pi_range1 (by rfl) D.z_range (pa_cons (pv 1) pa_nil)) (pg_name (i := 3) nd rfl (.inl rfl))
        (pss_cons (ps_set (i := 4) nd rfl (.inl rfl) (pe_ix ix_list (pe_lst (pa_cons pe_int (pa_cons (pe_op op_add pe_int (pe_call G__law_pick hr (by rfl) D.g__law_pick D.F__law_pick.kp D.b__law_pick .nil pass0 (pa_cons (pv 0) (pa_cons pe_int pa_nil)))) (pa_cons (pe_op op_add pe_int (pe_call G__law_pick hr (by rfl) D.g__law_pick D.F__law_pick.kp D.b__law_pick .nil pass0 (pa_cons (pv 0) (pa_cons (pe_op op_sub (pe_op op_powX pe_int pe_int) pe_int) pa_nil)))) (pa_cons (pe_op op_powX pe_int pe_int) pa_nil))))) (pe_call G__law_pick hr (by rfl) D.g__law_pick D.F__law_pick.kp D.b__law_pick .nil pass0 (pa_cons (pv 0) (pa_cons pe_int pa_nil))) (fun _ _ => rfl)))
          (pss_one (ps_expr (pe_bm PySem.F.plainAttrs_list PySem.F.slot_list_append PySem.F.type_list_append mt_append (pv 2) (pa_cons (pe_op op_mulX (pv 4) (pe_op op_sub pe_int (pe_op op_mulX pe_int (pe_call G__law_pick hr (by rfl) D.g__law_pick D.F__law_pick.kp D.b__law_pick .nil pass0 (pa_cons (pv 0) (pa_cons pe_int pa_nil)))))) pa_nil))))))
      (pss_one (ps_ret (pv 2)))), ?_⟩
    dsimp only [tSeq, tAsg, gName]
    refine ⟨Nat.zero_le _, fun l nl => ?_⟩
    have al := S.fresh nl
    refine ⟨.int (m : Nat), rfl, m, rfl, by omega, by omega, ?_⟩
    rw [Int.toNat_natCast]
    refine for_range (n := m) (fun i σ H' => ∃ (xs : List Int) (y3 y4 : Option V), σ = [some (.ref a), some (.int (m : Nat)), some (.ref l), y3, y4] ∧ Stock H' a c (n + 4 * i) ∧ Keep a c H H' ∧ H' l = some (.lst (xs.map V.int)) ∧ xs.length = i ∧ Nums xs)
      ⟨[], none, none, rfl, S.new nl, Keep.new nl, upd_same, rfl, (fun x h => by cases h)⟩ (fun i σ H' hi h => ?_) (fun σ H' h => ?_)
    · obtain ⟨xs, y3, y4, rfl, S1, k1, hl, hxl, hx⟩ := h
      refine ⟨.ref a, rfl, a, c, _, 9, rfl, S1, by omega, by decide, by decide, fun H2 r2 S2 k2 p20 p21 => ⟨_, _, rfl, rfl, ?_⟩⟩
      refine ⟨.ref a, rfl, _, _, rfl, rfl, powx (a := 4) (by decide) (by decide) (by decide) (by decide), _, _, rfl, rfl, ?_⟩
      dsimp only
      rw [ten30]
      refine ⟨a, c, _, _, rfl, S2, by omega, by decide, by decide, fun H3 r3 S3 k3 p30 p31 => ⟨_, _, rfl, rfl, _, _, rfl, rfl, powx (a := 4) (by decide) (by decide) (by decide) (by decide), ?_⟩⟩
      refine ⟨four_ok, fun p np => ?_⟩
      have k13 := (k1.trans k2).trans k3
      have hl3 := k3 l _ al.1 al.2 (k2 l _ al.1 al.2 hl)
      have S4 := S3.new (o := .lst [V.int 1, .int (2 + r2), .int (1 + r3), .int ((6 : Int) ^ (3 : Int).toNat)]) np
      have hp : upd H3 p (.lst [V.int 1, .int (2 + r2), .int (1 + r3), .int ((6 : Int) ^ (3 : Int).toNat)]) p = some (.lst [V.int 1, .int (2 + r2), .int (1 + r3), .int ((6 : Int) ^ (3 : Int).toNat)]) := upd_same
      have hl4 : upd H3 p (.lst [V.int 1, .int (2 + r2), .int (1 + r3), .int ((6 : Int) ^ (3 : Int).toNat)]) l = some (.lst (xs.map V.int)) := by rw [upd_ne (ne_of_none hl3 np)]; exact hl3
      have ap := S3.fresh np
      have k14 := k13.trans (Keep.new (o := .lst [V.int 1, .int (2 + r2), .int (1 + r3), .int ((6 : Int) ^ (3 : Int).toNat)]) np)
      generalize upd H3 p (.lst [V.int 1, .int (2 + r2), .int (1 + r3), .int ((6 : Int) ^ (3 : Int).toNat)]) = H4 at S4 hp hl4 k14
      refine ⟨.ref a, rfl, a, c, _, 4, rfl, S4, by omega, by decide, by decide, fun H5 r5 S5 k5 p50 p51 => ?_⟩
      obtain ⟨v, hv, hv4⟩ := pick4 (x := 1) (y := 2 + r2) (z := 1 + r3) (u := (6 : Int) ^ (3 : Int).toNat) p50 p51
      refine ⟨p, _, r5, .int v, rfl, rfl, sqlOf (k5 p _ ap.1 ap.2 hp), hv, ?_⟩
      have hl5 := k5 l _ al.1 al.2 hl4
      refine ⟨.ref l, rfl, .inl ⟨rfl, _, sqlOf hl5⟩, .int v, rfl, .ref a, rfl, a, c, _, 2, rfl, S5, by omega, by decide, by decide, fun H6 r6 S6 k6 p60 p61 => ?_⟩
      have hvb : v ≠ 0 ∧ v.natAbs < 2 ^ 105 := by
        rcases hv4 with rfl | rfl | rfl | rfl
        · exact ⟨by decide, by decide⟩
        · exact ⟨by omega, Nat.lt_of_le_of_lt (show (2 + r2).natAbs ≤ 11 by omega) (by decide)⟩
        · exact ⟨by omega, Nat.lt_of_le_of_lt (show (1 + r3).natAbs ≤ 1000000000000000000000000000000 by omega) (by decide)⟩
        · exact ⟨by decide, by decide⟩
      have hl6 := k6 l _ al.1 al.2 hl5
      have sg := sgn_pick p60 p61
      refine ⟨_, _, rfl, rfl, mulS (by decide) (by omega), _, _, rfl, rfl, _, _, rfl, rfl, mulx hvb.2 (show (1 - 2 * r6).natAbs < 2 ^ 5 by show _ < 32; omega) (by decide), l, _, _, rfl, rfl, hl6, by rw [List.length_map, sizeLine_eq]; omega, xs ++ [v * (1 - 2 * r6)], some (.int (0 + (i : Nat))), some (.int v), rfl, (S6.put al).more (by omega), ((k14.trans k5).trans k6).put nl, by rw [upd_same, List.map_append]; rfl, by rw [List.length_append, hxl]; rfl, hx.snoc ?_ ?_⟩
      · rcases sg with e | e <;> rw [e] <;> omega
      · have : (v * (1 - 2 * r6)).natAbs = v.natAbs := by rcases sg with e | e <;> rw [e] <;> omega
        rw [this]
        exact Nat.lt_trans hvb.2 (by decide)
    · obtain ⟨xs, y3, y4, rfl, S1, k1, hl, hxl, hx⟩ := h
      exact ⟨.ref l, rfl, q H' l xs (S1.more (by omega)) k1 nl hl hxl hx⟩
end
end NH
set_option Elab.async false
set_option linter.all false
set_option maxRecDepth 100000
set_option maxHeartbeats 1000000
namespace DT
open PySem PySem.Spec PyProof.Rows L2
/-- {t: v}, t a tuple of ints and texts -/
def tDispT (tk tv : TE) : TE := fun σ H Q => ∀ p, H p = none → tk σ (upd H p (.dT [])) fun x H1 => tv σ H1 fun y H2 => ∃ (b : Addr) (ks : List Key), x = .ref b ∧ H2 p = some (.dT []) ∧ H2 b = some (.tup (ks.map kV)) ∧ Q (.ref p) (upd H2 p (.dT [(ks, y)]))
def posT (p : Addr) (Q : VK) (ps : List (V × V)) (H2 : Hp) : Prop := match ps with
  | [(x, y)] => ∃ (b : Addr) (ks : List Key), x = .ref b ∧ H2 p = some (.dT []) ∧ H2 b = some (.tup (ks.map kV)) ∧ Q (.ref p) (upd H2 p (.dT [(ks, y)]))
  | _ => False
theorem pe_dispT {X : Cx} {k v : Expr} {tk tv : TE} {pos : Pos} (hu : X.A.units + 1 < cLine) (hk : PE X k tk) (hv : PE X v tv) : PE X (.Dict [some k] [v] pos) (tDispT tk tv) := by
  refine ⟨fun pins s σ H Q I q => ?_⟩
  have hn := I.hok.fresh (Nat.le_refl s.heap.objs.size)
  have I1 := I.laid (a := s.heap.objs.size) (o := .dT []) (h' := s.heap.push { cls := .type "dict", data := .dict #[] }) (t' := s.toks) (fun _ _ q => Heap.get?_push_of_some _ q) (Nat.le_refl _) (dt_empty s.heap I.big)
  have pr : PPs X pos [some k] [v] [(tk, tv)] := pps_cons hk hv pps_nil
  have hlen : (pairTrees [some k] [v] X.env pos).length = 1 := pairTrees_length _ _ _ _ rfl rfl
  rw [arm_eval_Dict, zip_pairTrees [some k] [v] X.env pos rfl rfl, dictDisplay_pairs _ (fun z => by rw [z] at hlen; cases hlen) (by rw [hlen]; decide)]
  refine wpAny_bind (wpAny_standAt (wpAny_bind ?_))
  unfold subDict
  refine wpAny_bind (wpAny_alloc ?_)
  refine wpAny_bind (wpAny_holding ?_)
  rw [if_pos (show (pairTrees [some k] [v] X.env pos).length ≤ 15 by rw [hlen]; decide)]
  refine wpAny_bind (thn (pr.run pins _ σ _ (posT s.heap.objs.size Q) I1 ?_) fun ws s2 hh => ?_)
  · exact q _ hn
  · obtain ⟨ps, H2, I2, rel, hps⟩ := hh
    obtain ⟨x, y, rfl⟩ : ∃ x y, ps = [(x, y)] := by
      match ps, hps with
      | [(x, y)], _ => exact ⟨x, y, rfl⟩
    obtain ⟨b, ks, rfl, hp, hb, q2⟩ := hps
    cases rel with
    | @cons _ w0 _ ws' h t =>
      cases t
      obtain ⟨u1, u2⟩ := w0
      obtain ⟨r1, r2⟩ := h
      obtain rfl : u1 = Value.ref b := r1
      refine wpAny_holding ?_
      refine wpAny_bind ?_
      rw [List.forIn_cons]
      obtain ⟨z, hd, xs, r0, dd⟩ := dt_of I2.hok hp
      cases r0
      refine wpAny_bind (wpAny_bind (wpAny_dictSet_heap (hsz := Nat.zero_le _) (show (tupleKind (mixKind X.prog X.w)).room X.A from Nat.lt_of_succ_lt hu) (key_of I2.hok hb) dd fun h' dd' hs => wpAny_pure ?_))
      show wpAny _ _ (forIn [] PUnit.unit _) _ _ _
      rw [List.forIn_nil]
      refine wpAny_pure (wpAny_pure (wpAny_pure (wpAny_pure ?_)))
      obtain ⟨qo, es, ep, hq, h2, h3, h4, _, h5⟩ := dd'
      refine ⟨.ref s.heap.objs.size, _, d_write I2 (by rw [hp]; exact True.intro) hs ⟨qo, hq⟩ (ob := .dT [(ks, y)]) ⟨by show 1 ≤ sizeLine; rw [sizeLine_eq]; decide, hd, [(ks, b, u2)], ?_, qo, es, ep, hq, h2, h3, h4, h5⟩, rfl, q2⟩
      refine .cons ⟨rfl, ?_, r2⟩ .nil
      show upd H2 s.heap.objs.size (.dT [(ks, y)]) b = some (.tup (ks.map kV))
      rw [upd_ne (ne_of hb hp (fun z => nomatch z))]
      exact hb
end DT
set_option Elab.async false
set_option linter.all false
set_option maxRecDepth 100000
set_option maxHeartbeats 1000000
set_option exponentiation.threshold 100000
namespace NH
open PySem PySem.Spec PyProof.Rows L2 R1 ZN PK RS
abbrev idk : List Int → List Int := fun k => k
theorem tot_val (j : List Int) : ∀ {D : Ts}, NodupK D → tot idk j D = val D j
  | [], _ => rfl
  | q :: D, h => by
    have h' := List.nodup_cons.mp h
    rw [tot, tot_val j h'.2]
    unfold val
    by_cases e : q.1 = j
    · rw [if_pos e.symm]
      have n : getO D j = none := by
        cases z : getO D j with
        | none => rfl
        | some v =>
          have := (getO_mem h'.2).mp z
          exact absurd (by show q.1 ∈ _; rw [e]; exact List.mem_map_of_mem (f := (·.1)) this) h'.1
      rw [n]
      simp [getO, List.find?_cons, e]
    · rw [if_neg (fun z => e z.symm)]
      simp [getO, List.find?_cons, e]
/-- the sum of two dicts of terms -/
def addT (D1 D2 : Ts) : Ts := gather idk (gather idk [] D1) D2
theorem addT_nodup (D1 D2 : Ts) : NodupK (addT D1 D2) := gather_nodup _ _ _ (gather_nodup _ _ _ List.nodup_nil)
theorem addT_val {D1 D2 : Ts} (h1 : NodupK D1) (h2 : NodupK D2) (j : List Int) : val (addT D1 D2) j = val D1 j + val D2 j := by
  unfold addT
  rw [val_gather, val_gather, tot_val j h1, tot_val j h2]
  show 0 + _ + _ = _
  omega
theorem val_mem2 {D : Ts} (h : NodupK D) {q : List Int × Int} (hq : q ∈ D) : val D q.1 = q.2 := by
  unfold val
  rw [show getO D q.1 = some q.2 from (getO_mem h).mpr hq]
  rfl
theorem val_small {D : Ts} (h : NodupK D) {B : Nat} (hb : ∀ q ∈ D, q.2.natAbs ≤ B) (j : List Int) : (val D j).natAbs ≤ B := by
  unfold val
  cases z : getO D j with
  | none => exact Nat.zero_le _
  | some v => exact hb _ ((getO_mem h).mp z)
theorem gather_from {z : List Int → List Int} {P : List Int → Prop} : ∀ {W A : Ts}, (∀ q ∈ A, P q.1) → (∀ q ∈ W, P (z q.1)) → ∀ q ∈ gather z A W, P q.1
  | [], _, h, _ => h
  | p :: W, A, h, h2 => gather_from (W := W) (A := addD A (z p.1) p.2) (fun q hq => by
      rcases setD_mem hq with ⟨hq, _⟩ | rfl
      · exact h q hq
      · exact h2 p List.mem_cons_self) fun q hq => h2 q (List.mem_cons_of_mem _ hq)
section
variable {P : Program} {w : World} {K : PySem.W.Frag} {mg : Str → Option Value} {base : Heap} {f : Nat → Addr} {d : Nat → FuncData}
def spPlus : Sp := fun vs H Q _ => ∃ (d1 d2 : Addr) (m : Nat) (D1 D2 : Ts), vs = [.ref d1, .ref d2] ∧ DictAt H d1 m D1 ∧ DictAt H d2 m D2 ∧ D1.length + D2.length ≤ 1000 ∧
  ∀ H' (e : Addr), Same H H' → H e = none → DictAt H' e m (addT D1 D2) → Q (.ref e) H'
theorem ok_plus {k : Nat} (D : Defs K mg f d) : FnOk P w K mg base CX0 (k + 1) (f i__law_plus) (d i__law_plus) ["_law_one", "_law_other"] spPlus := by
  refine D.F__law_plus.ok sc__law_plus (fun vs H Q E h => ?_) (fun cdv A outer s H vs Q E hr h => ?_)
  · obtain ⟨d1, d2, m, D1, D2, rfl, _⟩ := h
    rfl
  · obtain ⟨d1, d2, m, D1, D2, rfl, h1, h2, hl, q⟩ := h
    have nd := sc__law_plus.nd
    have hu := hu_of hr
    refine ⟨_, pss_cons (ps_set (i := 2) nd rfl (.inl rfl) (pe_dnewT))
      (pss_cons (ps_for PassesOwn.never rfl (pi_list (pe_lst (pa_cons (pv 0) (pa_cons (pv 1) pa_nil)))) (pg_name (i := 3) nd rfl (.inl rfl))
        (pss_one (ps_lock (ps_for PassesOwn.never rfl (pi_keys (pv 3)) (pg_name (i := 4) nd rfl (.inl rfl))
            (pss_one (ps_dput hu (pv 2) (pv 4) (pe_op op_add (pe_dget2 hu (pv 2) (pv 4) pe_int ⟨rfl, rfl, rfl, rfl⟩) (pe_dget hu (pv 3) (pv 4) (fun _ _ => rfl))) rfl))))))
      (pss_one (ps_ret (pv 2)))), ?_⟩
    refine fun e ne => ?_
    have se := same_new (o := .dT []) ne
    have he : upd H e (.dT []) e = some (.dT []) := upd_same
    generalize upd H e (.dT []) = H1 at se he
    refine ⟨.ref d1, rfl, .ref d2, rfl, two_ok, fun l nl => ?_⟩
    have sl := same_new (o := .lst [V.ref d1, .ref d2]) nl
    have hll : upd H1 l (.lst [V.ref d1, .ref d2]) l = some (.lst [V.ref d1, .ref d2]) := upd_same
    have he2 := sl _ _ he
    have s02 := se.trans sl
    generalize upd H1 l (.lst [V.ref d1, .ref d2]) = H2 at sl hll he2 s02
    have le : l ≠ e := fun z => by rw [z, he2] at hll; cases hll
    refine ⟨l, rfl, ⟨_, sqlOf hll⟩, for_list (xs := [V.ref d1, .ref d2]) (fun i σ H' => ∃ (y3 y4 : Option V) (R : Ts), σ = [some (.ref d1), some (.ref d2), some (.ref e), y3, y4] ∧ H' e = some (dZ R) ∧ NodupK R ∧ (∀ q ∈ R, q.1.length = m) ∧ But e H2 H' ∧ R = (if i = 0 then [] else if i = 1 then gather idk [] D1 else addT D1 D2))
      ⟨none, none, [], rfl, he2, List.nodup_nil, (fun q h => by cases h), (fun _ _ _ x => x), rfl⟩ (fun i σ H' _ h => ?_) (fun i x σ H' hx' h => ?_) (fun σ H' h => ?_)⟩
    · obtain ⟨_, _, _, _, _, _, _, kp, _⟩ := h
      exact sqlOf (kp _ _ le hll)
    · obtain ⟨y3, y4, R, rfl, hR, hRn, hRk, kp, eR⟩ := h
      obtain ⟨dd, DD, rfl, hDD, hRl, eR2⟩ : ∃ (dd : Addr) (DD : Ts), x = .ref dd ∧ DictAt H dd m DD ∧ R.length + DD.length ≤ 1000 ∧ gather idk R DD = (if i + 1 = 0 then [] else if i + 1 = 1 then gather idk [] D1 else addT D1 D2) := by
        match i, hx', eR with
        | 0, hx', eR =>
          cases hx'
          refine ⟨d1, D1, rfl, h1, ?_, by rw [eR]; rfl⟩
          rw [eR]
          show ([] : Ts).length + _ ≤ _
          rw [List.length_nil]
          omega
        | 1, hx', eR =>
          cases hx'
          refine ⟨d2, D2, rfl, h2, ?_, by rw [eR]; rfl⟩
          rw [eR]
          show (gather idk [] D1).length + _ ≤ _
          have := gather_len idk D1 []
          rw [List.length_nil] at this
          omega
        | i + 2, hx', eR => simp at hx'
      have de : dd ≠ e := ne_of_none hDD.at_ ne
      have hD' : H' dd = some (dZ DD) := kp _ _ de (s02 _ _ hDD.at_)
      refine ⟨dd, _, hD', trivial, fun od => ?_⟩
      have hF : upd H' dd (.frz od (dZ DD)) dd = some (.frz od (dZ DD)) := upd_same
      have hRF : upd H' dd (.frz od (dZ DD)) e = some (dZ R) := by rw [upd_ne de.symm]; exact hR
      refine ⟨.ref dd, rfl, dd, od, rfl, .inr ⟨_, hF, for_it (walk_keysT (d := dd) (o := od) (kvs := DD.map enc)) (fun j σ H'' => ∃ (y4 : Option V), σ = [some (.ref d1), some (.ref d2), some (.ref e), some (.ref dd), y4] ∧ H'' e = some (dZ (gather idk R (DD.take j))) ∧ But e (upd H' dd (.frz od (dZ DD))) H'')
        ⟨y4, rfl, hRF, fun _ _ _ x => x⟩ (fun j σ H'' _ h => ?_) (fun j x σ H0 H'' hj h hy => ?_) (fun σ H'' h => ?_)⟩⟩
      · obtain ⟨_, _, _, kp2⟩ := h
        exact kp2 _ _ de hF
      · obtain ⟨y4, rfl, hG, kp2⟩ := h
        obtain ⟨rfl, kk, v, qa, e1, rfl, hqa⟩ := hy
        obtain ⟨r, hr1, er⟩ := Option.map_eq_some_iff.mp (by rw [List.getElem?_map] at e1; exact e1)
        cases er
        have hrm := List.mem_of_getElem? hr1
        rw [map_kV] at hqa
        have g1 : DGet H'' dd (.ref qa) (some (.int r.2)) := by
          have := DictAt.get (m := m) (D := DD) (k := r.1) (.inr ⟨od, kp2 _ _ de hF⟩) hqa
          rwa [show getO DD r.1 = some r.2 from (getO_mem hDD.nodup).mpr hrm] at this
        have hGl := gather_len idk (DD.take j) R
        rw [List.length_take] at hGl
        have hsn : gather idk R (DD.take (j + 1)) = addD (gather idk R (DD.take j)) r.1 r.2 := by
          rw [List.take_add_one, hr1]
          exact gather_snoc idk r (DD.take j) R
        rw [hsn]
        generalize gather idk R (DD.take j) = G at hG hGl
        refine ⟨.ref e, rfl, e, rfl, .inr ⟨_, .inl hG⟩, .ref qa, rfl, (getO G r.1).map V.int, DictAt.get (m := m) (.inl hG) hqa, ?_⟩
        rw [show ((getO G r.1).map V.int).getD (.int 0) = V.int (val G r.1) by unfold val; cases getO G r.1 <;> rfl]
        refine ⟨.ref dd, rfl, .ref qa, rfl, dd, .int r.2, rfl, g1, _, _, rfl, rfl, .ref e, rfl, .ref qa, rfl, e, _, rfl, DPut.t (k := r.1.map Sum.inl) hG (by rw [map_kV]; exact hqa) ?_, some (.ref qa), rfl, ?_, kp2.step (Same.refl _)⟩
        · rw [List.length_map, sizeLine_eq]
          omega
        · rw [upd_same, NH.putK_enc]
          rfl
      · obtain ⟨y4, rfl, hG, kp2⟩ := h
        rw [List.length_map, List.take_length] at hG
        refine ⟨kp2 _ _ de hF, some (.ref dd), y4, gather idk R DD, rfl, by rw [upd_ne de.symm]; exact hG, gather_nodup _ _ _ hRn, gather_keys _ _ hRk fun q hq => hDD.len q hq, fun c o hc ec => ?_, eR2⟩
        by_cases z : c = dd
        · rw [z] at ec ⊢
          rw [upd_same]
          have := kp _ _ de (s02 _ _ hDD.at_)
          have h3 := kp _ _ (by rw [← z]; exact hc) ec
          rw [this] at h3
          exact h3
        · rw [upd_ne z]
          exact kp2 c o hc (by rw [upd_ne z]; exact kp c o hc ec)
    · obtain ⟨y3, y4, R, rfl, hR, hRn, hRk, kp, eR⟩ := h
      have eR : R = addT D1 D2 := eR
      subst eR
      exact ⟨.ref e, rfl, q _ e (fun c o ec => kp c o (ne_of_none ec ne) (s02 c o ec)) ne ⟨hR, hRn, hRk⟩⟩
end
end NH
set_option Elab.async false
set_option linter.all false
set_option maxRecDepth 100000
set_option maxHeartbeats 1000000
set_option exponentiation.threshold 100000
namespace NH
open PySem PySem.Spec PyProof.Rows L2 R1 ZN PK RS
theorem low_small {T B a b : Int} (h : GM.IsLow T B a b) (hB : B ≠ 0) : b.natAbs ≤ B.natAbs ∧ a.natAbs ≤ T.natAbs := by
  have hb := h.pos
  have e : T.natAbs * b.natAbs = a.natAbs * B.natAbs := by rw [← Int.natAbs_mul, ← Int.natAbs_mul, h.eq]
  constructor
  · have : b.natAbs ∣ a.natAbs * B.natAbs := by rw [← e]; exact Nat.dvd_mul_left _ _
    exact Nat.le_of_dvd (by omega) ((Nat.Coprime.symm h.cop).dvd_of_dvd_mul_left this)
  · have : a.natAbs ∣ T.natAbs * b.natAbs := by rw [e]; exact Nat.dvd_mul_right _ _
    have hd : a.natAbs ∣ T.natAbs := Nat.Coprime.dvd_of_dvd_mul_right h.cop this
    by_cases z : T.natAbs = 0
    · rw [z, Nat.zero_mul] at e
      have : a.natAbs = 0 := by
        rcases Nat.mul_eq_zero.mp e.symm with h1 | h1
        · exact h1
        · omega
      omega
    · exact Nat.le_of_dvd (by omega) hd
theorem setD_new {D : Ts} {k : List Int} {v : Int} (h : k ∉ D.map (·.1)) : setD D k v = D ++ [(k, v)] := by
  unfold setD
  rw [if_neg]
  intro z
  obtain ⟨q, hq, e⟩ := List.any_eq_true.mp z
  exact h (List.mem_map.mpr ⟨q, hq, of_decide_eq_true e⟩)
theorem nodupK_at {D : Ts} (h : NodupK D) {i : Nat} {q : List Int × Int} (e : D[i]? = some q) : q.1 ∉ (D.take i).map (·.1) := by
  intro z
  have hi : i < D.length := (List.getElem?_eq_some_iff.mp e).1
  have e2 : D = D.take i ++ q :: D.drop (i + 1) := by
    rw [← List.take_append_drop i D]
    congr 1
    · rw [List.take_append_drop]
    · rw [List.take_append_drop, List.drop_eq_getElem_cons hi, (List.getElem?_eq_some_iff.mp e).2]
  unfold NodupK at h
  rw [e2, List.map_append, List.map_cons] at h
  exact (List.nodup_append.mp h).2.2 _ z _ List.mem_cons_self rfl
theorem bal_bits {xs : List Int} {m : Nat} {D : Ts} {a b : Int} (hm : m ≤ 5) (hxl : xs.length = m) (hx : ∀ x ∈ xs, x ≠ 0 ∧ x.natAbs ≤ 12) (hD : ∀ q ∈ D, q.1.length = m) (hb : Bn 9 1 D) (hl : D.length ≤ 5) (lo : GM.IsLow (GM.tval xs m (D.map (more (tw m)))) (GM.mono xs m (tw m)) a b) : b.natAbs ≤ 2 ^ 240 ∧ a.natAbs ≤ 2 ^ 270 := by
  have hx4 : ∀ x ∈ xs, x.natAbs ≤ 2 ^ 4 := fun x h => Nat.le_trans (hx x h).2 (by decide)
  have hne : GM.mono xs m (tw m) ≠ 0 := GM.mono_ne fun j hj => by
    rw [List.getD_eq_getElem?_getD, List.getElem?_eq_getElem (by omega)]
    exact (hx _ (List.getElem_mem _)).1
  obtain ⟨h1, h2⟩ := low_small lo hne
  constructor
  · refine Nat.le_trans h1 (Nat.le_trans (GM.mono_bits (E := 4) (W := 12) hx4 fun j hj => by rw [tw_at hj]; decide) (Nat.pow_le_pow_right (by decide) (by omega)))
  · refine Nat.le_trans h2 (Nat.le_trans (GM.tval_bits (B := 9 * 2 ^ 260) fun q hq => ?_) ?_)
    · obtain ⟨r, hr, rfl⟩ := List.mem_map.mp hq
      obtain ⟨h3, h4⟩ := hb.b r hr
      rw [Int.natAbs_mul]
      refine Nat.mul_le_mul h3 (Nat.le_trans (GM.mono_bits (E := 4) (W := 13) hx4 fun j hj => ?_) (Nat.pow_le_pow_right (by decide) (by omega)))
      have e : (more (tw m) r).1.getD j 0 = r.1.getD j 0 + 12 := by
        have hj2 : j < r.1.length := by rw [hD r hr]; exact hj
        unfold more tw
        rw [List.getD_eq_getElem?_getD, List.getElem?_zipWith, List.getElem?_eq_getElem hj2, List.getElem?_replicate, if_pos hj, List.getD_eq_getElem?_getD, List.getElem?_eq_getElem hj2]
        simp
      rw [e]
      have : r.1.getD j 0 ≤ 1 := by
        have hj2 : j < r.1.length := by rw [hD r hr]; exact hj
        rw [List.getD_eq_getElem?_getD, List.getElem?_eq_getElem hj2]
        exact (h4 _ (List.getElem_mem _)).2
      omega
    · rw [List.length_map]
      refine Nat.le_trans (Nat.mul_le_mul_right _ hl) (by decide +kernel)
theorem flat_zero (m : Nat) : (List.replicate (m : Int).toNat [V.int 0]).flatten = ((List.replicate m (0 : Int)).map V.int) := by
  rw [show (m : Int).toNat = m by omega]
  induction m with
  | zero => rfl
  | succ m ih => rw [List.replicate_succ, List.flatten_cons, ih, List.replicate_succ, List.map_cons]; rfl
def byB (b : Int) (q : List Int × Int) : List Int × Int := (q.1, q.2 * b)
theorem byB_keys (b : Int) (D : Ts) : (D.map (byB b)).map (·.1) = D.map (·.1) := by
  rw [List.map_map]
  rfl
theorem bal_add {D1 : Ts} {m : Nat} {a b u : Int} (hb : Bn 9 1 D1) (n1 : NodupK D1) (bb : b.natAbs ≤ 2 ^ 240) (ab : a.natAbs ≤ 2 ^ 270) (u0 : 0 ≤ u) (u3 : u < 3) : Bnds (addT (D1.map (byB b)) [(List.replicate m (0 : Int), u - a)]) := by
  have nB : NodupK (D1.map (byB b)) := by
    unfold NodupK
    rw [byB_keys]
    exact n1
  have nu : NodupK [(List.replicate m (0 : Int), u - a)] := List.nodup_cons.mpr ⟨by simp, List.nodup_nil⟩
  refine ⟨fun q hq => ⟨?_, ?_⟩⟩
  · rw [← val_mem2 (addT_nodup _ _) hq, addT_val nB nu]
    have h1 := val_small nB (B := 9 * 2 ^ 240) (fun q hq => by
      obtain ⟨t, ht, rfl⟩ := List.mem_map.mp hq
      unfold byB
      rw [Int.natAbs_mul]
      exact Nat.mul_le_mul (hb.b t ht).1 bb) q.1
    have h2 := val_small nu (B := 2 ^ 270 + 2) (fun q hq => by
      cases List.mem_singleton.mp hq
      show (u - a).natAbs ≤ _
      generalize (2 : Nat) ^ 270 = N at ab ⊢
      omega) q.1
    have h3 : (9 * 2 ^ 240 : Nat) + (2 ^ 270 + 2) < 2 ^ 300 := by decide +kernel
    have h4 := Int.natAbs_add_le (val (D1.map (byB b)) q.1) (val [(List.replicate m (0 : Int), u - a)] q.1)
    exact Nat.lt_of_le_of_lt (Nat.le_trans h4 (Nat.add_le_add h1 h2)) h3
  · refine gather_from (z := idk) (P := fun k => ∀ v ∈ k, -12 ≤ v ∧ v ≤ 12) (gather_from (z := idk) (A := []) (P := fun k => ∀ v ∈ k, -12 ≤ v ∧ v ≤ 12) (fun q h => nomatch h) fun q hq => ?_) (fun q hq => ?_) q hq
    · obtain ⟨t, ht, rfl⟩ := List.mem_map.mp hq
      exact fun v hv => by have := (hb.b t ht).2 v hv; omega
    · cases List.mem_singleton.mp hq
      exact fun v hv => by
        have := (List.mem_replicate.mp hv).2
        omega
section
variable {P : Program} {w : World} {K : PySem.W.Frag} {mg : Str → Option Value} {base : Heap} {f : Nat → Addr} {d : Nat → FuncData}
def spBal : Sp := fun vs H Q _ => ∃ (a c : Addr) (n m : Nat) (u : Int), vs = [.ref a, .int (m : Nat), .int u] ∧ Stock H a c n ∧ n ≤ 800000 ∧ 1 ≤ m ∧ m ≤ 5 ∧ 0 ≤ u ∧ u < 3 ∧
  ∀ H' (z e l : Addr) (D : Ts) (xs : List Int), Stock H' a c (n + 400) → Keep a c H H' → H e = none → H l = none → DictAt H' e m D → Bnds D → D.length ≤ 10 → H' l = some (.lst (xs.map V.int)) → xs.length = m → Nums xs → H' z = some (.tup [.ref e, .ref l]) → Q (.ref z) H'
theorem ok_bal {k : Nat} (D : Defs K mg f d) : FnOk P w K mg base CX0 (k + 4) (f i__law_balanced) (d i__law_balanced) ["_law_stock_here", "_law_many", "_law_more"] spBal := by
  have G__law_pick : FnOk P w K mg base CX0 (k + 3) (f i__law_pick) (d i__law_pick) ["_law_stock_here", "_law_limit"] spPick := (ok_pick (k := k) D.F__law_pick D.z_int).mono (by omega)
  have G__law_terms : FnOk P w K mg base CX0 (k + 3) (f i__law_terms) (d i__law_terms) ["_law_stock_here", "_law_many", "_law_most", "_law_span", "_law_great"] spTerms := ok_terms D.F__law_terms D.F__law_pick D.b__law_pick D.g__law_pick D.F__law_wide D.b__law_wide D.g__law_wide D.z_int D.z_range D.z_tuple
  have G__law_worth : FnOk P w K mg base CX0 (k + 3) (f i__law_worth) (d i__law_worth) ["_law_terms_here", "_law_numbers_here"] spWorth := ok_worth D
  have G__law_plus : FnOk P w K mg base CX0 (k + 3) (f i__law_plus) (d i__law_plus) ["_law_one", "_law_other"] spPlus := (ok_plus (k := k) D).mono (by omega)
  refine D.F__law_balanced.ok sc__law_balanced (fun vs H Q E h => ?_) (fun cdv A outer s H vs Q E hr h => ?_)
  · obtain ⟨a, c, n, m, u, rfl, _⟩ := h
    rfl
  · obtain ⟨a, c, n, m, u, rfl, S, hn, hm1, hm5, hu0, hu3, q⟩ := h
    have nd := sc__law_balanced.nd
    have hu := hu_of hr
    refine ⟨_, pss_cons (ps_set (i := 3) nd rfl (.inl rfl) (pe_call G__law_terms hr (by rfl) D.g__law_terms D.F__law_terms.kp D.b__law_terms .nil pass0 (pa_cons (pv 0) (pa_cons (pv 1) (pa_cons pe_int (pa_cons pe_int (pa_cons pe_int pa_nil)))))))
      (pss_cons (ps_setLc (i := 4) (own := [("_law_j", 9)]) (g := gName 9) (by rfl) nd rfl rfl (sw_true rfl rfl rfl (by decide +kernel)) (pi_range1 (by rfl) D.z_range (pa_cons (pv 1) pa_nil)) (blkOk_by (own := [("_law_j", 9)]) (N := N__law_balanced) (sc := defScope s__law_balanced) (by decide +kernel))
          (fun _ _ _ _ _ => pg_name (i := 9) nd rfl (.inl rfl)) (fun _ _ _ _ _ => pts_nil) (fun _ _ _ _ _ => pe_op op_mulX (pe_op op_add pe_int (pe_call G__law_pick hr (by rfl) D.g__law_pick D.F__law_pick.kp D.b__law_pick .nil pass0 (pa_cons (pv 0) (pa_cons pe_int pa_nil)))) (pe_op op_sub pe_int (pe_op op_mulX pe_int (pe_call G__law_pick hr (by rfl) D.g__law_pick D.F__law_pick.kp D.b__law_pick .nil pass0 (pa_cons (pv 0) (pa_cons pe_int pa_nil)))))))
      (pss_cons (ps_asg (pe_call G__law_worth hr (by rfl) D.g__law_worth D.F__law_worth.kp D.b__law_worth .nil pass0 (pa_cons (pv 3) (pa_cons (pv 4) pa_nil))) (pg_tup rfl (pgs_cons (pg_name (i := 5) nd rfl (.inl rfl)) (pgs_cons (pg_name (i := 6) nd rfl (.inl rfl)) pgs_nil))))
      (pss_cons (ps_set (i := 7) nd rfl (.inl rfl) (pe_dnewT))
      (pss_cons (ps_lock (ps_for PassesOwn.never rfl (pi_keys (pv 3)) (pg_name (i := 8) nd rfl (.inl rfl))
        (pss_one (ps_dput hu (pv 7) (pv 8) (pe_op op_mulX (pe_dget hu (pv 3) (pv 8) (fun _ _ => rfl)) (pv 6)) rfl))))
      (pss_one (ps_ret (pe_tup (pa_cons (pe_call G__law_plus hr (by rfl) D.g__law_plus D.F__law_plus.kp D.b__law_plus .nil pass0 (pa_cons (pv 7) (pa_cons (DT.pe_dispT hu (pe_callTy call_tuple_of (by rfl) D.z_tuple (by decide +kernel) (pa_cons (pe_op op_rep (pe_lst (pa_cons pe_int pa_nil)) (pv 1)) pa_nil)) (pe_op op_sub (pv 2) (pv 5))) pa_nil))) (pa_cons (pv 4) pa_nil))))))))), ?_⟩
    refine ⟨.ref a, rfl, .int (m : Nat), rfl, a, c, n, m, 5, 1, 9, rfl, S, by omega, hm1, by omega, by decide, by decide, by decide, by decide, by decide, fun H1 d1 D1 S1 k1 nd1 hD1 hb1 hl1 => ?_⟩
    dsimp only [tSeq, tAsg, gName]
    refine ⟨.int (m : Nat), rfl, m, rfl, by omega, by omega, fun l nl => ?_⟩
    have ad1 : d1 ≠ a ∧ d1 ≠ c := S.fresh nd1
    have al : l ≠ a ∧ l ≠ c := S1.fresh nl
    have nl0 : H l = none := k1.free al nl
    have d1l : d1 ≠ l := ne_of_none hD1.at_ nl
    refine lc_range (lo := 0) (n := m) (fun j H' => ∃ xs : List Int, xs.length = j ∧ (∀ x ∈ xs, x ≠ 0 ∧ x.natAbs ≤ 12) ∧ H' l = some (.lst (xs.map V.int)) ∧ Stock H' a c (n + 201 + 2 * j) ∧ Keep a c H H' ∧ H' d1 = some (dZ D1))
      ⟨[], rfl, (fun x h => by cases h), upd_same, S1.new nl, k1.trans (Keep.new nl), by rw [upd_ne d1l]; exact hD1.at_⟩ (fun j H2 hj h => ?_) (fun H2 h => ?_)
    · obtain ⟨xs, hxl, hx, hl, S2, k2, hd⟩ := h
      refine ⟨rfl, .ref a, rfl, a, c, _, 12, rfl, S2, by omega, by decide, by decide, fun H3 r3 S3 k3 p30 p31 => ?_⟩
      refine ⟨_, _, rfl, rfl, .ref a, rfl, a, c, _, 2, rfl, S3, by omega, by decide, by decide, fun H4 r4 S4 k4 p40 p41 => ?_⟩
      have hl4 := k4 l _ al.1 al.2 (k3 l _ al.1 al.2 hl)
      have hd4 := k4 d1 _ ad1.1 ad1.2 (k3 d1 _ ad1.1 ad1.2 hd)
      have sg := sgn_pick p40 p41
      refine ⟨_, _, rfl, rfl, mulS (by decide) (by omega), _, _, rfl, rfl, _, _, rfl, rfl, mulS (by omega) (by omega), _, hl4, by rw [List.length_map, sizeLine_eq]; omega, xs ++ [(1 + r3) * (1 - 2 * r4)], by rw [List.length_append, hxl]; rfl, fun x hx' => ?_, by rw [upd_same, List.map_append]; rfl, (S4.put al).more (by omega), ((k2.trans k3).trans k4).put nl0, by rw [upd_ne d1l]; exact hd4⟩
      rcases List.mem_append.mp hx' with hx' | hx'
      · exact hx x hx'
      · cases List.mem_singleton.mp hx'
        rcases sg with e | e <;> rw [e] <;> omega
    · obtain ⟨xs, hxl, hx, hl, S2, k2, hd⟩ := h
      have hN : Nums xs := fun x h => ⟨(hx x h).1, Nat.lt_of_le_of_lt (hx x h).2 (by decide)⟩
      have hD2 : DictAt H2 d1 m D1 := ⟨hd, hD1.nodup, hD1.len⟩
      refine ⟨.ref d1, rfl, .ref l, rfl, d1, l, m, D1, xs, rfl, hD2, hb1.bnds (by decide) (by decide), by omega, by omega, hl, hxl, hN, fun H3 z a0 b0 s3 nz lo hz => ?_⟩
      refine ⟨z, _, rfl, sqtOf hz, rfl, _, _, rfl, _, _, rfl, rfl, ?_⟩
      obtain ⟨bb, ab⟩ := bal_bits hm5 hxl hx hD1.len hb1 hl1 lo
      have hd3 : DictAt H3 d1 m D1 := hD2.same s3
      have hl3 : H3 l = some (.lst (xs.map V.int)) := s3 _ _ hl
      dsimp only [tSeq, tAsg, gName]
      refine fun r nr => ?_
      have sr := same_new (o := .dT []) nr
      have hr0 : upd H3 r (.dT []) r = some (.dT []) := upd_same
      generalize hH4 : upd H3 r (.dT []) = H4 at sr hr0
      have hd4 : H4 d1 = some (dZ D1) := sr _ _ hd3.at_
      have dr : d1 ≠ r := ne_of_none hd3.at_ nr
      refine ⟨d1, _, hd4, trivial, fun od => ?_⟩
      have hF : upd H4 d1 (.frz od (dZ D1)) d1 = some (.frz od (dZ D1)) := upd_same
      have hRF : upd H4 d1 (.frz od (dZ D1)) r = some (.dT []) := by rw [upd_ne dr.symm]; exact hr0
      refine ⟨.ref d1, rfl, d1, od, rfl, .inr ⟨_, hF, for_it (walk_keysT (d := d1) (o := od) (kvs := D1.map enc)) (fun j σ H'' => ∃ (y8 : Option V), σ = [some (.ref a), some (.int (m : Nat)), some (.int u), some (.ref d1), some (.ref l), some (.int a0), some (.int b0), some (.ref r), y8, none] ∧ H'' r = some (dZ ((D1.take j).map (byB b0))) ∧ But r (upd H4 d1 (.frz od (dZ D1))) H'')
        ⟨none, rfl, hRF, fun _ _ _ x => x⟩ (fun j σ H'' _ h => ?_) (fun j x σ H0 H'' hj h hy => ?_) (fun σ H'' h => ?_)⟩⟩
      · obtain ⟨_, _, _, kp2⟩ := h
        exact kp2 _ _ dr hF
      · obtain ⟨y8, rfl, hG, kp2⟩ := h
        obtain ⟨rfl, kk, v, qa, e1, rfl, hqa⟩ := hy
        obtain ⟨t, ht1, et⟩ := Option.map_eq_some_iff.mp (by rw [List.getElem?_map] at e1; exact e1)
        cases et
        have htm := List.mem_of_getElem? ht1
        rw [map_kV] at hqa
        have g1 : DGet H'' d1 (.ref qa) (some (.int t.2)) := by
          have := DictAt.get (m := m) (D := D1) (k := t.1) (.inr ⟨od, kp2 _ _ dr hF⟩) hqa
          rwa [show getO D1 t.1 = some t.2 from (getO_mem hD1.nodup).mpr htm] at this
        have hsn : (D1.take (j + 1)).map (byB b0) = setD ((D1.take j).map (byB b0)) t.1 (t.2 * b0) := by
          rw [List.take_add_one, ht1, setD_new (by rw [byB_keys]; exact nodupK_at hD1.nodup ht1), List.map_append]
          rfl
        have hGl : ((D1.take j).map (byB b0)).length ≤ 5 := by
          rw [List.length_map, List.length_take]
          omega
        have mx : (t.2 * b0).natAbs < 2 ^ 3000 := by
          rw [Int.natAbs_mul]
          exact Nat.lt_of_le_of_lt (Nat.mul_le_mul (hb1.b t htm).1 bb) (by decide +kernel)
        rw [hsn]
        generalize (D1.take j).map (byB b0) = G at hG hGl
        refine ⟨.ref d1, rfl, .ref qa, rfl, d1, .int t.2, rfl, g1, .int b0, rfl, _, _, rfl, rfl, mulx (show _ < 2 ^ 10 from Nat.lt_of_le_of_lt (hb1.b t htm).1 (by decide +kernel)) (show _ < 2 ^ 300 from Nat.lt_of_le_of_lt bb (by decide +kernel)) (by decide), .ref r, rfl, .ref qa, rfl, r, _, rfl, DPut.t (k := t.1.map Sum.inl) hG (by rw [map_kV]; exact hqa) ?_, some (.ref qa), rfl, ?_, kp2.step (Same.refl _)⟩
        · rw [List.length_map, sizeLine_eq]
          omega
        · rw [upd_same]
          exact congrArg some (congrArg HO.dT (NH.putK_enc _ _ _))
      · obtain ⟨y8, rfl, hG, kp2⟩ := h
        refine ⟨kp2 _ _ dr hF, ?_⟩
        rw [List.length_map, List.take_length] at hG
        have hd5 : upd H'' d1 (dZ D1) d1 = some (dZ D1) := upd_same
        have hr5 : upd H'' d1 (dZ D1) r = some (dZ (D1.map (byB b0))) := by rw [upd_ne dr.symm]; exact hG
        have s45 : But r H4 (upd H'' d1 (dZ D1)) := fun c o hc ec => by
          by_cases z : c = d1
          · rw [z] at ec ⊢
            rw [upd_same]
            rw [hd4] at ec
            exact ec
          · rw [upd_ne z]
            exact kp2 c o hc (by rw [upd_ne z]; exact ec)
        generalize upd H'' d1 (dZ D1) = H5 at hd5 hr5 s45
        have s35 : Same H3 H5 := fun c o ec => s45 c o (ne_of_none ec nr) (sr _ _ ec)
        refine ⟨.ref r, rfl, fun p np => ?_⟩
        have rp : r ≠ p := ne_of_none hr5 np
        refine ⟨one1, fun l1 nl1 => ?_⟩
        have hl1 : upd (upd H5 p (.dT [])) l1 (.lst [V.int 0]) l1 = some (.lst [V.int 0]) := upd_same
        have sp5 := same_new (o := .dT []) np
        have hp6 : upd H5 p (.dT []) p = some (.dT []) := upd_same
        generalize upd H5 p (.dT []) = H6 at nl1 hl1 sp5 hp6
        have sl1 := same_new (o := .lst [V.int 0]) nl1
        generalize upd H6 l1 (.lst [V.int 0]) = H7 at hl1 sl1
        refine ⟨.int (m : Nat), rfl, l1, (m : Nat), [V.int 0], rfl, rfl, hl1, by omega, by omega, by rw [sizeLine_eq]; show 1 * (m : Int).toNat ≤ _; omega, fun l2 nl2 => ?_⟩
        rw [flat_zero]
        have hl2 : upd H7 l2 (.lst ((List.replicate m (0 : Int)).map V.int)) l2 = some (.lst ((List.replicate m (0 : Int)).map V.int)) := upd_same
        have s78 := same_new (o := .lst ((List.replicate m (0 : Int)).map V.int)) nl2
        generalize upd H7 l2 (.lst ((List.replicate m (0 : Int)).map V.int)) = H8 at hl2 s78
        refine ⟨l2, _, rfl, .inl ⟨sqlOf hl2, fun tp ntp => ?_⟩⟩
        have htp : upd H8 tp (.tup ((List.replicate m (0 : Int)).map V.int)) tp = some (.tup ((List.replicate m (0 : Int)).map V.int)) := upd_same
        have s89 := same_new (o := .tup ((List.replicate m (0 : Int)).map V.int)) ntp
        generalize upd H8 tp (.tup ((List.replicate m (0 : Int)).map V.int)) = H9 at htp s89
        have s69 : Same H6 H9 := (sl1.trans s78).trans s89
        have s59 : Same H5 H9 := sp5.trans s69
        have hp9 : H9 p = some (.dT []) := s69 _ _ hp6
        refine ⟨.int u, rfl, .int a0, rfl, _, _, rfl, rfl, tp, (List.replicate m (0 : Int)).map Sum.inl, rfl, hp9, by rw [map_kV]; exact htp, ?_⟩
        have hX : upd H9 p (.dT [((List.replicate m (0 : Int)).map Sum.inl, V.int (u - a0))]) p = some (dZ [(List.replicate m (0 : Int), u - a0)]) := upd_same
        have s5X : Same H5 (upd H9 p (.dT [((List.replicate m (0 : Int)).map Sum.inl, V.int (u - a0))])) := fun c o ec => by
          rw [upd_ne (ne_of_none ec np)]
          exact s59 _ _ ec
        generalize upd H9 p (.dT [((List.replicate m (0 : Int)).map Sum.inl, V.int (u - a0))]) = HX at hX s5X
        have nB : NodupK (D1.map (byB b0)) := by
          unfold NodupK
          rw [byB_keys]
          exact hD1.nodup
        have n1 : NodupK [(List.replicate m (0 : Int), u - a0)] := List.nodup_cons.mpr ⟨by simp, List.nodup_nil⟩
        refine ⟨r, p, m, D1.map (byB b0), [(List.replicate m (0 : Int), u - a0)], rfl, ⟨s5X _ _ hr5, nB, fun q hq => ?_⟩, ⟨hX, n1, fun q hq => ?_⟩, by rw [List.length_map]; simp; omega, fun HY e sY ne hAdd => ?_⟩
        · obtain ⟨t, ht, rfl⟩ := List.mem_map.mp hq
          exact hD1.len t ht
        · cases List.mem_singleton.mp hq
          exact List.length_replicate
        have s3Y : Same H3 HY := (s35.trans s5X).trans sY
        refine ⟨.ref l, rfl, two_ok, fun zz nz2 => ?_⟩
        have sz := same_new (o := .tup [V.ref e, .ref l]) nz2
        have hzz : upd HY zz (.tup [V.ref e, .ref l]) zz = some (.tup [V.ref e, .ref l]) := upd_same
        generalize upd HY zz (.tup [V.ref e, .ref l]) = HZ at sz hzz
        have s2Z : Same H2 HZ := (s3.trans s3Y).trans sz
        refine q _ zz e l _ xs ((S2.same s2Z).more (by omega)) (fun b o h1 h2 eb => s2Z _ _ (k2 b o h1 h2 eb)) ?_ nl0 (hAdd.same sz) (bal_add hb1 hD1.nodup bb ab hu0 hu3) ?_ (s2Z _ _ hl) hxl hN hzz
        · cases hH : H e with
          | none => rfl
          | some o =>
            have ea : e ≠ a ∧ e ≠ c := (((S2.same s3).same s35).same s5X).fresh ne
            have := s5X _ _ (s35 _ _ (s3 _ _ (k2 e o ea.1 ea.2 hH)))
            rw [ne] at this
            cases this
        · unfold addT
          have g1 := gather_len idk (D1.map (byB b0)) []
          have g2 := gather_len idk [(List.replicate m (0 : Int), u - a0)] (gather idk [] (D1.map (byB b0)))
          simp only [List.length_map, List.length_nil, List.length_singleton] at g1 g2
          omega
end
end NH
set_option Elab.async false
set_option linter.all false
set_option maxRecDepth 100000
set_option maxHeartbeats 1000000
set_option exponentiation.threshold 100000
namespace NH
open PySem PySem.Spec PyProof.Rows L2 R1 ZN PK RS
theorem fmod25 (i : Int) : 0 ≤ i.fmod 25 ∧ i.fmod 25 < 25 := ⟨Int.fmod_nonneg_of_pos i (by decide), Int.fmod_lt_of_pos i (by decide)⟩
/-- steps of a long sum -/
def Stp (H : Hp) (r : Addr) : Prop := ∃ a b c : Int, H r = some (.tup [.int a, .int b, .int c]) ∧ 1 ≤ a ∧ a ≤ 24 ∧ 1 ≤ b ∧ b ≤ 9 ∧ 0 ≤ c ∧ c ≤ 24
theorem Stp.keep {H H' : Hp} {r : Addr} (h : Stp H r) (k : KeepT H H') : Stp H' r := by
  obtain ⟨a, b, c, e, r⟩ := h
  exact ⟨a, b, c, k _ _ e, r⟩
section
variable {P : Program} {w : World} {K : PySem.W.Frag} {mg : Str → Option Value} {base : Heap} {f : Nat → Addr} {d : Nat → FuncData}
def spLong : Sp := fun vs H Q _ => ∃ (a c : Addr) (n m : Nat), vs = [.ref a, .int (m : Nat)] ∧ Stock H a c n ∧ n ≤ 800000 ∧ 1 ≤ m ∧ m ≤ 3 ∧
  ∀ H' (e : Addr) (D : Ts), Stock H' a c (n + 20) → Keep a c H H' → H e = none → DictAt H' e m D → Bnds D → D.length ≤ 300 → Q (.ref e) H'
theorem ok_long {k : Nat} (D : Defs K mg f d) : FnOk P w K mg base CX0 (k + 3) (f i__law_long) (d i__law_long) ["_law_stock_here", "_law_many"] spLong := by
  have G__law_pick : FnOk P w K mg base CX0 (k + 2) (f i__law_pick) (d i__law_pick) ["_law_stock_here", "_law_limit"] spPick := (ok_pick (k := k) D.F__law_pick D.z_int).mono (by omega)
  have G__law_wide : FnOk P w K mg base CX0 (k + 2) (f i__law_wide) (d i__law_wide) ["_law_stock_here", "_law_limit"] spWide := ok_wide D.F__law_wide D.F__law_pick D.b__law_pick D.g__law_pick D.z_int D.z_range
  refine D.F__law_long.ok sc__law_long (fun vs H Q E h => ?_) (fun cdv A outer s H vs Q E hr h => ?_)
  · obtain ⟨a, c, n, m, rfl, _⟩ := h
    rfl
  · obtain ⟨a, c, n, m, rfl, S, hn, hm1, hm3, q⟩ := h
    have nd := sc__law_long.nd
    have hu := hu_of hr
    refine ⟨_, pss_cons (ps_setLc (i := 2) (own := [("_law_j", 7)]) (g := gName 7) (by rfl) nd rfl rfl (sw_true rfl rfl rfl (by decide +kernel)) (pi_range1 (by rfl) D.z_range (pa_cons (pv 1) pa_nil)) (blkOk_by (own := [("_law_j", 7)]) (N := N__law_long) (sc := defScope s__law_long) (by decide +kernel))
          (fun _ _ _ _ _ => pg_name (i := 7) nd rfl (.inl rfl)) (fun _ _ _ _ _ => pts_nil) (fun _ _ _ _ _ => pe_tup (pa_cons (pe_op op_add pe_int (pe_call G__law_pick hr (by rfl) D.g__law_pick D.F__law_pick.kp D.b__law_pick .nil pass0 (pa_cons (pv 0) (pa_cons pe_int pa_nil)))) (pa_cons (pe_op op_add pe_int (pe_call G__law_pick hr (by rfl) D.g__law_pick D.F__law_pick.kp D.b__law_pick .nil pass0 (pa_cons (pv 0) (pa_cons pe_int pa_nil)))) (pa_cons (pe_call G__law_pick hr (by rfl) D.g__law_pick D.F__law_pick.kp D.b__law_pick .nil pass0 (pa_cons (pv 0) (pa_cons pe_int pa_nil))) pa_nil)))))
      (pss_cons (ps_par (i := 3) (j := 4) (by rfl) nd rfl rfl (by decide) rfl rfl (pa_cons (pe_op op_add pe_int (pe_call G__law_wide hr (by rfl) D.g__law_wide D.F__law_wide.kp D.b__law_wide .nil pass0 (pa_cons (pv 0) (pa_cons (pe_op op_powX pe_int pe_int) pa_nil)))) (pa_cons pe_dnewT pa_nil)) (by rfl))
      (pss_cons (ps_for PassesOwn.never rfl (pi_range1 (by rfl) D.z_range (pa_cons pe_int pa_nil)) (pg_name (i := 5) nd rfl (.inr rfl))
        (pss_cons (ps_set (i := 6) nd rfl (.inl rfl) (pe_callTy call_tuple_of (by rfl) D.z_tuple (by decide +kernel) (pa_cons (pe_lc (own := [("_law_a", 8), ("_law_b", 9), ("_law_c", 10)]) (g := (gTup K 3 (gCons (gName 8) (gCons (gName 9) (gCons (gName 10) gNil))))) (by rfl) nd (pi_list (pv 2)) (blkOk_by (own := [("_law_a", 8), ("_law_b", 9), ("_law_c", 10)]) (N := N__law_long) (sc := defScope s__law_long) (by decide +kernel))
          (fun _ _ _ _ _ => pg_tup rfl (pgs_cons (pg_name (i := 8) nd rfl (.inl rfl)) (pgs_cons (pg_name (i := 9) nd rfl (.inl rfl)) (pgs_cons (pg_name (i := 10) nd rfl (.inl rfl)) pgs_nil)))) (fun _ _ _ _ _ => pts_nil) (fun _ _ _ _ _ => pe_op op_sub (pe_op op_modN (pe_callTy call_int1 (by rfl) D.z_int (by decide +kernel) (pa_cons (pe_op op_add (pe_op op_add (pe_op op_mulX (pv 5) (pv 8)) (pv 10)) (pe_op op_fdivB (pv 5) (pe_op op_mulX (pv 9) pe_int))) pa_nil)) pe_int) pe_int)) pa_nil)))
          (pss_one (ps_dput hu (pv 4) (pv 6) (pe_op op_mulX (pe_op op_add (pv 3) (pv 5)) (pe_op op_sub pe_int (pe_op op_mulX pe_int (pe_callTy call_int1 (by rfl) D.z_int (by decide +kernel) (pa_cons (pe_cmpR op_eq (pe_op op_modN (pv 5) pe_int) pe_int (nomark _)) pa_nil))))) rfl))))
      (pss_one (ps_ret (pv 4))))), ?_⟩
    refine ⟨.int (m : Nat), rfl, m, rfl, by omega, by omega, fun l nl => ?_⟩
    have al : l ≠ a ∧ l ≠ c := S.fresh nl
    refine lc_range (lo := 0) (n := m) (fun j H' => ∃ rs : List Addr, rs.length = j ∧ (∀ r ∈ rs, Stp H' r) ∧ H' l = some (.lst (rs.map V.ref)) ∧ Stock H' a c (n + 3 * j) ∧ Keep a c H H')
      ⟨[], rfl, (fun x h => by cases h), upd_same, S.new nl, Keep.new nl⟩ (fun j H2 hj h => ?_) (fun H2 h => ?_)
    · obtain ⟨rs, hrl, hrs, hl, S2, k2⟩ := h
      refine ⟨rfl, .ref a, rfl, a, c, _, 24, rfl, S2, by omega, by decide, by decide, fun H3 r3 S3 k3 p30 p31 => ?_⟩
      refine ⟨_, _, rfl, rfl, .ref a, rfl, a, c, _, 9, rfl, S3, by omega, by decide, by decide, fun H4 r4 S4 k4 p40 p41 => ?_⟩
      refine ⟨_, _, rfl, rfl, .ref a, rfl, a, c, _, 25, rfl, S4, by omega, by decide, by decide, fun H5 r5 S5 k5 p50 p51 => ?_⟩
      refine ⟨by rw [sizeLine_eq]; show 3 ≤ _; decide, fun p np => ?_⟩
      have kt : KeepT H2 H5 := S2.keepT ((k3.trans k4).trans k5)
      have kl := k5 l _ al.1 al.2 (k4 l _ al.1 al.2 (k3 l _ al.1 al.2 hl))
      have lp : l ≠ p := ne_of_none kl np
      refine ⟨_, by rw [upd_ne lp]; exact kl, by rw [List.length_map, sizeLine_eq]; omega, rs ++ [p], by rw [List.length_append, hrl]; rfl, fun r hr' => ?_, by rw [upd_same, List.map_append]; rfl, ?_, ?_⟩
      · rcases List.mem_append.mp hr' with hr' | hr'
        · have h1 := ((hrs r hr').keep kt).keep (KeepT.new (o := .tup [V.int (1 + r3), .int (1 + r4), .int r5]) np)
          refine h1.keep fun b ys eb => ?_
          rw [upd_ne (fun z => ?_)]
          · exact eb
          · rw [z, upd_ne lp, kl] at eb
            cases eb
        · cases List.mem_singleton.mp hr'
          refine ⟨1 + r3, 1 + r4, r5, ?_, by omega, by omega, by omega, by omega, by omega, by omega⟩
          rw [upd_ne lp.symm]
          exact upd_same
      · exact ((S5.new np).put al).more (by omega)
      · exact ((((k2.trans k3).trans k4).trans k5).trans (Keep.new np)).put nl
    · obtain ⟨rs, hrl, hrs, hl, S2, k2⟩ := h
      dsimp only [tSeq, tAsg, gName]
      refine ⟨.ref a, rfl, _, _, rfl, rfl, ⟨by decide, by decide, by decide +kernel⟩, a, c, _, 10 ^ 28, rfl, S2, by omega, by decide, fun H3 r3 S3 k3 p30 p31 => ?_⟩
      refine ⟨_, _, rfl, rfl, fun e ne => ?_⟩
      have ae : e ≠ a ∧ e ≠ c := S3.fresh ne
      have hl3 := k3 l _ al.1 al.2 hl
      have hrs3 : ∀ r ∈ rs, Stp H3 r := fun r h => (hrs r h).keep (S2.keepT k3)
      have k03 := k2.trans k3
      have ne0 : H e = none := k03.free ae ne
      have le : l ≠ e := ne_of_none hl3 ne
      have he4 : upd H3 e (.dT []) e = some (.dT []) := upd_same
      have hl4 : upd H3 e (.dT []) l = some (.lst (rs.map V.ref)) := by rw [upd_ne le]; exact hl3
      have hrs4 : ∀ r ∈ rs, Stp (upd H3 e (.dT [])) r := fun r h => (hrs3 r h).keep (KeepT.new ne)
      have k4 : Keep a c H (upd H3 e (.dT [])) := k03.put ne0
      have S4 : Stock (upd H3 e (.dT [])) a c (n + 3 * m + 4) := S3.put ae
      generalize upd H3 e (.dT []) = H4 at he4 hl4 hrs4 k4 S4
      refine ⟨_, _, rfl, 300, rfl, by decide, by decide, for_range (n := 300) (fun j σ H' => ∃ (y5 y6 : Option V) (R : Ts), σ = [some (.ref a), some (.int (m : Nat)), some (.ref l), some (.int (1 + r3)), some (.ref e), y5, y6, none, none, none, none] ∧ H' e = some (dZ R) ∧ NodupK R ∧ (∀ q ∈ R, q.1.length = m) ∧ Bnds R ∧ R.length ≤ j ∧ H' l = some (.lst (rs.map V.ref)) ∧ (∀ r ∈ rs, Stp H' r) ∧ Stock H' a c (n + 3 * m + 4) ∧ Keep a c H H')
        ⟨none, none, [], rfl, he4, List.nodup_nil, (fun q h => by cases h), ⟨fun q h => by cases h⟩, Nat.le_refl _, hl4, hrs4, S4, k4⟩ (fun j σ H' hj h => ?_) (fun σ H' h => ?_)⟩
      · obtain ⟨y5, y6, R, rfl, hR, nR, lR, bR, cR, hl', hrs', S', k'⟩ := h
        refine ⟨.ref l, rfl, l, rfl, ⟨_, sqlOf hl'⟩, fun D nD => ?_⟩
        refine lc_list (xs := rs.map V.ref) (fun i H6 => ∃ ns : List Int, ns.length = i ∧ (∀ x ∈ ns, -12 ≤ x ∧ x ≤ 12) ∧ H6 D = some (.lst (ns.map V.int)) ∧ But D H' H6) ⟨[], rfl, (fun x h => by cases h), upd_same, But.start⟩ (fun i H6 _ h => ?_) (fun i x H6 hx h => ?_) (fun H6 h => ?_)
        · obtain ⟨_, _, _, _, kp⟩ := h
          exact sqlOf (kp _ _ (ne_of_none hl' nD) hl')
        · obtain ⟨ns, rfl, h12, hD, kp⟩ := h
          rw [List.getElem?_map] at hx
          obtain ⟨r, hr', rfl⟩ := Option.map_eq_some_iff.mp hx
          obtain ⟨a1, b1, c1, e1, a11, a12, b11, b12, c11, c12⟩ := hrs' r (List.mem_of_getElem? hr')
          have e6 := kp _ _ (ne_of_none e1 nD) e1
          have m25 := fmod25 (((0 : Int) + (j : Nat)) * a1 + c1 + ((0 : Int) + (j : Nat)).fdiv (b1 * 7))
          have hns : ns.length < rs.length := (List.getElem?_eq_some_iff.mp hr').1
          refine ⟨r, _, rfl, sqtOf e6, rfl, _, _, rfl, _, _, rfl, _, _, rfl, rfl, ?_⟩
          refine ⟨rfl, .int ((0 : Int) + (j : Nat)), rfl, .int a1, rfl, _, _, rfl, rfl, mulS (by omega) (by omega), .int c1, rfl, _, _, rfl, rfl, .int ((0 : Int) + (j : Nat)), rfl, .int b1, rfl, _, _, rfl, rfl, mulS (by omega) (by omega), _, _, rfl, rfl, ⟨by omega, Nat.lt_of_le_of_lt (Nat.log2_le_self _) (by omega)⟩, _, _, rfl, rfl, .inl ⟨_, rfl, _, _, rfl, rfl, (by decide : (25 : Int) ≠ 0), _, _, rfl, rfl, _, hD, by rw [List.length_map, sizeLine_eq]; omega, ns ++ [_], by rw [List.length_append]; rfl, fun x hx' => ?_, by rw [upd_same, List.map_append]; rfl, kp.step (Same.refl _)⟩⟩
          rcases List.mem_append.mp hx' with hx' | hx'
          · exact h12 x hx'
          · cases List.mem_singleton.mp hx'
            omega
        · obtain ⟨ns, hns, h12, hD, kp⟩ := h
          rw [List.length_map] at hns
          refine ⟨D, _, rfl, .inl ⟨sqlOf hD, fun t nt => ?_⟩⟩
          have kH : Same H' (upd H6 t (.tup (ns.map V.int))) := fun b o eb => same_new (o := .tup (ns.map V.int)) nt _ _ (kp b o (ne_of_none eb nD) eb)
          have nt' : H' t = none := by
            cases hH : H' t with
            | none => rfl
            | some o =>
              rw [kp t o (ne_of_none hH nD) hH] at nt
              cases nt
          have ht : upd H6 t (.tup (ns.map V.int)) t = some (.tup (ns.map V.int)) := upd_same
          generalize upd H6 t (.tup (ns.map V.int)) = H7 at kH ht
          have hR7 := kH _ _ hR
          refine ⟨.int (1 + r3), rfl, .int ((0 : Int) + (j : Nat)), rfl, _, _, rfl, rfl, .int ((0 : Int) + (j : Nat)), rfl, _, _, rfl, rfl, (by decide : (3 : Int) ≠ 0), rfl, .inr ⟨_, rfl, ?_⟩⟩
          dsimp only
          have hb : ∀ t : Bool, (if t = true then (1 : Int) else 0) = 0 ∨ (if t = true then (1 : Int) else 0) = 1 := fun t => by cases t <;> simp
          generalize hw : (if decide (V.int (((0 : Int) + (j : Nat)).fmod 3) = V.int 1) = true then (1 : Int) else 0) = b
          have b01 : b = 0 ∨ b = 1 := by rw [← hw]; exact hb _
          have cf : ((1 + r3 + ((0 : Int) + (j : Nat))) * (1 - 2 * b)).natAbs < 2 ^ 300 := by
            have h1 : (1 + r3 + ((0 : Int) + (j : Nat))).natAbs ≤ 2 ^ 100 := by
              have : (10 : Int) ^ 28 + 400 ≤ 2 ^ 100 := by decide
              omega
            rw [Int.natAbs_mul]
            exact Nat.lt_of_le_of_lt (Nat.mul_le_mul h1 (show (1 - 2 * b).natAbs ≤ 1 by omega)) (by decide +kernel)
          refine ⟨_, _, rfl, rfl, mulS (by decide) (by omega), _, _, rfl, rfl, _, _, rfl, rfl, mulx (show _ < 2 ^ 110 from ?_) (show _ < 2 ^ 10 from ?_) (by decide), .ref e, rfl, .ref t, rfl, e, _, rfl, DPut.t (k := ns.map Sum.inl) hR7 (by rw [map_kV]; exact ht) ?_, ?_⟩
          · have : (10 : Int) ^ 28 + 400 ≤ 2 ^ 100 := by decide
            have h2 : (2 : Nat) ^ 100 < 2 ^ 110 := by decide
            omega
          · omega
          · rw [List.length_map, sizeLine_eq]
            omega
          · refine ⟨_, _, setD R ns ((1 + r3 + ((0 : Int) + (j : Nat))) * (1 - 2 * b)), rfl, by rw [upd_same]; exact congrArg some (congrArg HO.dT (NH.putK_enc _ _ _)), setD_nodup _ _ nR, fun q hq => ?_, ⟨fun q hq => ?_⟩, Nat.le_trans (setD_len _ _ _) (Nat.succ_le_succ cR), by rw [upd_ne le]; exact kH _ _ hl', fun r hr' => ?_, (S'.same kH).put ae, ?_⟩
            · rcases setD_mem hq with ⟨hq, _⟩ | rfl
              · exact lR q hq
              · show ns.length = m
                omega
            · rcases setD_mem hq with ⟨hq, _⟩ | rfl
              · exact bR.b q hq
              · exact ⟨cf, h12⟩
            · refine ((hrs' r hr').keep fun b ys eb => kH _ _ eb).keep fun b ys eb => ?_
              have eb : H7 b = _ := eb
              rw [upd_ne (fun z => by rw [z, hR7] at eb; cases eb)]
              exact eb
            · exact Keep.put (fun b o h1 h2 eb => kH _ _ (k' b o h1 h2 eb)) ne0
      · obtain ⟨y5, y6, R, rfl, hR, nR, lR, bR, cR, hl', hrs', S', k'⟩ := h
        exact ⟨.ref e, rfl, q _ e R (S'.more (by omega)) k' ne0 ⟨hR, nR, lR⟩ bR cR⟩
end
end NH
set_option Elab.async false
set_option linter.all false
set_option maxRecDepth 100000
set_option maxHeartbeats 4000000
/-! defs that are called where no repr is under way: what FnOk says, at such places alone -/
namespace NH
open PySem PySem.Spec PyProof.Rows L2
/-- no repr is under way -/
def Quiet (A : Around) : Prop := A.guards = some []
theorem Quiet.deeper {A : Around} (h : Quiet A) (env : Env) : Quiet (A.deeper env) := h
structure FnG (P : Program) (w : World) (K : PySem.W.Frag) (mg : Str → Option Value) (base : Heap) (k : Nat) (f : Addr) (fd : FuncData) (ps : List Str) (sp : Sp) : Prop where
  size : ∀ vs H Q E, sp vs H Q E → vs.length = ps.length
  goes : ∀ (A : Around) (outer : List Env) (s : Shared) (H : Hp) (args : Args) (us : List Value) (vs : List V) (Q : VK) (E : XK), Quiet A → Room k A → Env0 P w K mg base A outer s H → BindsTo s fd args (ps.zip us) → Vals vs us →
    sp vs H Q E → codeAny (model P w) A (.call (.ref f) args) (CR CX0 outer P w H s Q E) s
section
variable {P : Program} {w : World} {K : PySem.W.Frag} {mg : Str → Option Value} {base : Heap} {j k : Nat} {f : Addr} {fd : FuncData} {ps : List Str} {sp sp' : Sp}
theorem FnG.of (F : FnOk P w K mg base CX0 k f fd ps sp) : FnG P w K mg base k f fd ps sp := ⟨F.len, fun A outer s H args us vs Q E _ => F.run A outer s H args us vs Q E⟩
theorem FnG.mono (F : FnG P w K mg base j f fd ps sp) (h : j ≤ k) : FnG P w K mg base k f fd ps sp := ⟨F.size, fun A outer s H args us vs Q E g hr => F.goes A outer s H args us vs Q E g (hr.mono h)⟩
/-- a def by its body, where no repr is under way -/
theorem okG {x qual : Str} {st : Stmt} {N : List Str} (F : Fun K x qual st f fd) (S : FnScope N ps (defScope st)) (size : ∀ vs H Q E, sp vs H Q E → vs.length = ps.length)
    (walk : ∀ (cdv : Value) (A : Around) (outer : List Env) (s : Shared) (H : Hp) (vs : List V) (Q : VK) (E : XK), Quiet (A.deeper (envOfC qual (defScope st) s.heap.objs.size f cdv)) → Room k (A.deeper (envOfC qual (defScope st) s.heap.objs.size f cdv)) →
      sp vs H Q E → ∃ t, PSs (cxOf CX0 P w K mg base N qual (defScope st) f cdv A outer s H E).nox (defBody st) t ∧ t { nx := fun _ H' => Q .non H', rt := Q } (start N vs) H) : FnG P w K mg base (k + 1) f fd ps sp := by
  obtain ⟨oc, od, kV, doc, pm, an, cdv, ct, osl, e, lk, cd⟩ := F.ex
  cases e
  constructor
  · exact size
  intro A outer s H args us vs Q E gd room e0 bd vv want
  obtain ⟨t, body, q⟩ := walk cdv A outer s H vs Q E (gd.deeper _) (room.deeper _) want
  have stays : ∀ b o, base.get? b = some o → s.heap.get? b = some o := fun b o z => (e0.bs b o z).1
  have inK : K.In s.heap := e0.mod.kin.keeps stays
  have par : ∀ y ∈ ps.zip us, (defScope st).names.lookup y.1 = some .local ∨ ((defScope st).names.lookup y.1 = some .cell ∧ ((cellsFrom (s.heap.objs.size + 1) (defScope st).names []).lookup y.1).isSome = true) := by
    rintro ⟨n, v⟩ hy
    exact (S.par n (List.of_mem_zip hy).1).imp id fun c => ⟨c, PySem.W.cellsFrom_some _ _ _ (.inl c)⟩
  refine codeAny_call_function room.depth (inK _ _ lk) rfl S.co S.gen rfl (PySem.W.codeRec_of inK cd) (bd _ _ _ _ (wpAny_newFunctionEnv_cells S.kind par ?_))
  rintro env rfl s1 x
  refine ⟨(e0.mod.nolimit.keeps stays).keeps x.toInCall.keep, codeAny_func (wpAny_mono (body.nox.run [] s1 (start N vs) H _ (inv_start S room.hd e0 (size _ _ _ _ want) vv x) q) ?_ fun _ _ z => z)⟩
  rintro (_ | _ | _ | u) s' z
  · obtain ⟨σ', H', J, z⟩ := z
    exact ⟨V.non, H', J.os, J.bare, J.base, J.hok, rfl, z⟩
  · exact z.elim fun _ z => z.elim fun _ z => z.2.elim
  · exact z.elim fun _ z => z.elim fun _ z => z.2.elim
  · obtain ⟨v, σ', H', J, rv, z⟩ := z
    exact ⟨v, H', J.os, J.bare, J.base, J.hok, rv, z⟩
end
/-- a call of such a def -/
theorem pe_callG {X : Cx} {k : Nat} {f : Addr} {fd : FuncData} {ps : List Str} {sp : Sp} {E : XK} {x : Str} {p pos : Pos} {e : Expr} {es : List Expr} {t : TA} (gd : Quiet X.A) (F : FnG X.prog X.w X.K X.mg X.base k f fd ps sp) (hr : Room k X.A) (hg : Gl X x)
    (hm : X.mg x = some (.ref f)) (hk : PySem.W.keepIn X.K (.ref f) = true) (hb : Binds X.K fd ps []) (hx : Passes CX0 X E) (ha : PA X (e :: es) t) (hdb : (x == ("__debug__" : Str)) = false := by decide)
    (he : starEach (e :: es) X.env = (false, eval e X.env) :: starEach es X.env := by rfl) (hpl : (backTo pos (starEach es X.env)).any (·.1) = false := by rfl) : PE X (.Call (.Name x p) (e :: es) [] pos) (tCall sp [] E t) := by
  constructor
  intro pins s σ H Q I h
  refine wpAny_Call_Name_kw (ld_glob I hg hm (PySem.W.callWith_K (h₀ := X.base) I.ok.mod.kin hk (thn (ha.run pos pins s σ H _ I h) ?_) he hpl) hdb)
  rintro us s1 ⟨vs, H1, I1, r, q⟩
  have r2 : Vals (vs ++ []) (us ++ []) := r.append .nil
  have len : (us ++ []).length = ps.length := r2.length.symm.trans (F.size _ _ _ _ q)
  refine ⟨I1.kIn, wpAny_call (codeAny_mono (F.goes X.A X.stack s1 H1 ⟨us, []⟩ (us ++ []) (vs ++ []) Q E gd hr I1.env0 (hb s1 us I1.kIn len) r2 q) ?_)⟩
  rintro (e | (_ | _ | _ | u)) s' z
  · exact hx pins σ H1 s1 e s' I1 z
  · exact z.elim
  · exact z.elim
  · exact z.elim
  · exact I1.after z
end NH
set_option Elab.async false
set_option linter.all false
set_option maxRecDepth 100000
set_option maxHeartbeats 4000000
/-! a law's end by FnG -/
namespace NH
open PySem PySem.Spec PyProof.Rows L2
section
variable {P : Program} {w : World} {K : PySem.W.Frag} {mg mb : Str → Option Value} {k : Nat} {fa a : Addr} {fd : FuncData} {x : Str} {sp : Sp} {s₁ : Shared} {vs : List Value} {ns : List Int}
/-- what is asked of an abstract heap in which the script alone may be tracked -/
structure Alone (P : Program) (w : World) (K : PySem.W.Frag) (s : Shared) (a : Addr) (ns : List Int) (H : Hp) : Prop where
  only : Only H
  seq : SqL K H a (ns.map V.int)
  hok : HOk P w H s.heap
  none_ : ∀ b, b ≠ a → H b = none
  apart : H a ≠ none → K.lookup a = none
theorem alone_or (KX : K.In s₁.heap) (ha : s₁.heap.get? a = some { cls := .type "list", data := .seq vs.toArray }) (hi : IntsAre vs ns) (hl : ns.length ≤ sizeLine) : ∃ H, Alone P w K s₁ a ns H := by
  have rv := vals_ints hi
  cases hk : K.lookup a with
  | some o =>
    have e := KX a o hk
    rw [ha] at e
    cases e
    refine ⟨fun _ => none, fun _ => .inl rfl, .inr ⟨_, vs.toArray, _, hk, rfl, rfl, rfl, ?_, by simpa using rv⟩, (fun b u z => nomatch z), fun _ _ => rfl, fun z => absurd rfl z⟩
    rw [List.size_toArray, hi.length]
    exact hl
  | none =>
    refine ⟨upd (fun _ => none) a (.frz { cls := .type "list", data := .seq vs.toArray } (.lst (ns.map V.int))), fun b => ?_, .inl (.inr ⟨_, upd_same⟩), fun b u z => ?_, fun b h => upd_ne h, fun _ => hk⟩
    · by_cases h : b = a
      · subst h
        exact .inr ⟨_, _, upd_same⟩
      · exact .inl (upd_ne h)
    · by_cases h : b = a
      · subst h
        rw [upd_same] at z
        cases z
        exact ⟨ha, by rw [List.length_map]; exact hl, vs, _, rv, ha⟩
      · rw [upd_ne h] at z
        cases z
theorem law_callG (KX : K.In s₁.heap) (hns : s₁.heap.Ns mainGlobals mg) (hb : s₁.heap.Ns builtinsNs mb) (hbb : ∀ x : Str, x ≠ "__name__" → mb x = bootBuiltins x) (hlim : s₁.heap.NoLimit) (hg : s₁.gens = #[])
    (ha : s₁.heap.get? a = some { cls := .type "list", data := .seq vs.toArray }) (hi : IntsAre vs ns) (hl : ns.length ≤ sizeLine) (hr : Room k callerA) (F : ∀ base : Heap, K.In base → base.Ns mainGlobals mg → FnG P w K mg base k fa fd [x] sp)
    (hbind : ∀ (s : Shared) (u : Value), BindsTo s fd ⟨[u], []⟩ [(x, u)]) (hsp : ∀ H : Hp, Only H → SqL K H a (ns.map V.int) → sp [.ref a] H (fun v _ => v = .bl true) fun _ _ _ => False) :
    codeAny (model P w) callerA (.call (.ref fa) ⟨[.ref a], []⟩) (fun r s' => r = .ok (.ret (.bool true)) ∧ OldK s₁.heap s'.heap ∧ s'.os = s₁.os ∧ AllBare s'.gens) s₁ := by
  obtain ⟨H, A⟩ := alone_or (P := P) (w := w) KX ha hi hl
  have nd : ∀ {b : Addr} {o : Obj} {es : Array DictEntry} {ep : Nat}, s₁.heap.get? b = some o → o.data = .dict es ep → H b = none := fun {b o es ep} e d => A.none_ b fun z => by
    rw [z, ha] at e
    cases e
    cases d
  have nsK : ∀ {b : Addr} {m : Str → Option Value}, s₁.heap.Ns b m → (hidT s₁.heap H).Ns b m := fun {b m} h => by
    obtain ⟨o, es, ep, e, d, r⟩ := h
    exact ⟨o, es, ep, hidT_get e (nd e d), d, r⟩
  have hK : K.In (hidT s₁.heap H) := fun b o e => hidT_get (KX b o e) (by
    by_cases z : b = a
    · by_cases q : H a = none
      · rw [z]; exact q
      · have n := A.apart q
        rw [z, n] at e
        cases e
    · exact A.none_ b z)
  obtain ⟨mc, l1, l2⟩ := hlim
  have e0 : Env0 P w K mg (hidT s₁.heap H) callerA [] s₁ H := ⟨rfl, ⟨hK, nsK hns, ⟨mb, nsK hb, hbb⟩, ⟨mc, nsK l1, l2⟩⟩, fun b o e => of_hidT e, Nat.le_of_eq (hidT_size _ _), trivial, fun b hb => (nomatch (show b ∈ ([] : List Addr) from hb)), A.hok, .of_eq hg⟩
  have run := (F _ hK (nsK hns)).goes callerA [] s₁ H ⟨[.ref a], []⟩ [.ref a] [.ref a] (fun v _ => v = .bl true) (fun _ _ _ => False) rfl hr e0 (hbind s₁ (.ref a)) (.cons rfl .nil) (hsp H A.only A.seq)
  refine codeAny_mono run ?_
  rintro (e | (_ | _ | _ | u)) s' z
  · exact z.elim
  · exact z.elim
  · exact z.elim
  · exact z.elim
  · obtain ⟨v, H', os, bare, un, hok', r', rfl⟩ := z
    obtain rfl : u = Value.bool true := r'
    refine ⟨rfl, OldK.of_keep fun b o e => ?_, os, bare⟩
    have noFr : ∀ {c : Addr}, c ∉ ([] : List Addr) := fun {c} h => nomatch h
    cases q : H b with
    | none => exact un.keep b o e q noFr noFr
    | some u =>
      rcases A.only b with z | ⟨ob, xs, z⟩
      · rw [q] at z; cases z
      · have z2 := un.frzs b ob _ z
        have e1 := (A.hok b _ z).1
        rw [e] at e1
        cases e1
        exact (hok' b _ z2).1
end
theorem walk_ofG {l : PySem.W.OpenLaw} {n k : Nat} {q : Program} {loose : List Str} {XP : (Str → Option Value) → Heap → Prop} {YP : World → Heap → Prop} {d : DefRec} {K : Params → PySem.W.Frag} {sp : World → Sp} {x : Str}
    (hn : l.most = some n) (hn2 : n ≤ sizeLine) (hdf : d.params.defaults = []) (hr : Room k callerA) (hY : ∀ (w : World) (h : Heap), YP w h → (K w.params).In h)
    (F : ∀ (w : World) (mg : Str → Option Value) (fa : Addr) (h : Heap), (K w.params).In h → h.Ns mainGlobals mg → mg d.name = some (.ref fa) →
      ∃ fd : FuncData, (∀ (s : Shared) (u : Value), BindsTo s fd ⟨[u], []⟩ [(x, u)]) ∧ ∀ base : Heap, (K w.params).In base → base.Ns mainGlobals mg → FnG l.prog w (K w.params) mg base k fa fd [x] (sp w))
    (hsp : ∀ (w : World) (H : Hp) (a : Addr) (ns : List Int), ns.length ≤ n → (∀ z ∈ ns, Builtin.Int.intBits z ≤ 1048576) → Only H → SqL (K w.params) H a (ns.map V.int) → sp w [.ref a] H (fun v _ => v = .bl true) fun _ _ _ => False) :
    PySem.W.WalkO q loose XP YP l.row.toRowW d [] (fun f vs => PySem.call f vs) := by
  refine Att.attach_callB hn hdf ?_
  intro w s₀ s₁ mg mb fa o pm cd doc a vs ns G Y ho hd hcd hmg hobj hints hlen hbits hg
  have KX := hY w _ Y
  have ⟨fd, hb, hF⟩ := F w mg fa _ KX G.T.g hmg
  exact law_callG KX G.T.g G.T.b G.T.builtins G.T.nolimit hg hobj hints (Nat.le_trans hlen hn2) hr hF hb (hsp w · a ns hlen hbits)
/-! ### repr of a tuple or a list, of data of any depth -/
def rRepr (K : PySem.W.Frag) : List V → Hp → VK → Prop := fun xs H Q => ∃ (a : Addr) (d : PyData), xs = [.ref a] ∧ Dp K H (.ref a) d ∧ d.showable = true ∧ d.hasDict = false ∧ d.depth ≤ 60 ∧ d.shown.length ≤ sizeLine ∧ Q (.str d.shown) H
theorem cr_repr {X : Cx} (gd : Quiet X.A) (hu : X.A.units + 64 < cLine) : CallR X (.builtin "repr") (rRepr X.K) := by
  intro pins s σ H xs us Q I r h
  obtain ⟨a, d, rfl, hd, sh, nd, dp, sz, q⟩ := h
  obtain ⟨u, rfl, ru⟩ : ∃ u, us = [u] ∧ RelV (.ref a) u := by
    cases r with
    | cons r1 r2 =>
      cases r2
      exact ⟨_, rfl, r1⟩
  obtain rfl : u = Value.ref a := ru
  obtain ⟨as, rd⟩ := Dp.reads I d _ _ hd rfl
  refine repr_of_reads' rd sh (PyData.noDict_hsm nd) gd (by omega) (fun _ _ e => e) (fun h' u tk keep => ?_) sz
  exact ⟨.str _, H, I.kept (h' := h') (t' := tk) keep, ⟨_, rfl⟩, q⟩
end NH
set_option Elab.async false
set_option linter.all false
set_option maxRecDepth 100000
set_option maxHeartbeats 4000000
set_option exponentiation.threshold 100000
/-! range(n) as a value; data of rows of ints: ==, repr -/
namespace NH
open PySem PySem.Spec PyProof.Rows L2
theorem cr_range1 {X : Cx} : CallR X (.type "range") (fun vs H Q => ∃ j, vs = [V.int j] ∧ ∀ p, H p = none → Q (.ref p) (upd H p (.rng 0 j))) := by
  intro pins s σ H vs us Q I r h
  obtain ⟨j, rfl, q⟩ := h
  obtain ⟨u, rfl, ru⟩ : ∃ u, us = [u] ∧ RelV (.int j) u := by
    cases r with
    | cons r1 r2 =>
      cases r2
      exact ⟨_, rfl, r1⟩
  obtain ⟨t, rfl⟩ := ru
  have new : ObjOk X.prog X.w (upd H s.heap.objs.size (.rng 0 j)) (s.heap.push { cls := .type "range", data := .fields #[.int 0 s.toks, .int j t, .int 1 (s.toks + 1)] }) s.heap.objs.size (.rng 0 j) := ⟨_, _, _, Heap.get?_push_size _ rfl⟩
  exact call_range_1 ⟨.ref s.heap.objs.size, _, I.laid (t' := s.toks + 1 + 1) (fun b o e => Heap.get?_push_of_some _ e) (Nat.le_refl _) new, rfl, q _ (I.hok.fresh (Nat.le_refl _))⟩
def iRngV (te : TE) : TI := fun σ H R => te σ H fun x H1 => ∃ (a : Addr) (lo hi : Int), x = V.ref a ∧ H1 a = some (.rng lo hi) ∧ (-(2 ^ 62) ≤ lo ∧ lo < 2 ^ 62 ∧ -(2 ^ 62) ≤ hi ∧ hi < 2 ^ 62) ∧ R (Itr lo (hi - lo).toNat) H1
theorem pi_rng {X : Cx} {tg e : Expr} {te : TE} (he : PE X e te) : PI X tg e (iRngV te) := by
  constructor
  intro pins s σ H R I h
  refine thn (he.run pins s σ H _ I h) ?_
  rintro w s1 ⟨x, H1, I1, r1, a, lo, hi, rfl, hr, ⟨b1, b2, b3, b4⟩, q⟩
  cases r1
  obtain ⟨t, u, v, hg⟩ := (show ObjOk X.prog X.w H1 s1.heap a (.rng lo hi) from I1.hok a _ hr)
  refine wpAny_pyIter_range hg (small_one b1 b2 b3 b4) ?_
  have fresh : ∀ b ∈ [s1.heap.objs.size], FpOk X pins H1 b := fun b hb => by
    cases List.mem_singleton.mp hb
    exact I1.fpOk (Nat.le_refl _) (I1.hok.fresh (Nat.le_refl _))
  refine ⟨s1.heap.objs.size, [s1.heap.objs.size], _, _, H1, rfl, I1.kept (t' := s1.toks) fun b o e => Heap.get?_push_of_some _ e, turn_range _ lo (hi - lo).toNat, ?_, fresh, q⟩
  have e1 : lo + ((0 : Nat) : Int) * 1 = lo := by simp
  have e2 : (((hi - lo).toNat : Nat) : Int) - ((0 : Nat) : Int) = Builtin.Range.rangeSize lo hi 1 := by
    rw [rangeSize_one]
    split <;> omega
  show IsRangeIter _ _ (lo + ((0 : Nat) : Int) * 1) ((((hi - lo).toNat : Nat) : Int) - ((0 : Nat) : Int)) 1
  rw [e1, e2]
  exact Heap.get?_push_size _ rfl
/-! ### rows of ints as data -/
def rowD (ns : List Int) : PyData := .tuple (ns.map .int)
def bdD (B : List (List Int)) : PyData := .tuple (B.map rowD)
theorem canLayI : ∀ cs : List Int, PyData.canLayAll0 (cs.map PyData.int) = true
  | [] => rfl
  | _ :: r => by simp [PyData.canLayAll0, PyData.canLay0, canLayI r]
theorem depthI : ∀ cs : List Int, PyData.depthAll (cs.map PyData.int) ≤ 1
  | [] => by simp [PyData.depthAll]
  | _ :: r => by
    have := depthI r
    simp [PyData.depthAll, PyData.depth]
    omega
theorem dpI {K : PySem.W.Frag} {H : Hp} : ∀ cs : List Int, DpAll K H (cs.map V.int) (cs.map PyData.int)
  | [] => .nil
  | i :: r => .cons (.int i) (dpI r)
theorem canLayR : ∀ B : List (List Int), PyData.canLayAll0 (B.map rowD) = true
  | [] => rfl
  | r :: B => by simp [PyData.canLayAll0, PyData.canLay0, rowD, canLayR B, canLayI]
theorem depthR : ∀ B : List (List Int), PyData.depthAll (B.map rowD) ≤ 3
  | [] => by simp [PyData.depthAll]
  | r :: B => by
    have h1 := depthR B
    have h2 := depthI r
    simp [PyData.depthAll, PyData.depth, rowD]
    omega
theorem shapedB (B : List (List Int)) : SeqAt.shaped (bdD B) = true := by
  have := depthR B
  simp [SeqAt.shaped, bdD, PyData.canLay0, canLayR, PyData.depth]
  omega
theorem shapedRow (ns : List Int) : SeqAt.shaped (rowD ns) = true := by
  have := depthI ns
  simp [SeqAt.shaped, rowD, PyData.canLay0, canLayI, PyData.depth]
  omega
theorem eqvB (B : List (List Int)) : PyData.eqv (bdD B) (bdD B) = true := SeqAt.eqv_refl _ (by simp [bdD, PyData.canLay0, canLayR])
theorem eqvRow (ns : List Int) : PyData.eqv (rowD ns) (rowD ns) = true := SeqAt.eqv_refl _ (by simp [rowD, PyData.canLay0, canLayI])
/-! ### their texts -/
theorem noDictI : ∀ cs : List Int, PyData.hasDictAll (cs.map PyData.int) = false
  | [] => rfl
  | _ :: r => by simp [PyData.hasDictAll, PyData.hasDict, noDictI r]
theorem noDictR : ∀ B : List (List Int), PyData.hasDictAll (B.map rowD) = false
  | [] => rfl
  | r :: B => by simp [PyData.hasDictAll, PyData.hasDict, rowD, noDictI, noDictR B]
/-- a number whose text is short -/
def Short (i : Int) : Prop := i.natAbs.log2 < 1920
theorem showI : ∀ cs : List Int, (∀ i ∈ cs, Short i) → PyData.showableAll (cs.map PyData.int) = true
  | [], _ => rfl
  | i :: r, h => by
    simp only [List.map_cons, PyData.showableAll, PyData.showable, Bool.and_eq_true, decide_eq_true_eq]
    exact ⟨h i List.mem_cons_self, showI r fun x hx => h x (List.mem_cons_of_mem _ hx)⟩
theorem showR : ∀ B : List (List Int), (∀ r ∈ B, ∀ i ∈ r, Short i) → PyData.showableAll (B.map rowD) = true
  | [], _ => rfl
  | r :: B, h => by
    simp only [List.map_cons, PyData.showableAll, Bool.and_eq_true]
    refine ⟨?_, showR B fun x hx => h x (List.mem_cons_of_mem _ hx)⟩
    show PyData.showable (.tuple (r.map .int)) = true
    simp only [PyData.showable]
    exact showI r (h r List.mem_cons_self)
theorem ten_big : (2 : Nat) ^ 1921 ≤ 10 ^ 579 := by decide +kernel
theorem short_len {i : Int} (h : Short i) : (PyData.shown (.int i)).length ≤ 580 := by
  have hb : i.natAbs < 10 ^ 579 := by
    have h1 : i.natAbs < 2 ^ (i.natAbs.log2 + 1) := Nat.lt_log2_self
    have h2 : 2 ^ (i.natAbs.log2 + 1) ≤ 2 ^ 1921 := Nat.pow_le_pow_right (by decide) (by
      have : i.natAbs.log2 < 1920 := h
      omega)
    exact Nat.lt_of_lt_of_le h1 (Nat.le_trans h2 ten_big)
  have pos : ∀ v : Int, 0 ≤ v → v.natAbs < 10 ^ 579 → (Str.ofString (toString v)).length ≤ 579 := fun v h0 hv => toString_length_le h0 (by decide) (by
    have : v = (v.natAbs : Int) := by omega
    rw [this]
    exact_mod_cast hv)
  show (Str.ofString (toString i)).length ≤ 580
  by_cases h0 : 0 ≤ i
  · exact Nat.le_trans (pos i h0 hb) (by decide)
  · rw [len_text_neg (by omega)]
    have := pos (0 - i) (by omega) (by rw [show (0 - i).natAbs = i.natAbs by omega]; exact hb)
    omega
theorem piled_le {B : Nat} : ∀ ts : List Str, (∀ t ∈ ts, t.length ≤ B) → piled ts ≤ ts.length * (B + 2)
  | [], _ => by rw [piled_nil]; exact Nat.zero_le _
  | t :: r, h => by
    have h1 := h t List.mem_cons_self
    have h2 := piled_le r fun x hx => h x (List.mem_cons_of_mem _ hx)
    rw [piled_cons, List.length_cons, Nat.succ_mul]
    omega
theorem tupText_le {B : Nat} (ts : List Str) (h : ∀ t ∈ ts, t.length ≤ B) : (tupleText ts).length ≤ ts.length * (B + 2) + 10 := by
  have p := piled_le ts h
  have j : (Str.join ", " ts).length ≤ piled ts := by
    cases ts with
    | nil => exact Nat.zero_le _
    | cons a b => have := join_length_add (a :: b) (by simp); omega
  have e : (tupleText ts).length = ("(" : Str).length + (Str.join ", " ts).length + (if ts.length == 1 then ",)" else ")" : Str).length := by
    unfold tupleText
    rw [strLen_append, strLen_append]
    split <;> rfl
  have l1 : ("(" : Str).length = 1 := rfl
  have l2 : (if ts.length == 1 then ",)" else ")" : Str).length ≤ 2 := by
    split
    · exact Nat.le_refl 2
    · show 1 ≤ 2
      decide
  omega
theorem shownAll_map {α : Type} (g : α → PyData) : ∀ xs : List α, PyData.shownAll (xs.map g) = xs.map fun x => (g x).shown
  | [] => rfl
  | x :: r => by
    rw [List.map_cons, List.map_cons, ← shownAll_map g r]
    rfl
theorem row_text {ns : List Int} (h : ∀ i ∈ ns, Short i) (hl : ns.length ≤ 100) : (rowD ns).shown.length ≤ 60000 := by
  show (tupleText (PyData.shownAll (ns.map .int))).length ≤ 60000
  rw [shownAll_map]
  have := tupText_le (B := 580) (ns.map fun x => (PyData.int x).shown) fun t ht => by
    obtain ⟨x, hx, rfl⟩ := List.mem_map.mp ht
    exact short_len (h x hx)
  rw [List.length_map] at this
  have h2 : ns.length * (580 + 2) ≤ 100 * 582 := Nat.mul_le_mul_right _ hl
  omega
theorem bd_text {B : List (List Int)} (h : ∀ r ∈ B, r.length ≤ 100 ∧ ∀ i ∈ r, Short i) (hl : B.length ≤ 100) : (bdD B).shown.length ≤ sizeLine := by
  show (tupleText (PyData.shownAll (B.map rowD))).length ≤ sizeLine
  rw [shownAll_map]
  have := tupText_le (B := 60000) (B.map fun x => (rowD x).shown) fun t ht => by
    obtain ⟨x, hx, rfl⟩ := List.mem_map.mp ht
    exact row_text (h x hx).2 (h x hx).1
  rw [List.length_map] at this
  have h2 : B.length * (60000 + 2) ≤ 100 * 60002 := Nat.mul_le_mul_right _ hl
  rw [sizeLine_eq]
  omega
end NH
set_option Elab.async false
set_option linter.all false
set_option maxRecDepth 100000
set_option maxHeartbeats 4000000
set_option exponentiation.threshold 100000
/-! lists of ints, lists of rows: ==, repr -/
namespace NH
open PySem PySem.Spec PyProof.Rows L2 R1
def intsD (ns : List Int) : PyData := .list (ns.map .int)
def rowsD (B : List (List Int)) : PyData := .list (B.map rowD)
theorem shapedL (ns : List Int) : SeqAt.shaped (intsD ns) = true := by
  have := depthI ns
  simp [SeqAt.shaped, intsD, PyData.canLay0, canLayI, PyData.depth]
  omega
theorem shapedRL (B : List (List Int)) : SeqAt.shaped (rowsD B) = true := by
  have := depthR B
  simp [SeqAt.shaped, rowsD, PyData.canLay0, canLayR, PyData.depth]
  omega
theorem eqvL (ns : List Int) : PyData.eqv (intsD ns) (intsD ns) = true := SeqAt.eqv_refl _ (by simp [intsD, PyData.canLay0, canLayI])
theorem eqvL0 {x : Int} {ns : List Int} : PyData.eqv (intsD (x :: ns)) (intsD []) = false := rfl
theorem eqvRL0 {x : List Int} {B : List (List Int)} : PyData.eqv (rowsD (x :: B)) (rowsD []) = false := rfl
theorem eqvRL00 : PyData.eqv (rowsD []) (rowsD []) = true := rfl
theorem dpL {K : PySem.W.Frag} {H : Hp} {a : Addr} {ns : List Int} (h : H a = some (.lst (ns.map V.int))) : Dp K H (.ref a) (intsD ns) := .lst (sqlOf h) (dpI ns)
theorem dpRs {K : PySem.W.Frag} {H : Hp} : ∀ {xs : List (Addr × List Int)}, (∀ x ∈ xs, H x.1 = some (.tup (x.2.map V.int))) → DpAll K H (xs.map fun x => V.ref x.1) ((xs.map (·.2)).map rowD)
  | [], _ => .nil
  | x :: xs, h => .cons (.tup (sqtOf (h x List.mem_cons_self)) (dpI x.2)) (dpRs fun y hy => h y (List.mem_cons_of_mem _ hy))
/-- a list of tuples of ints in the heap -/
structure LsAt (H : Hp) (a : Addr) (B : List (List Int)) : Prop where
  ex : ∃ xs : List (Addr × List Int), H a = some (.lst (xs.map fun x => V.ref x.1)) ∧ (∀ x ∈ xs, H x.1 = some (.tup (x.2.map V.int))) ∧ xs.map (·.2) = B
theorem LsAt.dp {K : PySem.W.Frag} {H : Hp} {a : Addr} {B : List (List Int)} (h : LsAt H a B) : Dp K H (.ref a) (rowsD B) := by
  obtain ⟨xs, h1, h2, rfl⟩ := h.ex
  exact .lst (sqlOf h1) (dpRs h2)
theorem textFrom_le : ∀ (ts : List Str) (k : Nat) (acc : Str), (textFrom k acc ts).length ≤ acc.length + piled ts
  | [], k, acc => Nat.le_add_right _ _
  | t :: r, k, acc => by
    have h := textFrom_le r (k + 1) (acc ++ (if k > 0 then ", " else "" : String) ++ t)
    have e : (acc ++ (if k > 0 then ", " else "" : String) ++ t).length = acc.length + (if k > 0 then 2 else 0) + t.length := by
      rw [strLen_append, strLen_append]
      split <;> rfl
    rw [e] at h
    rw [piled_cons]
    have d1 : (if k > 0 then 2 else 0 : Nat) ≤ 2 := by split <;> omega
    show (textFrom (k + 1) _ r).length ≤ _
    omega
theorem listText_le {B : Nat} {ts : List Str} (h : ∀ t ∈ ts, t.length ≤ B) : (listText ts).length ≤ ts.length * (B + 2) + 4 := by
  have p := piled_le ts h
  have q := textFrom_le ts 0 ("[" : Str)
  have e : (listText ts).length = (textFrom 0 "[" ts).length + 1 := by
    unfold listText
    rw [strLen_append]
    rfl
  have l1 : ("[" : Str).length = 1 := rfl
  omega
theorem rows_text {B : List (List Int)} (h : ∀ r ∈ B, r.length ≤ 100 ∧ ∀ i ∈ r, Short i) (hl : B.length ≤ 100) : (rowsD B).shown.length ≤ sizeLine := by
  show (listText (PyData.shownAll (B.map rowD))).length ≤ sizeLine
  rw [shownAll_map]
  have := listText_le (B := 60000) (ts := B.map fun x => (rowD x).shown) fun t ht => by
    obtain ⟨x, hx, rfl⟩ := List.mem_map.mp ht
    exact row_text (h x hx).2 (h x hx).1
  rw [List.length_map] at this
  have h2 : B.length * (60000 + 2) ≤ 100 * 60002 := Nat.mul_le_mul_right _ hl
  rw [sizeLine_eq]
  omega
/-- repr of a list of tuples of ints -/
theorem LsAt.repr {K : PySem.W.Frag} {H : Hp} {a : Addr} {B : List (List Int)} {Q : VK} (h : LsAt H a B) (hb : ∀ r ∈ B, r.length ≤ 100 ∧ ∀ i ∈ r, Short i) (hl : B.length ≤ 100) (q : Q (.str (rowsD B).shown) H) : rRepr K [.ref a] H Q := by
  refine ⟨a, rowsD B, rfl, h.dp, showR _ fun r hr => (hb r hr).2, noDictR _, ?_, rows_text hb hl, q⟩
  have := depthR B
  show PyData.depth (.list (B.map rowD)) ≤ 60
  simp only [PyData.depth]
  omega
end NH
set_option Elab.async false
set_option linter.all false
set_option maxRecDepth 100000
set_option maxHeartbeats 4000000
/-! calls by keywords alone, of one and of two parameters -/
namespace NH
open PySem PySem.Spec PyProof.Rows L2
def id1 {α : Type} : List α → List α → List α
  | [], [a] => [a]
  | _, _ => []
theorem id1_rel {vs : List V} {us : List Value} {zs : List V} {ws : List Value} (r1 : Vals vs us) (r2 : Vals zs ws) : Vals (id1 vs zs) (id1 us ws) := by
  cases r1 with
  | cons _ _ => exact .nil
  | nil =>
    cases r2 with
    | nil => exact .nil
    | cons a r2 =>
      cases r2 with
      | nil => exact .cons a .nil
      | cons _ _ => exact .nil
/-- two keywords, in the other order -/
def swap2 {α : Type} : List α → List α → List α
  | [], [m, t] => [t, m]
  | _, _ => []
theorem swap2_rel {vs : List V} {us : List Value} {zs : List V} {ws : List Value} (r1 : Vals vs us) (r2 : Vals zs ws) : Vals (swap2 vs zs) (swap2 us ws) := by
  cases r1 with
  | cons _ _ => exact .nil
  | nil =>
    cases r2 with
    | nil => exact .nil
    | cons a r2 =>
      cases r2 with
      | nil => exact .nil
      | cons b r2 =>
        cases r2 with
        | nil => exact .cons b (.cons a .nil)
        | cons _ _ => exact .nil
theorem kb1 {K : PySem.W.Frag} {x q p : Str} {st : Stmt} {f : Addr} {fd : FuncData} (F : Fun K x q st f fd)
    (hb : ∀ (kV doc pm : Value) (an : Option Addr) (cdv ct : Value) (s : Shared) (a : Value), BindsTo s (PySem.W.fnOf x q (defArgs st) (defBody st) (defScope st) .none kV doc pm an cdv ct) ⟨[], [(p, a)]⟩ [(p, a)]) : KBinds K fd [p] [p] id1 id1 := by
  obtain ⟨oc, od, kV, doc, pm, an, cdv, ct, osl, rfl, _⟩ := F.ex
  refine ⟨fun s us ws _ h => ?_, id1_rel⟩
  match us, ws, h with
  | [], [a], _ => exact hb _ _ _ _ _ _ s a
  | [], [], h => cases h
  | [], _ :: _ :: _, h => cases h
  | _ :: _, _, h => cases h
theorem kb2 {K : PySem.W.Frag} {x q p r : Str} {st : Stmt} {f : Addr} {fd : FuncData} (F : Fun K x q st f fd)
    (hb : ∀ (kV doc pm : Value) (an : Option Addr) (cdv ct : Value) (s : Shared) (m t : Value), BindsTo s (PySem.W.fnOf x q (defArgs st) (defBody st) (defScope st) .none kV doc pm an cdv ct) ⟨[], [(r, m), (p, t)]⟩ [(p, t), (r, m)]) : KBinds K fd [p, r] [r, p] swap2 swap2 := by
  obtain ⟨oc, od, kV, doc, pm, an, cdv, ct, osl, rfl, _⟩ := F.ex
  refine ⟨fun s us ws _ h => ?_, swap2_rel⟩
  match us, ws, h with
  | [], [m, t], _ => exact hb _ _ _ _ _ _ s m t
  | [], [], h => cases h
  | [], [_], h => cases h
  | [], _ :: _ :: _ :: _, h => cases h
  | _ :: _, _, h => cases h
end NH
set_option Elab.async false
set_option linter.all false
set_option maxRecDepth 100000
set_option maxHeartbeats 1000000
set_option exponentiation.threshold 100000
namespace NH
open PySem PySem.Spec PyProof.Rows L2 R1 ZN PK RS
theorem tval_perm (xs : List Int) (m : Nat) {A B : Ts} (h : A.Perm B) : GM.tval xs m A = GM.tval xs m B := by
  induction h with
  | nil => rfl
  | cons x _ ih => rw [GM.tval, GM.tval, ih]
  | swap x y l =>
    simp only [GM.tval]
    omega
  | trans _ _ ih1 ih2 => rw [ih1, ih2]
theorem tval_nz (xs : List Int) (m : Nat) (F : List Int × Int → List Int × Int) (hF : ∀ q, (F q).2 = q.2) : ∀ D : Ts, GM.tval xs m (D.map F) = GM.tval xs m ((D.filter fun q => decide (q.2 ≠ 0)).map F)
  | [] => rfl
  | q :: D => by
    rw [List.map_cons, GM.tval, tval_nz xs m F hF D, List.filter_cons]
    by_cases h : q.2 = 0
    · rw [if_neg (by simp [h]), hF, h, Int.zero_mul, Int.zero_add]
    · rw [if_pos (by simp [h]), List.map_cons, GM.tval]
theorem norm_perm2 {T D : Ts} (x : Norm T D) (hn : NodupK T) : D.Perm (T.filter fun q => decide (q.2 ≠ 0)) := by
  have nd2 : T.Nodup := List.Pairwise.imp (fun {a b} h e => h (by rw [e])) (List.pairwise_map.mp hn)
  have nd1 : D.Nodup := List.Pairwise.imp (fun {a b} (h : HT.lexLt a.1 b.1 = true) (e : a = b) => lex_ne h (by rw [e])) x.sorted
  refine (List.perm_ext_iff_of_nodup nd1 (nd2.filter _)).mpr fun q => ?_
  rw [x.mem, List.mem_filter, decide_eq_true_eq]
theorem tval_scale (xs : List Int) (m : Nat) {F G : List Int × Int → List Int × Int} {a b : Int} : ∀ {D : Ts}, (∀ q ∈ D, (F q).2 * GM.mono xs m (F q).1 * a = (G q).2 * GM.mono xs m (G q).1 * b) → GM.tval xs m (D.map F) * a = GM.tval xs m (D.map G) * b
  | [], _ => by simp [GM.tval]
  | q :: D, h => by
    have h1 := h q List.mem_cons_self
    have ih := tval_scale xs m (D := D) fun q hq => h q (List.mem_cons_of_mem _ hq)
    rw [List.map_cons, List.map_cons, GM.tval, GM.tval, Int.add_mul, Int.add_mul, h1, ih]
/-- the law's worth and the told one -/
theorem worth_eq {D E : Ts} {m : Nat} {xs ms : List Int} {a b a2 b2 : Int} (hn : NodupK D) (hl : ∀ q ∈ D, q.1.length = m) (hb : Bnds D) (x : Norm D E) (hxl : xs.length = m) (hx : ∀ y ∈ xs, y ≠ 0) (hI : IsLeast E m ms)
    (h1 : GM.IsLow (GM.tval xs m (D.map (more (tw m)))) (GM.mono xs m (tw m)) a b) (h2 : GM.IsLow (GM.tval xs m (E.map (more (ms.map miss)))) (GM.mono xs m (ms.map miss)) a2 b2) : a = a2 ∧ b = b2 := by
  have hne : ∀ p, GM.mono xs m p ≠ 0 := fun p => GM.mono_ne fun j hj => by
    rw [List.getD_eq_getElem?_getD, List.getElem?_eq_getElem (by omega)]
    exact hx _ (List.getElem_mem _)
  have hG : Good m E := x.good hl
  have hbE : Bnds E := ⟨fun q hq => hb.b q ((x.mem q).mp hq).1⟩
  have ok := tmok_of hG hI hbE
  have ml : (ms.map miss).length = m := by rw [List.length_map]; exact hI.1
  refine GM.IsLow.uniq h1 h2 (hne _) (hne _) ?_
  rw [tval_nz xs m (more (tw m)) (fun q => rfl) D, tval_perm xs m ((norm_perm2 x hn).symm.map (more (tw m)))]
  refine tval_scale xs m fun q hq => ?_
  have hq1 : q.1.length = m := hl q ((x.mem q).mp hq).1
  have e1 : ∀ j, j < m → (more (tw m) q).1.getD j 0 = q.1.getD j 0 + 12 := fun j hj => by rw [more_at hq1 (tw_len m) hj, tw_at hj]
  have e2 : ∀ j, j < m → (more (ms.map miss) q).1.getD j 0 = q.1.getD j 0 + (ms.map miss).getD j 0 := fun j hj => more_at hq1 ml hj
  have e3 : ∀ j, j < m → (more (ms.map miss) (more (tw m) q)).1.getD j 0 = q.1.getD j 0 + 12 + (ms.map miss).getD j 0 := fun j hj => by rw [more_at (by rw [more_len hq1 (tw_len m)]) ml hj, e1 j hj]
  have g1 : GM.mono xs m (more (ms.map miss) (more (tw m) q)).1 = GM.mono xs m (more (tw m) q).1 * GM.mono xs m (ms.map miss) := GM.mono_add fun j hj => by
    have := hbE.at hq j
    have h3 := miss_small hI hbE hj
    rw [e1 j hj, e3 j hj]
    omega
  have g2 : GM.mono xs m (more (ms.map miss) (more (tw m) q)).1 = GM.mono xs m (more (ms.map miss) q).1 * GM.mono xs m (tw m) := GM.mono_add fun j hj => by
    have h3 := ok.1 _ (List.mem_map_of_mem (f := more (ms.map miss)) hq) j hj
    rw [e2 j hj] at h3
    rw [e2 j hj, e3 j hj, tw_at hj]
    omega
  show q.2 * _ * _ = q.2 * _ * _
  rw [Int.mul_assoc, Int.mul_assoc, ← g1, ← g2]
def trD (q : List Int × Int) : PyData := .tuple [rowD q.1, .int q.2]
def smD (D : Ts) : PyData := .tuple (D.map trD)
theorem canLayT : ∀ D : Ts, PyData.canLayAll0 (D.map trD) = true
  | [] => rfl
  | q :: D => by simp [PyData.canLayAll0, PyData.canLay0, trD, rowD, canLayT D, canLayI]
theorem depthT : ∀ D : Ts, PyData.depthAll (D.map trD) ≤ 5
  | [] => by simp [PyData.depthAll]
  | q :: D => by
    have h1 := depthT D
    have h2 := depthI q.1
    simp [PyData.depthAll, PyData.depth, trD, rowD]
    omega
theorem shapedS (D : Ts) : SeqAt.shaped (smD D) = true := by
  have := depthT D
  simp [SeqAt.shaped, smD, PyData.canLay0, canLayT, PyData.depth]
  omega
theorem dpT {K : PySem.W.Frag} {H : Hp} : ∀ {L : List Trm}, RowsOk H L → DpAll K H (L.map Trm.v) ((L.map Trm.d).map trD)
  | [], _ => .nil
  | r :: L, h => .cons (.tup (sqtOf (h r List.mem_cons_self).1) (.cons (.tup (sqtOf (h r List.mem_cons_self).2) (dpI _)) (.cons (.int _) .nil))) (dpT fun y hy => h y (List.mem_cons_of_mem _ hy))
theorem eqD_sum0 {K : PySem.W.Frag} {H : Hp} {t b : Addr} {L : List Trm} {Q : VK} (hA : SumAt H t L) (hB : H b = some (.tup [])) (q : Q (.bl L.isEmpty) H) : rEqD K (.ref t) (.ref b) H Q := by
  refine ⟨smD (L.map Trm.d), rowD [], .tup (sqtOf hA.at_) (dpT hA.rows), .tup (sqtOf hB) .nil, shapedS _, shapedRow _, ?_⟩
  cases L with
  | nil => exact q
  | cons r L => exact q
end NH
set_option Elab.async false
set_option linter.all false
set_option maxRecDepth 100000
set_option maxHeartbeats 1000000
set_option exponentiation.threshold 100000
namespace NH
open PySem PySem.Spec PyProof.Rows L2 R1 ZN PK RS
theorem tNil_ap {σ : L2.St} {H : Hp} {R : List V → Hp → Prop} (h : R [] H) : tNil σ H R := h
section
variable {P : Program} {w : World} {K : PySem.W.Frag} {mg : Str → Option Value} {base : Heap} {f : Nat → Addr} {d : Nat → FuncData}
theorem kb_value (D : Defs K mg f d) : KBinds K (d i_value) ["one", "numbers"] ["numbers", "one"] swap2 swap2 := kb2 D.F_value fun _ _ _ _ _ _ _ _ _ => BindsTo.of_eq rfl
theorem two_sm {H : Hp} {p q : Addr} {a b : Int} (h1 : H p = some (.tup [.int a, .int b])) (h2 : H q = some (.tup [.int a, .int b])) : Sm H 1 (.ref p) (.ref q) := .tup h1 h2 rfl (show 2 ≤ 1000 by decide) fun j x y ex ey => by
  match j, ex, ey with
  | 0, ex, ey => cases ex; cases ey; exact .int a
  | 1, ex, ey => cases ex; cases ey; exact .int b
  | j + 2, ex, ey => simp at ex
theorem vo_use {H : Hp} {t nl : Addr} {m : Nat} {L : List Trm} {xs : List Int} {Q : VK} {E : XK} (hS : SumAt H t L) (hL : L.length ≤ 500) (hG : Good m (L.map Trm.d)) (hm0 : 0 < m) (hm6 : m ≤ 6) (hnl : H nl = some (.lst (xs.map V.int))) (hxl : xs.length = m) (hx : Nums xs) (hb : Bnds (L.map Trm.d))
    (q : ∀ H' (z : Addr), Same H H' → ((L = [] ∧ H' z = some (.tup [.int 0, .int 1])) ∨ (L ≠ [] ∧ ∃ (a b : Int) (ms : List Int), IsLeast (L.map Trm.d) m ms ∧ GM.IsLow (GM.tval xs m ((L.map Trm.d).map (more (ms.map miss)))) (GM.mono xs m (ms.map miss)) a b ∧ H' z = some (.tup [.int a, .int b]))) → Q (.ref z) H') : spVo [.ref t, .ref nl] H Q E :=
  ⟨t, nl, m, L, xs, rfl, hS, hL, hG, hm0, hm6, hnl, fun _ => hxl, hx, hb, fun H' z s e h => q H' z s (.inl ⟨e, h⟩), fun H' z a b ms s e h1 h2 h3 => q H' z s (.inr ⟨e, a, b, ms, h1, h2, h3⟩)⟩
def spTold : Sp := fun vs H Q _ => ∃ (e nl : Addr) (m : Nat) (D : Ts) (xs : List Int), vs = [.ref e, .ref nl] ∧ DictAt H e m D ∧ Bnds D ∧ D.length ≤ 400 ∧ 0 < m ∧ m ≤ 6 ∧ H nl = some (.lst (xs.map V.int)) ∧ xs.length = m ∧ Nums xs ∧ ∀ H', Same H H' → Q (.bl true) H'
theorem ok_told {k : Nat} (D : Defs K mg f d) (gG : mg "gcd" = some (.builtin "math.gcd")) : FnOk P w K mg base CX0 (k + 12) (f i__law_is_told) (d i__law_is_told) ["_law_terms_here", "_law_numbers_here"] spTold := by
  have G_value : FnOk P w K mg base CX0 (k + 11) (f i_value) (d i_value) ["one", "numbers"] spVo := ok_value D gG
  have G__law_same : FnOk P w K mg base CX0 (k + 11) (f i__law_same) (d i__law_same) ["_law_told", "_law_due"] (spSame 2) := (ok_same (k := 0) D.F__law_same D.b__law_same D.g__law_same D.z_isinstance D.z_bool D.z_int D.z_str D.z_list D.z_tuple D.z_len D.z_zip 2).mono (by omega)
  have G__law_written : FnOk P w K mg base CX0 (k + 11) (f i__law_written) (d i__law_written) ["_law_terms_here"] spWritten := (ok_written (k := 0) D.F__law_written D.z_tuple D.z_sorted).mono (by omega)
  have G__law_worth : FnOk P w K mg base CX0 (k + 11) (f i__law_worth) (d i__law_worth) ["_law_terms_here", "_law_numbers_here"] spWorth := (ok_worth (k := 0) D).mono (by omega)
  refine D.F__law_is_told.ok sc__law_is_told (fun vs H Q E h => ?_) (fun cdv A outer s H vs Q E hr h => ?_)
  · obtain ⟨e, nl, m, T, xs, rfl, _⟩ := h
    rfl
  · obtain ⟨e, nl, m, T, xs, rfl, hT, hB, hTl, hm0, hm6, hnl, hxl, hx, q⟩ := h
    have nd := sc__law_is_told.nd
    refine ⟨_, pss_cons (ps_par (i := 2) (j := 3) (by rfl) nd rfl rfl (by decide) rfl rfl (pa_cons (pe_call G__law_written hr (by rfl) D.g__law_written D.F__law_written.kp D.b__law_written .nil pass0 (pa_cons (pv 0) pa_nil)) (pa_cons (pe_callTy call_list_of (by rfl) D.z_list (by decide +kernel) (pa_cons (pv 1) pa_nil)) pa_nil)) (by rfl))
      (pss_cons (ps_set (i := 4) nd rfl (.inl rfl) (pe_call G__law_worth hr (by rfl) D.g__law_worth D.F__law_worth.kp D.b__law_worth .nil pass0 (pa_cons (pv 0) (pa_cons (pv 1) pa_nil))))
      (Evl.pss_cut (ps_if (pt_cmpR (op_eqD hr.units) (pv 2) (pe_tup pa_nil) (nomark _))
        (pss_one (ps_set (i := 4) nd rfl (.inl rfl) (pe_tup (pa_cons pe_int (pa_cons pe_int pa_nil)))))
        pss_nil)
      (pss_cons (ps_if (PW.pt (pw_or (pt_not (pt_val (pe_call G__law_same hr (by rfl) D.g__law_same D.F__law_same.kp D.b__law_same .nil pass0 (pa_cons (pe_call G_value hr (by rfl) D.g_value D.F_value.kp D.b_value .nil pass0 (pa_cons (pv 2) (pa_cons (pv 3) pa_nil))) (pa_cons (pv 4) pa_nil))))) (pw_or1 (pt_not (pt_val (pe_call G__law_same hr (by rfl) D.g__law_same D.F__law_same.kp D.b__law_same .nil pass0 (pa_cons (pe_callK0 G_value hr (by rfl) D.g_value D.F_value.kp (kb_value D) pass0 (pk_cons (pv 3) (pk_cons (pv 2) pk_nil))) (pa_cons (pv 4) pa_nil))))))))
        pss_never
        pss_nil)
      (pss_one (ps_ret (pe_cmpR (op_eqD hr.units) (pv 3) (pv 1) (nomark _))))))), ?_⟩
    refine ⟨.ref e, rfl, e, m, T, rfl, hT, by omega, by omega, fun H1 o L s1 no hS hN hLl => ?_⟩
    have hG : Good m (L.map Trm.d) := hN.good hT.len
    have hl1 := s1 _ _ hnl
    refine ⟨.ref nl, rfl, nl, _, rfl, .inl (sqlOf hl1), fun g ng => ⟨_, _, rfl, ?_⟩⟩
    have s2 := same_new (o := .lst (xs.map V.int)) ng
    have hg2 : upd H1 g (.lst (xs.map V.int)) g = some (.lst (xs.map V.int)) := upd_same
    generalize upd H1 g (.lst (xs.map V.int)) = H2 at s2 hg2
    have s12 := s1.trans s2
    refine ⟨.ref e, rfl, .ref nl, rfl, e, nl, m, T, xs, rfl, hT.same s12, hB, by omega, hm6, s12 _ _ hnl, hxl, hx, fun H3 z a b s3 nz lo hz => ?_⟩
    have s13 := s12.trans s3
    have hS3 := (hS.same s2).same s3
    have hg3 := s3 _ _ hg2
    refine ⟨fun σ' H' => ∃ y : Addr, σ' = [some (.ref e), some (.ref nl), some (.ref o), some (.ref g), some (.ref y)] ∧ Same H3 H' ∧ (L = [] → H' y = some (.tup [.int 0, .int 1])) ∧ (L ≠ [] → H' y = some (.tup [.int a, .int b])), ?_, ?_⟩
    · refine ⟨.ref o, rfl, Nat.zero_le _, fun u nu => eqD_sum0 (hS3.same (same_new nu)) upd_same ?_⟩
      have su := same_new (o := .tup ([] : List V)) nu
      generalize upd H3 u (.tup ([] : List V)) = H4 at su
      refine ⟨_, rfl, ite2 (fun he => ?_) (fun he => ?_)⟩
      · have eL : L = [] := List.isEmpty_iff.mp he
        refine ⟨two_ok, fun y ny => ?_⟩
        exact ⟨y, rfl, su.trans (same_new ny), fun _ => upd_same, fun h => absurd eL h⟩
      · have eL : L ≠ [] := fun h => he (List.isEmpty_iff.mpr h)
        exact ⟨z, rfl, su, fun h => absurd h eL, fun _ => su _ _ hz⟩
    · rintro σ' H4 ⟨y, rfl, s4, hy0, hy1⟩
      have hS4 := hS3.same s4
      have hg4 := s4 _ _ hg3
      have s14 := s13.trans s4
      have hbE : Bnds (L.map Trm.d) := ⟨fun q hq => hB.b q ((hN.mem q).mp hq).1⟩
      have good : ∀ (H5 : Hp) (z5 : Addr), Same H4 H5 → ((L = [] ∧ H5 z5 = some (.tup [.int 0, .int 1])) ∨ (L ≠ [] ∧ ∃ (a b : Int) (ms : List Int), IsLeast (L.map Trm.d) m ms ∧ GM.IsLow (GM.tval xs m ((L.map Trm.d).map (more (ms.map miss)))) (GM.mono xs m (ms.map miss)) a b ∧ H5 z5 = some (.tup [.int a, .int b]))) → Sm H5 1 (.ref z5) (.ref y) := fun H5 z5 s5 h => by
        rcases h with ⟨e0, h⟩ | ⟨e0, a2, b2, ms, hI, lo2, hz5⟩
        · exact two_sm h (s5 _ _ (hy0 e0))
        · obtain ⟨rfl, rfl⟩ := worth_eq hT.nodup hT.len hB hN hxl (fun y hy => (hx y hy).1) hI lo lo2
          exact two_sm hz5 (s5 _ _ (hy1 e0))
      refine ⟨.ref o, rfl, .ref g, rfl, tNil_ap (vo_use hS4 (by omega) hG hm0 hm6 hg4 hxl hx hbE fun H5 z5 s5 h5 => ?_)⟩
      refine ⟨.ref y, rfl, _, _, rfl, good H5 z5 s5 h5, fun H6 s6 => ⟨true, rfl, iteF ?_⟩⟩
      have s46 := s5.trans s6
      refine ⟨.ref g, rfl, .ref o, rfl, tNil_ap (vo_use (hS4.same s46) (by omega) hG hm0 hm6 (s46 _ _ hg4) hxl hx hbE fun H7 z7 s7 h7 => ?_)⟩
      refine ⟨.ref y, rfl, _, _, rfl, good H7 z7 (s46.trans s7) h7, fun H8 s8 => ⟨true, rfl, iteF ?_⟩⟩
      have s48 := (s46.trans s7).trans s8
      refine ⟨.ref g, rfl, .ref nl, rfl, intsD xs, intsD xs, dpL (s48 _ _ hg4), dpL (s48 _ _ (s14 _ _ hnl)), shapedL _, shapedL _, ?_⟩
      rw [eqvL]
      exact q _ (s14.trans s48)
end
end NH
set_option Elab.async false
set_option linter.all false
set_option maxRecDepth 100000
set_option maxHeartbeats 2000000
set_option exponentiation.threshold 100000
namespace NH
open PySem PySem.Spec PyProof.Rows L2 R1 ZN PK RS
theorem three_ok {a b c : V} : [a, b, c].length ≤ sizeLine := by
  show 3 ≤ sizeLine
  rw [sizeLine_eq]
  decide
theorem SqL.same' {K : PySem.W.Frag} {H H' : Hp} {a : Addr} {xs : List V} (h : H a = some (.lst xs)) (s : Same H H') : SqL K H' a xs := sqlOf (s _ _ h)
section
variable {P : Program} {w : World} {K : PySem.W.Frag} {mg : Str → Option Value} {base : Heap} {f : Nat → Addr} {d : Nat → FuncData}
/-- a sum and numbers, as they stand in the law -/
structure Case (H : Hp) (a c : Addr) (n m : Nat) (e nl : Addr) (T : Ts) (xs : List Int) : Prop where
  st : Stock H a c n
  dict : DictAt H e m T
  bnd : Bnds T
  few : T.length ≤ 10
  num : H nl = some (.lst (xs.map V.int))
  len : xs.length = m
  nums : Nums xs
theorem Case.more {H : Hp} {a c e nl : Addr} {n n' m : Nat} {T : Ts} {xs : List Int} (h : Case H a c n m e nl T xs) (l : n ≤ n') : Case H a c n' m e nl T xs := ⟨h.st.more l, h.dict, h.bnd, h.few, h.num, h.len, h.nums⟩
theorem Case.same {H H' : Hp} {a c e nl : Addr} {n m : Nat} {T : Ts} {xs : List Int} (h : Case H a c n m e nl T xs) (s : Same H H') : Case H' a c n m e nl T xs := ⟨h.st.same s, h.dict.same s, h.bnd, h.few, s _ _ h.num, h.len, h.nums⟩
theorem stock_dict {H : Hp} {a c e : Addr} {n : Nat} {ks : List (List Key × V)} (S : Stock H a c n) (h : H e = some (.dT ks)) : e ≠ a ∧ e ≠ c := by
  obtain ⟨ne, cs, x, y, z, h1, h2, _⟩ := S
  exact ⟨ne_of h h1 (by intro z; cases z), ne_of h h2 (by intro z; cases z)⟩
def Mid (sc a c : Addr) (i m : Nat) (w : Int) (N : Nat) (σ : L2.St) (H : Hp) : Prop := ∃ (y5 y6 y9 : Option V) (e nl : Addr) (T : Ts) (xs : List Int), σ = [some (.ref sc), some (.ref a), some (.int ((0 : Int) + (i : Nat))), some (.int m), some (.int w), y5, y6, some (.ref e), some (.ref nl), y9, none, none] ∧ Case H a c (1000 * i + N) m e nl T xs
theorem flat_rep (m : Nat) (x : Int) : (List.replicate (m : Int).toNat [V.int x]).flatten = ((List.replicate m x).map V.int) := by
  rw [show (m : Int).toNat = m by omega]
  induction m with
  | zero => rfl
  | succ m ih => rw [List.replicate_succ, List.flatten_cons, ih, List.replicate_succ, List.map_cons]; rfl
def spLaw (K : PySem.W.Frag) : Sp := fun vs H Q _ => ∃ (a : Addr) (ns : List Int), vs = [.ref a] ∧ SqL K H a (ns.map V.int) ∧ ns.length ≤ 63 ∧ (∀ z ∈ ns, Builtin.Int.intBits z ≤ 1048576) ∧ ∀ H', Q (.bl true) H'
theorem ok_law {fA : Addr} {fd : FuncData} (F : Fun K "law" "law" s_law fA fd) (D : Defs K mg f d) (gG : mg "gcd" = some (.builtin "math.gcd")) : FnOk P w K mg base CX0 13 fA fd ["_law_script"] (spLaw K) := by
  have G__law_stock : FnOk P w K mg base CX0 12 (f i__law_stock) (d i__law_stock) ["_law_script"] (spStock K) := (ok_stock (k := 0) D.F__law_stock D.z_int).mono (by omega)
  have G__law_pick : FnOk P w K mg base CX0 12 (f i__law_pick) (d i__law_pick) ["_law_stock_here", "_law_limit"] spPick := (ok_pick (k := 0) D.F__law_pick D.z_int).mono (by omega)
  have G__law_terms : FnOk P w K mg base CX0 12 (f i__law_terms) (d i__law_terms) ["_law_stock_here", "_law_many", "_law_most", "_law_span", "_law_great"] spTerms := (ok_terms (k := 0) D.F__law_terms D.F__law_pick D.b__law_pick D.g__law_pick D.F__law_wide D.b__law_wide D.g__law_wide D.z_int D.z_range D.z_tuple).mono (by omega)
  have G__law_numbers : FnOk P w K mg base CX0 12 (f i__law_numbers) (d i__law_numbers) ["_law_stock_here", "_law_many"] spNumbers := (ok_numbers (k := 0) D).mono (by omega)
  have G__law_balanced : FnOk P w K mg base CX0 12 (f i__law_balanced) (d i__law_balanced) ["_law_stock_here", "_law_many", "_law_more"] spBal := (ok_bal (k := 0) D).mono (by omega)
  have G__law_long : FnOk P w K mg base CX0 12 (f i__law_long) (d i__law_long) ["_law_stock_here", "_law_many"] spLong := (ok_long (k := 0) D).mono (by omega)
  have G__law_is_told : FnOk P w K mg base CX0 12 (f i__law_is_told) (d i__law_is_told) ["_law_terms_here", "_law_numbers_here"] spTold := ok_told (k := 0) D gG
  refine F.ok sc_law (fun vs H Q E h => ?_) (fun cdv A outer s H vs Q E hr h => ?_)
  · obtain ⟨a, ns, rfl, _⟩ := h
    rfl
  · obtain ⟨sc, ns, rfl, hsc, hns, hbits, q⟩ := h
    have nd := sc_law.nd
    have hu := hu_of hr
    refine ⟨_, pss_cons (ps_set (i := 1) nd rfl (.inr rfl) (pe_call G__law_stock hr (by rfl) D.g__law_stock D.F__law_stock.kp D.b__law_stock .nil pass0 (pa_cons (pv 0) pa_nil)))
      (pss_cons (ps_for PassesOwn.never rfl (pi_range1 (by rfl) D.z_range (pa_cons pe_int pa_nil)) (pg_name (i := 2) nd rfl (.inl rfl))
        (pss_cons (ps_par (i := 3) (j := 4) (by rfl) nd rfl rfl (by decide) rfl rfl (pa_cons (pe_op op_add pe_int (pe_call G__law_pick hr (by rfl) D.g__law_pick D.F__law_pick.kp D.b__law_pick .nil pass0 (pa_cons (pv 1) (pa_cons pe_int pa_nil)))) (pa_cons (pe_call G__law_pick hr (by rfl) D.g__law_pick D.F__law_pick.kp D.b__law_pick .nil pass0 (pa_cons (pv 1) (pa_cons pe_int pa_nil))) pa_nil)) (by rfl))
          (pss_cons (ps_par (i := 5) (j := 6) (by rfl) nd rfl rfl (by decide) rfl rfl (pa_cons (pe_ix ix_list (pe_lst (pa_cons pe_int (pa_cons pe_int (pa_cons pe_int (pa_cons pe_int pa_nil))))) (pe_call G__law_pick hr (by rfl) D.g__law_pick D.F__law_pick.kp D.b__law_pick .nil pass0 (pa_cons (pv 1) (pa_cons pe_int pa_nil))) (fun _ _ => rfl)) (pa_cons (pe_ix ix_list (pe_lst (pa_cons pe_int (pa_cons (pe_op op_sub (pe_op op_powX pe_int pe_int) pe_int) (pa_cons pe_int pa_nil)))) (pe_call G__law_pick hr (by rfl) D.g__law_pick D.F__law_pick.kp D.b__law_pick .nil pass0 (pa_cons (pv 1) (pa_cons pe_int pa_nil))) (fun _ _ => rfl)) pa_nil)) (by rfl))
          (pss_cons (ps_par (i := 7) (j := 8) (by rfl) nd rfl rfl (by decide) rfl rfl (pa_cons (pe_call G__law_terms hr (by rfl) D.g__law_terms D.F__law_terms.kp D.b__law_terms .nil pass0 (pa_cons (pv 1) (pa_cons (pv 3) (pa_cons pe_int (pa_cons (pv 5) (pa_cons (pv 6) pa_nil)))))) (pa_cons (pe_call G__law_numbers hr (by rfl) D.g__law_numbers D.F__law_numbers.kp D.b__law_numbers .nil pass0 (pa_cons (pv 1) (pa_cons (pv 3) pa_nil))) pa_nil)) (by rfl))
          (Evl.pss_cut (ps_if (pt_cmpR op_eq (pv 4) pe_int (nomark _))
            (pss_one (ps_setLc (i := 8) (own := [("_law_j", 10)]) (g := gName 10) (by rfl) nd rfl rfl (sw_true rfl rfl rfl (by decide +kernel)) (pi_range1 (by rfl) D.z_range (pa_cons (pv 3) pa_nil)) (blkOk_by (own := [("_law_j", 10)]) (N := N_law) (sc := defScope s_law) (by decide +kernel))
          (fun _ _ _ _ _ => pg_name (i := 10) nd rfl (.inl rfl)) (fun _ _ _ _ _ => pts_nil) (fun _ _ _ _ _ => pe_op op_sub pe_int (pe_op op_mulX pe_int (pe_call G__law_pick hr (by rfl) D.g__law_pick D.F__law_pick.kp D.b__law_pick .nil pass0 (pa_cons (pv 1) (pa_cons pe_int pa_nil)))))))
            pss_nil)
          (Evl.pss_cut (ps_if (pt_cmpR op_eq (pv 4) pe_int (nomark _))
            (pss_one (ps_set (i := 8) nd rfl (.inl rfl) (pe_op op_rep (pe_lst (pa_cons (pe_ix ix_list (pv 8) pe_int (fun _ _ => rfl)) pa_nil)) (pv 3))))
            pss_nil)
          (Evl.pss_cut (ps_if (pt_cmpR op_eq (pv 4) pe_int (nomark _))
            (pss_one (ps_asg (pe_call G__law_balanced hr (by rfl) D.g__law_balanced D.F__law_balanced.kp D.b__law_balanced .nil pass0 (pa_cons (pv 1) (pa_cons (pv 3) (pa_cons (pe_call G__law_pick hr (by rfl) D.g__law_pick D.F__law_pick.kp D.b__law_pick .nil pass0 (pa_cons (pv 1) (pa_cons pe_int pa_nil))) pa_nil)))) (pg_tup rfl (pgs_cons (pg_name (i := 7) nd rfl (.inl rfl)) (pgs_cons (pg_name (i := 8) nd rfl (.inl rfl)) pgs_nil)))))
            pss_nil)
          (pss_one (ps_for PassesOwn.never rfl (pi_list (pe_lst (pa_cons (pv 8) (pa_cons (pe_lc (own := [("_law_number", 11)]) (g := gName 11) (by rfl) nd (pi_list (pv 8)) (blkOk_by (own := [("_law_number", 11)]) (N := N_law) (sc := defScope s_law) (by decide +kernel))
          (fun _ _ _ _ _ => pg_name (i := 11) nd rfl (.inl rfl)) (fun _ _ _ _ _ => pts_nil) (fun _ _ _ _ _ => pe_op op_sub pe_int (pv 11))) (pa_cons (pe_revL (pv 8)) pa_nil))))) (pg_name (i := 9) nd rfl (.inl rfl))
            (pss_one (ps_if (pt_not (pt_val (pe_call G__law_is_told hr (by rfl) D.g__law_is_told D.F__law_is_told.kp D.b__law_is_told .nil pass0 (pa_cons (pv 7) (pa_cons (pv 9) pa_nil)))))
                pss_never
                pss_nil)))))))))))
      (pss_cons (ps_set (i := 3) nd rfl (.inl rfl) (pe_op op_add pe_int (pe_call G__law_pick hr (by rfl) D.g__law_pick D.F__law_pick.kp D.b__law_pick .nil pass0 (pa_cons (pv 1) (pa_cons pe_int pa_nil)))))
      (pss_one (ps_ret (pe_call G__law_is_told hr (by rfl) D.g__law_is_told D.F__law_is_told.kp D.b__law_is_told .nil pass0 (pa_cons (pe_call G__law_long hr (by rfl) D.g__law_long D.F__law_long.kp D.b__law_long .nil pass0 (pa_cons (pv 1) (pa_cons (pv 3) pa_nil))) (pa_cons (pe_lc (own := [("_law_j", 10)]) (g := gName 10) (by rfl) nd (pi_range1 (by rfl) D.z_range (pa_cons (pv 3) pa_nil)) (blkOk_by (own := [("_law_j", 10)]) (N := N_law) (sc := defScope s_law) (by decide +kernel))
          (fun _ _ _ _ _ => pg_name (i := 10) nd rfl (.inl rfl)) (fun _ _ _ _ _ => pts_nil) (fun _ _ _ _ _ => pe_ix (r := rIxL K) ix_list (pe_lst (pa_cons pe_int (pa_cons (pe_un un_neg pe_int) (pa_cons pe_int pa_nil)))) (pv 10) (fun _ _ => rfl))) pa_nil))))))), ?_⟩
    refine ⟨.ref sc, rfl, sc, ns, rfl, hsc, hns, fun H1 a c S1 s1 => ?_⟩
    refine ⟨8, rfl, by decide, by decide, for_range (n := 8) (fun i σ H' => ∃ (y2 y3 y4 y5 y6 y7 y8 y9 : Option V), σ = [some (.ref sc), some (.ref a), y2, y3, y4, y5, y6, y7, y8, y9, none, none] ∧ Stock H' a c (1000 * i))
      ⟨none, none, none, none, none, none, none, none, rfl, S1⟩ (fun i σ H' hi h => ?_) (fun σ H' h => ?_)⟩
    · obtain ⟨y2, y3, y4, y5, y6, y7, y8, y9, rfl, S⟩ := h
      refine ⟨.ref a, rfl, a, c, _, 5, rfl, S, by omega, by decide, by decide, fun H2 r2 S2 k2 p20 p21 => ?_⟩
      refine ⟨_, _, rfl, rfl, .ref a, rfl, a, c, _, 6, rfl, S2, by omega, by decide, by decide, fun H3 r3 S3 k3 p30 p31 => ⟨_, _, rfl, ?_⟩⟩
      obtain ⟨m, hm⟩ : ∃ m : Nat, (1 + r2 : Int) = m := ⟨(1 + r2).toNat, by omega⟩
      dsimp only
      rw [hm]
      refine ⟨four_ok, fun p np => ?_⟩
      have ap := S3.fresh np
      have S4 := S3.new (o := .lst [V.int 1, .int 12, .int 2, .int 4]) np
      have hp : upd H3 p (.lst [V.int 1, .int 12, .int 2, .int 4]) p = some (.lst [V.int 1, .int 12, .int 2, .int 4]) := upd_same
      generalize upd H3 p (.lst [V.int 1, .int 12, .int 2, .int 4]) = H4 at S4 hp
      refine ⟨.ref a, rfl, a, c, _, 4, rfl, S4, by omega, by decide, by decide, fun H5 r5 S5 k5 p50 p51 => ?_⟩
      obtain ⟨sp, hsp, hsp4⟩ := pick4 (x := 1) (y := 12) (z := 2) (u := 4) p50 p51
      refine ⟨p, _, r5, .int sp, rfl, rfl, sqlOf (k5 p _ ap.1 ap.2 hp), hsp, ?_⟩
      refine ⟨_, _, rfl, rfl, powx (a := 4) (by decide) (by decide) (by decide) (by decide), ?_⟩
      dsimp only
      rw [ten30]
      refine ⟨_, _, rfl, rfl, three_ok, fun p2 np2 => ?_⟩
      have ap2 := S5.fresh np2
      have S6 := S5.new (o := .lst [V.int 2, .int (1000000000000000000000000000000 - 1), .int 12]) np2
      have hp2 : upd H5 p2 (.lst [V.int 2, .int (1000000000000000000000000000000 - 1), .int 12]) p2 = some (.lst [V.int 2, .int (1000000000000000000000000000000 - 1), .int 12]) := upd_same
      generalize upd H5 p2 (.lst [V.int 2, .int (1000000000000000000000000000000 - 1), .int 12]) = H6 at S6 hp2
      refine ⟨.ref a, rfl, a, c, _, 3, rfl, S6, by omega, by decide, by decide, fun H7 r7 S7 k7 p70 p71 => ?_⟩
      obtain ⟨g, hg, hg3⟩ := pick3 (x := 2) (y := 1000000000000000000000000000000 - 1) (z := 12) p70 p71
      refine ⟨p2, _, r7, .int g, rfl, rfl, sqlOf (k7 p2 _ ap2.1 ap2.2 hp2), hg, _, _, rfl, ?_⟩
      have hsb : 1 ≤ sp ∧ sp ≤ 12 := by rcases hsp4 with rfl | rfl | rfl | rfl <;> decide
      have hgb : 1 ≤ g ∧ g ≤ 2 ^ 120 := by rcases hg3 with rfl | rfl | rfl <;> decide
      refine ⟨.ref a, rfl, .int m, rfl, .int sp, rfl, .int g, rfl, a, c, _, m, 8, sp, g, rfl, S7, by omega, by omega, by omega, by decide, hsb.1, hsb.2, hgb.1, hgb.2, fun H8 e T S8 k8 ne8 hT hB hTl => ?_⟩
      have ae := S7.fresh ne8
      refine ⟨.ref a, rfl, .int m, rfl, a, c, _, m, rfl, S8, by omega, by omega, fun H9 nl xs S9 k9 nl9 hxs hxl hx => ⟨_, _, rfl, ?_⟩⟩
      have hgs : g.natAbs < 2 ^ 300 := by
        have : (2 : Nat) ^ 120 < 2 ^ 300 := by decide
        omega
      have C9 : Case H9 a c (1000 * i + 400) m e nl T xs := ⟨S9.more (by omega), ⟨k9 e _ ae.1 ae.2 hT.at_, hT.nodup, hT.len⟩, hB.bnds hgs hsb.2, by omega, hxs, hxl, hx⟩
      refine ⟨Mid sc a c i m r3 410, ?_, fun σ' Ha h => ?_⟩
      · refine ⟨.int r3, rfl, rfl, _, rfl, ite2 (fun _ => ?_) (fun _ => ⟨_, _, _, e, nl, T, xs, rfl, C9.more (by omega)⟩)⟩
        have ad : e ≠ a ∧ e ≠ c := stock_dict C9.st C9.dict.at_
        refine ⟨.int m, rfl, m, rfl, by omega, by omega, fun l nl1 => ?_⟩
        have al := C9.st.fresh nl1
        have el : e ≠ l := ne_of_none C9.dict.at_ nl1
        refine lc_range (lo := 0) (n := m) (fun j H' => ∃ ws : List Int, ws.length = j ∧ Nums ws ∧ H' l = some (.lst (ws.map V.int)) ∧ Stock H' a c (1000 * i + 400 + j) ∧ H' e = some (dZ T))
          ⟨[], rfl, (fun x h => by cases h), upd_same, C9.st.new nl1, by rw [upd_ne el]; exact C9.dict.at_⟩ (fun j Hj hj h => ?_) (fun Hj h => ?_)
        · obtain ⟨ws, hwl, hw, hl, Sj, hd⟩ := h
          refine ⟨rfl, .ref a, rfl, a, c, _, 2, rfl, Sj, by omega, by decide, by decide, fun Hk rk Sk kk pk0 pk1 => ?_⟩
          have sg := sgn_pick pk0 pk1
          refine ⟨_, _, rfl, rfl, mulS (by decide) (by omega), _, _, rfl, rfl, _, kk l _ al.1 al.2 hl, by rw [List.length_map, sizeLine_eq]; omega, ws ++ [1 - 2 * rk], by rw [List.length_append, hwl]; rfl, hw.snoc (by rcases sg with e | e <;> rw [e] <;> decide) (by rcases sg with e | e <;> rw [e] <;> decide), by rw [upd_same, List.map_append]; rfl, Sk.put al, by rw [upd_ne el]; exact kk e _ ad.1 ad.2 hd⟩
        · obtain ⟨ws, hwl, hw, hl, Sj, hd⟩ := h
          exact ⟨_, _, _, e, l, T, ws, rfl, Sj.more (by omega), ⟨hd, C9.dict.nodup, C9.dict.len⟩, C9.bnd, C9.few, hl, hwl, hw⟩
      obtain ⟨y5, y6, y9, e, nl, T, xs, rfl, Ca⟩ := h
      refine ⟨Mid sc a c i m r3 420, ?_, fun σ' Hb h => ?_⟩
      · refine ⟨.int r3, rfl, rfl, _, rfl, ite2 (fun _ => ?_) (fun _ => ⟨_, _, _, e, nl, T, xs, rfl, Ca.more (by omega)⟩)⟩
        have hm1 : 1 ≤ m := by omega
        obtain ⟨x0, xt, ex⟩ : ∃ x0 xt, xs = x0 :: xt := by
          have := Ca.len
          cases xs with
          | nil => rw [List.length_nil] at this; omega
          | cons x0 xt => exact ⟨x0, xt, rfl⟩
        have hx0 := Ca.nums x0 (by rw [ex]; exact List.mem_cons_self)
        refine ⟨.ref nl, rfl, nl, _, 0, .int x0, rfl, rfl, sqlOf Ca.num, atI_nat (j := 0) (by rw [ex]; rfl), one1, fun l1 nl1 => ?_⟩
        have C1 := Ca.same (same_new (o := .lst [V.int x0]) nl1)
        have hl1 : upd Ha l1 (.lst [V.int x0]) l1 = some (.lst [V.int x0]) := upd_same
        generalize upd Ha l1 (.lst [V.int x0]) = Hd at C1 hl1
        refine ⟨.int m, rfl, l1, (m : Nat), [V.int x0], rfl, rfl, hl1, by omega, by omega, by rw [sizeLine_eq]; show 1 * (m : Int).toNat ≤ _; omega, fun l2 nl2 => ?_⟩
        rw [flat_rep]
        have C2 := C1.same (same_new (o := .lst ((List.replicate m x0).map V.int)) nl2)
        exact ⟨_, _, _, e, l2, T, List.replicate m x0, rfl, C2.st.more (by omega), C2.dict, C2.bnd, C2.few, upd_same, List.length_replicate, fun y hy => by rw [(List.mem_replicate.mp hy).2]; exact hx0⟩
      obtain ⟨y5, y6, y9, e, nl, T, xs, rfl, Cb⟩ := h
      refine ⟨Mid sc a c i m r3 900, ?_, fun σ' Hc h => ?_⟩
      · refine ⟨.int r3, rfl, rfl, _, rfl, ite2 (fun _ => ?_) (fun _ => ⟨_, _, _, e, nl, T, xs, rfl, Cb.more (by omega)⟩)⟩
        refine ⟨.ref a, rfl, .int m, rfl, .ref a, rfl, a, c, _, 3, rfl, Cb.st, by omega, by decide, by decide, fun Hd rd Sd kd pd0 pd1 => ?_⟩
        refine ⟨a, c, _, m, rd, rfl, Sd, by omega, by omega, by omega, pd0, pd1, fun He z e2 l2 D2 ys Se ke e20 l20 hD2 bD2 lD2 hl2 hyl hy hz => ?_⟩
        exact ⟨z, _, rfl, sqtOf hz, rfl, _, _, rfl, _, _, rfl, rfl, _, _, _, e2, l2, D2, ys, rfl, Se.more (by omega), hD2, bD2, lD2, hl2, hyl, hy⟩
      obtain ⟨y5, y6, y9, e, nl, T, xs, rfl, Cc⟩ := h
      have hl1 : xs.length = m := Cc.len
      refine ⟨.ref nl, rfl, .ref nl, rfl, nl, rfl, ⟨_, sqlOf Cc.num⟩, fun D1 nD1 => ?_⟩
      have nD : nl ≠ D1 := ne_of_none Cc.num nD1
      refine lc_list (xs := xs.map V.int) (fun j H' => H' D1 = some (.lst (((xs.take j).map fun x => (0 : Int) - x).map V.int)) ∧ But D1 Hc H') ⟨upd_same, But.start⟩ (fun j H' _ h => sqlOf (h.2 _ _ nD Cc.num)) (fun j x H' hx h => ?_) (fun H' h => ?_)
      · rw [List.getElem?_map] at hx
        obtain ⟨v, hv, rfl⟩ := Option.map_eq_some_iff.mp hx
        have hj := (List.getElem?_eq_some_iff.mp hv).1
        refine ⟨rfl, .int v, rfl, _, _, rfl, rfl, _, h.1, by rw [List.length_map, List.length_map, List.length_take, sizeLine_eq]; omega, ?_, h.2.step (Same.refl _)⟩
        rw [upd_same, List.take_add_one, hv, List.map_append, List.map_append]
        rfl
      · obtain ⟨hD1, kp⟩ := h
        rw [List.length_map, List.take_length] at hD1
        have sD : Same Hc H' := kp.same nD1
        have Cd := Cc.same sD
        refine ⟨.ref nl, rfl, nl, _, rfl, sqlOf Cd.num, fun p np => ?_⟩
        rw [← List.map_reverse]
        have sp1 := same_new (o := .lst (xs.reverse.map V.int)) np
        have hp : upd H' p (.lst (xs.reverse.map V.int)) p = some (.lst (xs.reverse.map V.int)) := upd_same
        have hD2 := sp1 _ _ hD1
        have Ce := Cd.same sp1
        generalize upd H' p (.lst (xs.reverse.map V.int)) = He at hp hD2 Ce
        refine ⟨three_ok, fun l nl2 => ?_⟩
        have sl := same_new (o := .lst [V.ref nl, .ref D1, .ref p]) nl2
        have hl : upd He l (.lst [V.ref nl, .ref D1, .ref p]) l = some (.lst [V.ref nl, .ref D1, .ref p]) := upd_same
        generalize upd He l (.lst [V.ref nl, .ref D1, .ref p]) = Hf at sl hl
        have Cf := Ce.same sl
        refine ⟨l, rfl, ⟨_, sqlOf hl⟩, for_list (xs := [V.ref nl, .ref D1, .ref p]) (fun j σ Hj => ∃ (y9 : Option V), σ = [some (.ref sc), some (.ref a), some (.int ((0 : Int) + (i : Nat))), some (.int m), some (.int r3), y5, y6, some (.ref e), some (.ref nl), y9, none, none] ∧ Same Hf Hj)
          ⟨y9, rfl, Same.refl _⟩ (fun j σ Hj _ h => ?_) (fun j x σ Hj hx' h => ?_) (fun σ Hj h => ?_)⟩
        · obtain ⟨_, _, sj⟩ := h
          exact sqlOf (sj _ _ hl)
        · obtain ⟨y9, rfl, sj⟩ := h
          have Cj := Cf.same sj
          obtain ⟨gl, zs, rfl, hz, hzl, hzn⟩ : ∃ (gl : Addr) (zs : List Int), x = .ref gl ∧ Hj gl = some (.lst (zs.map V.int)) ∧ zs.length = m ∧ Nums zs := by
            match j, hx' with
            | 0, hx' => cases hx'; exact ⟨nl, xs, rfl, Cj.num, hl1, Cj.nums⟩
            | 1, hx' =>
              cases hx'
              refine ⟨D1, _, rfl, sj _ _ (sl _ _ hD2), by rw [List.length_map]; exact hl1, fun y hy => ?_⟩
              obtain ⟨x, hx, rfl⟩ := List.mem_map.mp hy
              have := Cj.nums x hx
              omega
            | 2, hx' =>
              cases hx'
              exact ⟨p, xs.reverse, rfl, sj _ _ (sl _ _ hp), by rw [List.length_reverse]; exact hl1, fun y hy => Cj.nums y (List.mem_reverse.mp hy)⟩
            | j + 3, hx' => simp at hx'
          refine ⟨.ref e, rfl, .ref gl, rfl, e, gl, m, T, zs, rfl, Cj.dict, Cj.bnd, by have := Cj.few; omega, by omega, by omega, hz, hzl, hzn, fun Hk sk => ⟨true, rfl, iteF ⟨_, rfl, sj.trans sk⟩⟩⟩
        · obtain ⟨y9, rfl, sj⟩ := h
          exact ⟨_, _, _, _, _, _, _, _, rfl, (Cf.same sj).st.more (by omega)⟩
    · obtain ⟨y2, y3, y4, y5, y6, y7, y8, y9, rfl, S⟩ := h
      dsimp only [tSeq, tAsg, gName]
      refine ⟨.ref a, rfl, a, c, _, 3, rfl, S, by omega, by decide, by decide, fun H2 r2 S2 k2 p20 p21 => ⟨_, _, rfl, rfl, ?_⟩⟩
      obtain ⟨m, hm⟩ : ∃ m : Nat, (1 + r2 : Int) = m := ⟨(1 + r2).toNat, by omega⟩
      dsimp only
      rw [hm]
      refine ⟨.ref a, rfl, .int m, rfl, a, c, _, m, rfl, S2, by omega, by omega, by omega, fun H3 e T S3 k3 ne3 hT hB hTl => ?_⟩
      refine ⟨.int m, rfl, m, rfl, by omega, by omega, fun l nl => ?_⟩
      have el : e ≠ l := ne_of_none hT.at_ nl
      refine lc_range (lo := 0) (n := m) (fun j H' => ∃ ws : List Int, ws.length = j ∧ Nums ws ∧ H' l = some (.lst (ws.map V.int)) ∧ H' e = some (dZ T))
        ⟨[], rfl, (fun x h => by cases h), upd_same, by rw [upd_ne el]; exact hT.at_⟩ (fun j Hj hj h => ?_) (fun Hj h => ?_)
      · obtain ⟨ws, hwl, hw, hl, hd⟩ := h
        refine ⟨rfl, 3, rfl, three_ok, fun p np => ?_⟩
        have hl2 := same_new (o := .lst [V.int 2, .int (-3), .int 5]) np _ _ hl
        have hd2 := same_new (o := .lst [V.int 2, .int (-3), .int 5]) np _ _ hd
        have hp : upd Hj p (.lst [V.int 2, .int (-3), .int 5]) p = some (.lst [V.int 2, .int (-3), .int 5]) := upd_same
        generalize upd Hj p (.lst [V.int 2, .int (-3), .int 5]) = Hk at hl2 hd2 hp
        obtain ⟨v, hv, hv3⟩ := pick3 (x := 2) (y := -3) (z := 5) (show 0 ≤ (0 : Int) + (j : Nat) by omega) (by omega)
        refine ⟨.int ((0 : Int) + (j : Nat)), rfl, p, _, _, .int v, rfl, rfl, sqlOf hp, hv, _, hl2, by rw [List.length_map, sizeLine_eq]; omega, ws ++ [v], by rw [List.length_append, hwl]; rfl, hw.snoc (by rcases hv3 with rfl | rfl | rfl <;> decide) (by rcases hv3 with rfl | rfl | rfl <;> decide), by rw [upd_same, List.map_append]; rfl, by rw [upd_ne el]; exact hd2⟩
      · obtain ⟨ws, hwl, hw, hl, hd⟩ := h
        refine ⟨e, l, m, T, ws, rfl, ⟨hd, hT.nodup, hT.len⟩, hB, by omega, by omega, by omega, hl, hwl, hw, fun Hk sk => q _⟩
end
end NH
set_option Elab.async false
set_option linter.all false
set_option maxRecDepth 100000
set_option maxHeartbeats 4000000
namespace NH
open PySem PySem.Spec PyProof.Rows L2
theorem all_mk {l : PySem.W.OpenLaw} {w : World} {K : PySem.W.Frag} {h : Heap} {mg : Str → Option Value} {fa f0 f1 f2 f3 f4 f5 f6 f7 f8 f9 f10 f11 f12 f13 f14 f15 f16 f17 f18 f19 f21 f22 f23 f24 f25 f26 f27 f28 f29 : Addr} (X : K.In h) (G : h.Ns mainGlobals mg) (hfa : mg "law" = some (.ref fa))
    {od0 an0 : Option Addr} {sl0 : Array (Option Value)} {oc0 kV0 dc0 pm0 cd0 ct0 : Value}
    {od1 an1 : Option Addr} {sl1 : Array (Option Value)} {oc1 kV1 dc1 pm1 cd1 ct1 : Value}
    {od2 an2 : Option Addr} {sl2 : Array (Option Value)} {oc2 kV2 dc2 pm2 cd2 ct2 : Value}
    {od3 an3 : Option Addr} {sl3 : Array (Option Value)} {oc3 kV3 dc3 pm3 cd3 ct3 : Value}
    {od4 an4 : Option Addr} {sl4 : Array (Option Value)} {oc4 kV4 dc4 pm4 cd4 ct4 : Value}
    {od5 an5 : Option Addr} {sl5 : Array (Option Value)} {oc5 kV5 dc5 pm5 cd5 ct5 : Value}
    {od6 an6 : Option Addr} {sl6 : Array (Option Value)} {oc6 kV6 dc6 pm6 cd6 ct6 : Value}
    {od7 an7 : Option Addr} {sl7 : Array (Option Value)} {oc7 kV7 dc7 pm7 cd7 ct7 : Value}
    {od8 an8 : Option Addr} {sl8 : Array (Option Value)} {oc8 kV8 dc8 pm8 cd8 ct8 : Value}
    {od9 an9 : Option Addr} {sl9 : Array (Option Value)} {oc9 kV9 dc9 pm9 cd9 ct9 : Value}
    {od10 an10 : Option Addr} {sl10 : Array (Option Value)} {oc10 kV10 dc10 pm10 cd10 ct10 : Value}
    {od11 an11 : Option Addr} {sl11 : Array (Option Value)} {oc11 kV11 dc11 pm11 cd11 ct11 : Value}
    {od12 an12 : Option Addr} {sl12 : Array (Option Value)} {oc12 kV12 dc12 pm12 cd12 ct12 : Value}
    {od13 an13 : Option Addr} {sl13 : Array (Option Value)} {oc13 kV13 dc13 pm13 cd13 ct13 : Value}
    {od14 an14 : Option Addr} {sl14 : Array (Option Value)} {oc14 kV14 dc14 pm14 cd14 ct14 : Value}
    {od15 an15 : Option Addr} {sl15 : Array (Option Value)} {oc15 kV15 dc15 pm15 cd15 ct15 : Value}
    {od16 an16 : Option Addr} {sl16 : Array (Option Value)} {oc16 kV16 dc16 pm16 cd16 ct16 : Value}
    {od17 an17 : Option Addr} {sl17 : Array (Option Value)} {oc17 kV17 dc17 pm17 cd17 ct17 : Value}
    {od18 an18 : Option Addr} {sl18 : Array (Option Value)} {oc18 kV18 dc18 pm18 cd18 ct18 : Value}
    {od19 an19 : Option Addr} {sl19 : Array (Option Value)} {oc19 kV19 dc19 pm19 cd19 ct19 : Value}
    {od21 an21 : Option Addr} {sl21 : Array (Option Value)} {oc21 kV21 dc21 pm21 cd21 ct21 : Value}
    {od22 an22 : Option Addr} {sl22 : Array (Option Value)} {oc22 kV22 dc22 pm22 cd22 ct22 : Value}
    {od23 an23 : Option Addr} {sl23 : Array (Option Value)} {oc23 kV23 dc23 pm23 cd23 ct23 : Value}
    {od24 an24 : Option Addr} {sl24 : Array (Option Value)} {oc24 kV24 dc24 pm24 cd24 ct24 : Value}
    {od25 an25 : Option Addr} {sl25 : Array (Option Value)} {oc25 kV25 dc25 pm25 cd25 ct25 : Value}
    {od26 an26 : Option Addr} {sl26 : Array (Option Value)} {oc26 kV26 dc26 pm26 cd26 ct26 : Value}
    {od27 an27 : Option Addr} {sl27 : Array (Option Value)} {oc27 kV27 dc27 pm27 cd27 ct27 : Value}
    {od28 an28 : Option Addr} {sl28 : Array (Option Value)} {oc28 kV28 dc28 pm28 cd28 ct28 : Value}
    {od29 an29 : Option Addr} {sl29 : Array (Option Value)} {oc29 kV29 dc29 pm29 cd29 ct29 : Value}
    (a0 : PySem.W.nsIn K mainGlobals "lines_of" = some (some (.ref f0))) (l0 : K.lookup f0 = some ⟨oc0, od0, .func (PySem.W.fnOf "lines_of" "lines_of" (defArgs s_lines_of) (defBody s_lines_of) (defScope s_lines_of) .none kV0 dc0 pm0 an0 cd0 ct0), sl0⟩) (c0 : PySem.W.codeIn K cd0 "lines_of" = true) (k0 : PySem.W.keepIn K (.ref f0) = true)
    (a1 : PySem.W.nsIn K mainGlobals "least_of" = some (some (.ref f1))) (l1 : K.lookup f1 = some ⟨oc1, od1, .func (PySem.W.fnOf "least_of" "least_of" (defArgs s_least_of) (defBody s_least_of) (defScope s_least_of) .none kV1 dc1 pm1 an1 cd1 ct1), sl1⟩) (c1 : PySem.W.codeIn K cd1 "least_of" = true) (k1 : PySem.W.keepIn K (.ref f1) = true)
    (a2 : PySem.W.nsIn K mainGlobals "moved" = some (some (.ref f2))) (l2 : K.lookup f2 = some ⟨oc2, od2, .func (PySem.W.fnOf "moved" "moved" (defArgs s_moved) (defBody s_moved) (defScope s_moved) .none kV2 dc2 pm2 an2 cd2 ct2), sl2⟩) (c2 : PySem.W.codeIn K cd2 "moved" = true) (k2 : PySem.W.keepIn K (.ref f2) = true)
    (a3 : PySem.W.nsIn K mainGlobals "packed_plus" = some (some (.ref f3))) (l3 : K.lookup f3 = some ⟨oc3, od3, .func (PySem.W.fnOf "packed_plus" "packed_plus" (defArgs s_packed_plus) (defBody s_packed_plus) (defScope s_packed_plus) .none kV3 dc3 pm3 an3 cd3 ct3), sl3⟩) (c3 : PySem.W.codeIn K cd3 "packed_plus" = true) (k3 : PySem.W.keepIn K (.ref f3) = true)
    (a4 : PySem.W.nsIn K mainGlobals "packed_times" = some (some (.ref f4))) (l4 : K.lookup f4 = some ⟨oc4, od4, .func (PySem.W.fnOf "packed_times" "packed_times" (defArgs s_packed_times) (defBody s_packed_times) (defScope s_packed_times) .none kV4 dc4 pm4 an4 cd4 ct4), sl4⟩) (c4 : PySem.W.codeIn K cd4 "packed_times" = true) (k4 : PySem.W.keepIn K (.ref f4) = true)
    (a5 : PySem.W.nsIn K mainGlobals "whole_power" = some (some (.ref f5))) (l5 : K.lookup f5 = some ⟨oc5, od5, .func (PySem.W.fnOf "whole_power" "whole_power" (defArgs s_whole_power) (defBody s_whole_power) (defScope s_whole_power) .none kV5 dc5 pm5 an5 cd5 ct5), sl5⟩) (c5 : PySem.W.codeIn K cd5 "whole_power" = true) (k5 : PySem.W.keepIn K (.ref f5) = true)
    (a6 : PySem.W.nsIn K mainGlobals "packed_by_power" = some (some (.ref f6))) (l6 : K.lookup f6 = some ⟨oc6, od6, .func (PySem.W.fnOf "packed_by_power" "packed_by_power" (defArgs s_packed_by_power) (defBody s_packed_by_power) (defScope s_packed_by_power) .none kV6 dc6 pm6 an6 cd6 ct6), sl6⟩) (c6 : PySem.W.codeIn K cd6 "packed_by_power" = true) (k6 : PySem.W.keepIn K (.ref f6) = true)
    (a7 : PySem.W.nsIn K mainGlobals "lifted" = some (some (.ref f7))) (l7 : K.lookup f7 = some ⟨oc7, od7, .func (PySem.W.fnOf "lifted" "lifted" (defArgs s_lifted) (defBody s_lifted) (defScope s_lifted) .none kV7 dc7 pm7 an7 cd7 ct7), sl7⟩) (c7 : PySem.W.codeIn K cd7 "lifted" = true) (k7 : PySem.W.keepIn K (.ref f7) = true)
    (a8 : PySem.W.nsIn K mainGlobals "value_of" = some (some (.ref f8))) (l8 : K.lookup f8 = some ⟨oc8, od8, .func (PySem.W.fnOf "value_of" "value_of" (defArgs s_value_of) (defBody s_value_of) (defScope s_value_of) .none kV8 dc8 pm8 an8 cd8 ct8), sl8⟩) (c8 : PySem.W.codeIn K cd8 "value_of" = true) (k8 : PySem.W.keepIn K (.ref f8) = true)
    (a9 : PySem.W.nsIn K mainGlobals "gathered" = some (some (.ref f9))) (l9 : K.lookup f9 = some ⟨oc9, od9, .func (PySem.W.fnOf "gathered" "gathered" (defArgs s_gathered) (defBody s_gathered) (defScope s_gathered) .none kV9 dc9 pm9 an9 cd9 ct9), sl9⟩) (c9 : PySem.W.codeIn K cd9 "gathered" = true) (k9 : PySem.W.keepIn K (.ref f9) = true)
    (a10 : PySem.W.nsIn K mainGlobals "is_sum" = some (some (.ref f10))) (l10 : K.lookup f10 = some ⟨oc10, od10, .func (PySem.W.fnOf "is_sum" "is_sum" (defArgs s_is_sum) (defBody s_is_sum) (defScope s_is_sum) .none kV10 dc10 pm10 an10 cd10 ct10), sl10⟩) (c10 : PySem.W.codeIn K cd10 "is_sum" = true) (k10 : PySem.W.keepIn K (.ref f10) = true)
    (a11 : PySem.W.nsIn K mainGlobals "check_sum" = some (some (.ref f11))) (l11 : K.lookup f11 = some ⟨oc11, od11, .func (PySem.W.fnOf "check_sum" "check_sum" (defArgs s_check_sum) (defBody s_check_sum) (defScope s_check_sum) .none kV11 dc11 pm11 an11 cd11 ct11), sl11⟩) (c11 : PySem.W.codeIn K cd11 "check_sum" = true) (k11 : PySem.W.keepIn K (.ref f11) = true)
    (a12 : PySem.W.nsIn K mainGlobals "letters_of" = some (some (.ref f12))) (l12 : K.lookup f12 = some ⟨oc12, od12, .func (PySem.W.fnOf "letters_of" "letters_of" (defArgs s_letters_of) (defBody s_letters_of) (defScope s_letters_of) .none kV12 dc12 pm12 an12 cd12 ct12), sl12⟩) (c12 : PySem.W.codeIn K cd12 "letters_of" = true) (k12 : PySem.W.keepIn K (.ref f12) = true)
    (a13 : PySem.W.nsIn K mainGlobals "value" = some (some (.ref f13))) (l13 : K.lookup f13 = some ⟨oc13, od13, .func (PySem.W.fnOf "value" "value" (defArgs s_value) (defBody s_value) (defScope s_value) .none kV13 dc13 pm13 an13 cd13 ct13), sl13⟩) (c13 : PySem.W.codeIn K cd13 "value" = true) (k13 : PySem.W.keepIn K (.ref f13) = true)
    (a14 : PySem.W.nsIn K mainGlobals "_law_stock" = some (some (.ref f14))) (l14 : K.lookup f14 = some ⟨oc14, od14, .func (PySem.W.fnOf "_law_stock" "_law_stock" (defArgs s__law_stock) (defBody s__law_stock) (defScope s__law_stock) .none kV14 dc14 pm14 an14 cd14 ct14), sl14⟩) (c14 : PySem.W.codeIn K cd14 "_law_stock" = true) (k14 : PySem.W.keepIn K (.ref f14) = true)
    (a15 : PySem.W.nsIn K mainGlobals "_law_pick" = some (some (.ref f15))) (l15 : K.lookup f15 = some ⟨oc15, od15, .func (PySem.W.fnOf "_law_pick" "_law_pick" (defArgs s__law_pick) (defBody s__law_pick) (defScope s__law_pick) .none kV15 dc15 pm15 an15 cd15 ct15), sl15⟩) (c15 : PySem.W.codeIn K cd15 "_law_pick" = true) (k15 : PySem.W.keepIn K (.ref f15) = true)
    (a16 : PySem.W.nsIn K mainGlobals "_law_wide" = some (some (.ref f16))) (l16 : K.lookup f16 = some ⟨oc16, od16, .func (PySem.W.fnOf "_law_wide" "_law_wide" (defArgs s__law_wide) (defBody s__law_wide) (defScope s__law_wide) .none kV16 dc16 pm16 an16 cd16 ct16), sl16⟩) (c16 : PySem.W.codeIn K cd16 "_law_wide" = true) (k16 : PySem.W.keepIn K (.ref f16) = true)
    (a17 : PySem.W.nsIn K mainGlobals "_law_same" = some (some (.ref f17))) (l17 : K.lookup f17 = some ⟨oc17, od17, .func (PySem.W.fnOf "_law_same" "_law_same" (defArgs s__law_same) (defBody s__law_same) (defScope s__law_same) .none kV17 dc17 pm17 an17 cd17 ct17), sl17⟩) (c17 : PySem.W.codeIn K cd17 "_law_same" = true) (k17 : PySem.W.keepIn K (.ref f17) = true)
    (a18 : PySem.W.nsIn K mainGlobals "_law_written" = some (some (.ref f18))) (l18 : K.lookup f18 = some ⟨oc18, od18, .func (PySem.W.fnOf "_law_written" "_law_written" (defArgs s__law_written) (defBody s__law_written) (defScope s__law_written) .none kV18 dc18 pm18 an18 cd18 ct18), sl18⟩) (c18 : PySem.W.codeIn K cd18 "_law_written" = true) (k18 : PySem.W.keepIn K (.ref f18) = true)
    (a19 : PySem.W.nsIn K mainGlobals "_law_plus" = some (some (.ref f19))) (l19 : K.lookup f19 = some ⟨oc19, od19, .func (PySem.W.fnOf "_law_plus" "_law_plus" (defArgs s__law_plus) (defBody s__law_plus) (defScope s__law_plus) .none kV19 dc19 pm19 an19 cd19 ct19), sl19⟩) (c19 : PySem.W.codeIn K cd19 "_law_plus" = true) (k19 : PySem.W.keepIn K (.ref f19) = true)
    (a21 : PySem.W.nsIn K mainGlobals "_law_terms" = some (some (.ref f21))) (l21 : K.lookup f21 = some ⟨oc21, od21, .func (PySem.W.fnOf "_law_terms" "_law_terms" (defArgs s__law_terms) (defBody s__law_terms) (defScope s__law_terms) .none kV21 dc21 pm21 an21 cd21 ct21), sl21⟩) (c21 : PySem.W.codeIn K cd21 "_law_terms" = true) (k21 : PySem.W.keepIn K (.ref f21) = true)
    (a22 : PySem.W.nsIn K mainGlobals "_law_gcd" = some (some (.ref f22))) (l22 : K.lookup f22 = some ⟨oc22, od22, .func (PySem.W.fnOf "_law_gcd" "_law_gcd" (defArgs s__law_gcd) (defBody s__law_gcd) (defScope s__law_gcd) .none kV22 dc22 pm22 an22 cd22 ct22), sl22⟩) (c22 : PySem.W.codeIn K cd22 "_law_gcd" = true) (k22 : PySem.W.keepIn K (.ref f22) = true)
    (a23 : PySem.W.nsIn K mainGlobals "_law_lowest" = some (some (.ref f23))) (l23 : K.lookup f23 = some ⟨oc23, od23, .func (PySem.W.fnOf "_law_lowest" "_law_lowest" (defArgs s__law_lowest) (defBody s__law_lowest) (defScope s__law_lowest) .none kV23 dc23 pm23 an23 cd23 ct23), sl23⟩) (c23 : PySem.W.codeIn K cd23 "_law_lowest" = true) (k23 : PySem.W.keepIn K (.ref f23) = true)
    (a24 : PySem.W.nsIn K mainGlobals "_law_worth" = some (some (.ref f24))) (l24 : K.lookup f24 = some ⟨oc24, od24, .func (PySem.W.fnOf "_law_worth" "_law_worth" (defArgs s__law_worth) (defBody s__law_worth) (defScope s__law_worth) .none kV24 dc24 pm24 an24 cd24 ct24), sl24⟩) (c24 : PySem.W.codeIn K cd24 "_law_worth" = true) (k24 : PySem.W.keepIn K (.ref f24) = true)
    (a25 : PySem.W.nsIn K mainGlobals "_law_numbers" = some (some (.ref f25))) (l25 : K.lookup f25 = some ⟨oc25, od25, .func (PySem.W.fnOf "_law_numbers" "_law_numbers" (defArgs s__law_numbers) (defBody s__law_numbers) (defScope s__law_numbers) .none kV25 dc25 pm25 an25 cd25 ct25), sl25⟩) (c25 : PySem.W.codeIn K cd25 "_law_numbers" = true) (k25 : PySem.W.keepIn K (.ref f25) = true)
    (a26 : PySem.W.nsIn K mainGlobals "_law_balanced" = some (some (.ref f26))) (l26 : K.lookup f26 = some ⟨oc26, od26, .func (PySem.W.fnOf "_law_balanced" "_law_balanced" (defArgs s__law_balanced) (defBody s__law_balanced) (defScope s__law_balanced) .none kV26 dc26 pm26 an26 cd26 ct26), sl26⟩) (c26 : PySem.W.codeIn K cd26 "_law_balanced" = true) (k26 : PySem.W.keepIn K (.ref f26) = true)
    (a27 : PySem.W.nsIn K mainGlobals "_law_long" = some (some (.ref f27))) (l27 : K.lookup f27 = some ⟨oc27, od27, .func (PySem.W.fnOf "_law_long" "_law_long" (defArgs s__law_long) (defBody s__law_long) (defScope s__law_long) .none kV27 dc27 pm27 an27 cd27 ct27), sl27⟩) (c27 : PySem.W.codeIn K cd27 "_law_long" = true) (k27 : PySem.W.keepIn K (.ref f27) = true)
    (a28 : PySem.W.nsIn K mainGlobals "_law_is_told" = some (some (.ref f28))) (l28 : K.lookup f28 = some ⟨oc28, od28, .func (PySem.W.fnOf "_law_is_told" "_law_is_told" (defArgs s__law_is_told) (defBody s__law_is_told) (defScope s__law_is_told) .none kV28 dc28 pm28 an28 cd28 ct28), sl28⟩) (c28 : PySem.W.codeIn K cd28 "_law_is_told" = true) (k28 : PySem.W.keepIn K (.ref f28) = true)
    (a29 : PySem.W.nsIn K mainGlobals "law" = some (some (.ref f29))) (l29 : K.lookup f29 = some ⟨oc29, od29, .func (PySem.W.fnOf "law" "law" (defArgs s_law) (defBody s_law) (defScope s_law) .none kV29 dc29 pm29 an29 cd29 ct29), sl29⟩) (c29 : PySem.W.codeIn K cd29 "law" = true) (k29 : PySem.W.keepIn K (.ref f29) = true)
    (z0 : PySem.W.nsIn K mainGlobals "ValueError" = some none)
    (z1 : PySem.W.nsIn K mainGlobals "abs" = some none)
    (z2 : PySem.W.nsIn K mainGlobals "bool" = some none)
    (z3 : PySem.W.nsIn K mainGlobals "enumerate" = some none)
    (z4 : PySem.W.nsIn K mainGlobals "int" = some none)
    (z5 : PySem.W.nsIn K mainGlobals "isinstance" = some none)
    (z6 : PySem.W.nsIn K mainGlobals "len" = some none)
    (z7 : PySem.W.nsIn K mainGlobals "list" = some none)
    (z8 : PySem.W.nsIn K mainGlobals "max" = some none)
    (z9 : PySem.W.nsIn K mainGlobals "min" = some none)
    (z10 : PySem.W.nsIn K mainGlobals "range" = some none)
    (z11 : PySem.W.nsIn K mainGlobals "sorted" = some none)
    (z12 : PySem.W.nsIn K mainGlobals "str" = some none)
    (z13 : PySem.W.nsIn K mainGlobals "tuple" = some none)
    (z14 : PySem.W.nsIn K mainGlobals "zip" = some none)
    (mg1 : PySem.W.nsIn K mainGlobals "gcd" = some (some (.builtin "math.gcd")))
    : ∃ fd : FuncData, (∀ (s : Shared) (v : Value), BindsTo s fd ⟨[v], []⟩ [("_law_script", v)]) ∧ ∀ base : Heap, K.In base → base.Ns mainGlobals mg → FnOk l.prog w K mg base CX0 13 fa fd ["_law_script"] (spLaw K) := by
  have e := hfa.symm.trans (PySem.W.mg_of X G a29)
  cases e
  have F0 := fun_mk (st := s_lines_of) l0 c0 k0
  have F1 := fun_mk (st := s_least_of) l1 c1 k1
  have F2 := fun_mk (st := s_moved) l2 c2 k2
  have F3 := fun_mk (st := s_packed_plus) l3 c3 k3
  have F4 := fun_mk (st := s_packed_times) l4 c4 k4
  have F5 := fun_mk (st := s_whole_power) l5 c5 k5
  have F6 := fun_mk (st := s_packed_by_power) l6 c6 k6
  have F7 := fun_mk (st := s_lifted) l7 c7 k7
  have F8 := fun_mk (st := s_value_of) l8 c8 k8
  have F9 := fun_mk (st := s_gathered) l9 c9 k9
  have F10 := fun_mk (st := s_is_sum) l10 c10 k10
  have F11 := fun_mk (st := s_check_sum) l11 c11 k11
  have F12 := fun_mk (st := s_letters_of) l12 c12 k12
  have F13 := fun_mk (st := s_value) l13 c13 k13
  have F14 := fun_mk (st := s__law_stock) l14 c14 k14
  have F15 := fun_mk (st := s__law_pick) l15 c15 k15
  have F16 := fun_mk (st := s__law_wide) l16 c16 k16
  have F17 := fun_mk (st := s__law_same) l17 c17 k17
  have F18 := fun_mk (st := s__law_written) l18 c18 k18
  have F19 := fun_mk (st := s__law_plus) l19 c19 k19
  have F21 := fun_mk (st := s__law_terms) l21 c21 k21
  have F22 := fun_mk (st := s__law_gcd) l22 c22 k22
  have F23 := fun_mk (st := s__law_lowest) l23 c23 k23
  have F24 := fun_mk (st := s__law_worth) l24 c24 k24
  have F25 := fun_mk (st := s__law_numbers) l25 c25 k25
  have F26 := fun_mk (st := s__law_balanced) l26 c26 k26
  have F27 := fun_mk (st := s__law_long) l27 c27 k27
  have F28 := fun_mk (st := s__law_is_told) l28 c28 k28
  have F29 := fun_mk (st := s_law) l29 c29 k29
  have b0 := F0.binds (ps := ["told"]) fun _ _ _ _ _ _ us hl => match us, hl with | [_], _ => rfl
  have b1 := F1.binds (ps := ["told"]) fun _ _ _ _ _ _ us hl => match us, hl with | [_], _ => rfl
  have b2 := F2.binds (ps := ["told", "powers", "sign"]) fun _ _ _ _ _ _ us hl => match us, hl with | [_, _, _], _ => rfl
  have b3 := F3.binds (ps := ["one", "other"]) fun _ _ _ _ _ _ us hl => match us, hl with | [_, _], _ => rfl
  have b4 := F4.binds (ps := ["one", "other"]) fun _ _ _ _ _ _ us hl => match us, hl with | [_, _], _ => rfl
  have b5 := F5.binds (ps := ["base", "times"]) fun _ _ _ _ _ _ us hl => match us, hl with | [_, _], _ => rfl
  have b6 := F6.binds (ps := ["terms", "factor", "times"]) fun _ _ _ _ _ _ us hl => match us, hl with | [_, _, _], _ => rfl
  have b7 := F7.binds (ps := ["told"]) fun _ _ _ _ _ _ us hl => match us, hl with | [_], _ => rfl
  have b8 := F8.binds (ps := ["told", "numbers"]) fun _ _ _ _ _ _ us hl => match us, hl with | [_, _], _ => rfl
  have b9 := F9.binds (ps := ["terms", "factors", "many"]) fun _ _ _ _ _ _ us hl => match us, hl with | [_, _, _], _ => rfl
  have b10 := F10.binds (ps := ["told", "many"]) fun _ _ _ _ _ _ us hl => match us, hl with | [_, _], _ => rfl
  have b11 := F11.binds (ps := ["told", "many"]) fun _ _ _ _ _ _ us hl => match us, hl with | [_, _], _ => rfl
  have b12 := F12.binds (ps := ["sums"]) fun _ _ _ _ _ _ us hl => match us, hl with | [_], _ => rfl
  have b13 := F13.binds (ps := ["one", "numbers"]) fun _ _ _ _ _ _ us hl => match us, hl with | [_, _], _ => rfl
  have b14 := F14.binds (ps := ["_law_script"]) fun _ _ _ _ _ _ us hl => match us, hl with | [_], _ => rfl
  have b15 := F15.binds (ps := ["_law_stock_here", "_law_limit"]) fun _ _ _ _ _ _ us hl => match us, hl with | [_, _], _ => rfl
  have b16 := F16.binds (ps := ["_law_stock_here", "_law_limit"]) fun _ _ _ _ _ _ us hl => match us, hl with | [_, _], _ => rfl
  have b17 := F17.binds (ps := ["_law_told", "_law_due"]) fun _ _ _ _ _ _ us hl => match us, hl with | [_, _], _ => rfl
  have b18 := F18.binds (ps := ["_law_terms_here"]) fun _ _ _ _ _ _ us hl => match us, hl with | [_], _ => rfl
  have b19 := F19.binds (ps := ["_law_one", "_law_other"]) fun _ _ _ _ _ _ us hl => match us, hl with | [_, _], _ => rfl
  have b21 := F21.binds (ps := ["_law_stock_here", "_law_many", "_law_most", "_law_span", "_law_great"]) fun _ _ _ _ _ _ us hl => match us, hl with | [_, _, _, _, _], _ => rfl
  have b22 := F22.binds (ps := ["_law_one", "_law_other"]) fun _ _ _ _ _ _ us hl => match us, hl with | [_, _], _ => rfl
  have b23 := F23.binds (ps := ["_law_top", "_law_bottom"]) fun _ _ _ _ _ _ us hl => match us, hl with | [_, _], _ => rfl
  have b24 := F24.binds (ps := ["_law_terms_here", "_law_numbers_here"]) fun _ _ _ _ _ _ us hl => match us, hl with | [_, _], _ => rfl
  have b25 := F25.binds (ps := ["_law_stock_here", "_law_many"]) fun _ _ _ _ _ _ us hl => match us, hl with | [_, _], _ => rfl
  have b26 := F26.binds (ps := ["_law_stock_here", "_law_many", "_law_more"]) fun _ _ _ _ _ _ us hl => match us, hl with | [_, _, _], _ => rfl
  have b27 := F27.binds (ps := ["_law_stock_here", "_law_many"]) fun _ _ _ _ _ _ us hl => match us, hl with | [_, _], _ => rfl
  have b28 := F28.binds (ps := ["_law_terms_here", "_law_numbers_here"]) fun _ _ _ _ _ _ us hl => match us, hl with | [_, _], _ => rfl
  have D : Defs K mg (fun i => [f0, f1, f2, f3, f4, f5, f6, f7, f8, f9, f10, f11, f12, f13, f14, f15, f16, f17, f18, f19, f0, f21, f22, f23, f24, f25, f26, f27, f28].getD i f0) (fun i => [PySem.W.fnOf "lines_of" "lines_of" (defArgs s_lines_of) (defBody s_lines_of) (defScope s_lines_of) .none kV0 dc0 pm0 an0 cd0 ct0, PySem.W.fnOf "least_of" "least_of" (defArgs s_least_of) (defBody s_least_of) (defScope s_least_of) .none kV1 dc1 pm1 an1 cd1 ct1, PySem.W.fnOf "moved" "moved" (defArgs s_moved) (defBody s_moved) (defScope s_moved) .none kV2 dc2 pm2 an2 cd2 ct2, PySem.W.fnOf "packed_plus" "packed_plus" (defArgs s_packed_plus) (defBody s_packed_plus) (defScope s_packed_plus) .none kV3 dc3 pm3 an3 cd3 ct3, PySem.W.fnOf "packed_times" "packed_times" (defArgs s_packed_times) (defBody s_packed_times) (defScope s_packed_times) .none kV4 dc4 pm4 an4 cd4 ct4, PySem.W.fnOf "whole_power" "whole_power" (defArgs s_whole_power) (defBody s_whole_power) (defScope s_whole_power) .none kV5 dc5 pm5 an5 cd5 ct5, PySem.W.fnOf "packed_by_power" "packed_by_power" (defArgs s_packed_by_power) (defBody s_packed_by_power) (defScope s_packed_by_power) .none kV6 dc6 pm6 an6 cd6 ct6, PySem.W.fnOf "lifted" "lifted" (defArgs s_lifted) (defBody s_lifted) (defScope s_lifted) .none kV7 dc7 pm7 an7 cd7 ct7, PySem.W.fnOf "value_of" "value_of" (defArgs s_value_of) (defBody s_value_of) (defScope s_value_of) .none kV8 dc8 pm8 an8 cd8 ct8, PySem.W.fnOf "gathered" "gathered" (defArgs s_gathered) (defBody s_gathered) (defScope s_gathered) .none kV9 dc9 pm9 an9 cd9 ct9, PySem.W.fnOf "is_sum" "is_sum" (defArgs s_is_sum) (defBody s_is_sum) (defScope s_is_sum) .none kV10 dc10 pm10 an10 cd10 ct10, PySem.W.fnOf "check_sum" "check_sum" (defArgs s_check_sum) (defBody s_check_sum) (defScope s_check_sum) .none kV11 dc11 pm11 an11 cd11 ct11, PySem.W.fnOf "letters_of" "letters_of" (defArgs s_letters_of) (defBody s_letters_of) (defScope s_letters_of) .none kV12 dc12 pm12 an12 cd12 ct12, PySem.W.fnOf "value" "value" (defArgs s_value) (defBody s_value) (defScope s_value) .none kV13 dc13 pm13 an13 cd13 ct13, PySem.W.fnOf "_law_stock" "_law_stock" (defArgs s__law_stock) (defBody s__law_stock) (defScope s__law_stock) .none kV14 dc14 pm14 an14 cd14 ct14, PySem.W.fnOf "_law_pick" "_law_pick" (defArgs s__law_pick) (defBody s__law_pick) (defScope s__law_pick) .none kV15 dc15 pm15 an15 cd15 ct15, PySem.W.fnOf "_law_wide" "_law_wide" (defArgs s__law_wide) (defBody s__law_wide) (defScope s__law_wide) .none kV16 dc16 pm16 an16 cd16 ct16, PySem.W.fnOf "_law_same" "_law_same" (defArgs s__law_same) (defBody s__law_same) (defScope s__law_same) .none kV17 dc17 pm17 an17 cd17 ct17, PySem.W.fnOf "_law_written" "_law_written" (defArgs s__law_written) (defBody s__law_written) (defScope s__law_written) .none kV18 dc18 pm18 an18 cd18 ct18, PySem.W.fnOf "_law_plus" "_law_plus" (defArgs s__law_plus) (defBody s__law_plus) (defScope s__law_plus) .none kV19 dc19 pm19 an19 cd19 ct19, PySem.W.fnOf "lines_of" "lines_of" (defArgs s_lines_of) (defBody s_lines_of) (defScope s_lines_of) .none kV0 dc0 pm0 an0 cd0 ct0, PySem.W.fnOf "_law_terms" "_law_terms" (defArgs s__law_terms) (defBody s__law_terms) (defScope s__law_terms) .none kV21 dc21 pm21 an21 cd21 ct21, PySem.W.fnOf "_law_gcd" "_law_gcd" (defArgs s__law_gcd) (defBody s__law_gcd) (defScope s__law_gcd) .none kV22 dc22 pm22 an22 cd22 ct22, PySem.W.fnOf "_law_lowest" "_law_lowest" (defArgs s__law_lowest) (defBody s__law_lowest) (defScope s__law_lowest) .none kV23 dc23 pm23 an23 cd23 ct23, PySem.W.fnOf "_law_worth" "_law_worth" (defArgs s__law_worth) (defBody s__law_worth) (defScope s__law_worth) .none kV24 dc24 pm24 an24 cd24 ct24, PySem.W.fnOf "_law_numbers" "_law_numbers" (defArgs s__law_numbers) (defBody s__law_numbers) (defScope s__law_numbers) .none kV25 dc25 pm25 an25 cd25 ct25, PySem.W.fnOf "_law_balanced" "_law_balanced" (defArgs s__law_balanced) (defBody s__law_balanced) (defScope s__law_balanced) .none kV26 dc26 pm26 an26 cd26 ct26, PySem.W.fnOf "_law_long" "_law_long" (defArgs s__law_long) (defBody s__law_long) (defScope s__law_long) .none kV27 dc27 pm27 an27 cd27 ct27, PySem.W.fnOf "_law_is_told" "_law_is_told" (defArgs s__law_is_told) (defBody s__law_is_told) (defScope s__law_is_told) .none kV28 dc28 pm28 an28 cd28 ct28].getD i (PySem.W.fnOf "lines_of" "lines_of" (defArgs s_lines_of) (defBody s_lines_of) (defScope s_lines_of) .none kV0 dc0 pm0 an0 cd0 ct0)) := {
    F_lines_of := F0, b_lines_of := b0, g_lines_of := PySem.W.mg_of X G a0,
    F_least_of := F1, b_least_of := b1, g_least_of := PySem.W.mg_of X G a1,
    F_moved := F2, b_moved := b2, g_moved := PySem.W.mg_of X G a2,
    F_packed_plus := F3, b_packed_plus := b3, g_packed_plus := PySem.W.mg_of X G a3,
    F_packed_times := F4, b_packed_times := b4, g_packed_times := PySem.W.mg_of X G a4,
    F_whole_power := F5, b_whole_power := b5, g_whole_power := PySem.W.mg_of X G a5,
    F_packed_by_power := F6, b_packed_by_power := b6, g_packed_by_power := PySem.W.mg_of X G a6,
    F_lifted := F7, b_lifted := b7, g_lifted := PySem.W.mg_of X G a7,
    F_value_of := F8, b_value_of := b8, g_value_of := PySem.W.mg_of X G a8,
    F_gathered := F9, b_gathered := b9, g_gathered := PySem.W.mg_of X G a9,
    F_is_sum := F10, b_is_sum := b10, g_is_sum := PySem.W.mg_of X G a10,
    F_check_sum := F11, b_check_sum := b11, g_check_sum := PySem.W.mg_of X G a11,
    F_letters_of := F12, b_letters_of := b12, g_letters_of := PySem.W.mg_of X G a12,
    F_value := F13, b_value := b13, g_value := PySem.W.mg_of X G a13,
    F__law_stock := F14, b__law_stock := b14, g__law_stock := PySem.W.mg_of X G a14,
    F__law_pick := F15, b__law_pick := b15, g__law_pick := PySem.W.mg_of X G a15,
    F__law_wide := F16, b__law_wide := b16, g__law_wide := PySem.W.mg_of X G a16,
    F__law_same := F17, b__law_same := b17, g__law_same := PySem.W.mg_of X G a17,
    F__law_written := F18, b__law_written := b18, g__law_written := PySem.W.mg_of X G a18,
    F__law_plus := F19, b__law_plus := b19, g__law_plus := PySem.W.mg_of X G a19,
    F__law_terms := F21, b__law_terms := b21, g__law_terms := PySem.W.mg_of X G a21,
    F__law_gcd := F22, b__law_gcd := b22, g__law_gcd := PySem.W.mg_of X G a22,
    F__law_lowest := F23, b__law_lowest := b23, g__law_lowest := PySem.W.mg_of X G a23,
    F__law_worth := F24, b__law_worth := b24, g__law_worth := PySem.W.mg_of X G a24,
    F__law_numbers := F25, b__law_numbers := b25, g__law_numbers := PySem.W.mg_of X G a25,
    F__law_balanced := F26, b__law_balanced := b26, g__law_balanced := PySem.W.mg_of X G a26,
    F__law_long := F27, b__law_long := b27, g__law_long := PySem.W.mg_of X G a27,
    F__law_is_told := F28, b__law_is_told := b28, g__law_is_told := PySem.W.mg_of X G a28,
    z_ValueError := PySem.W.mg_none_of X G z0,
    z_abs := PySem.W.mg_none_of X G z1,
    z_bool := PySem.W.mg_none_of X G z2,
    z_enumerate := PySem.W.mg_none_of X G z3,
    z_int := PySem.W.mg_none_of X G z4,
    z_isinstance := PySem.W.mg_none_of X G z5,
    z_len := PySem.W.mg_none_of X G z6,
    z_list := PySem.W.mg_none_of X G z7,
    z_max := PySem.W.mg_none_of X G z8,
    z_min := PySem.W.mg_none_of X G z9,
    z_range := PySem.W.mg_none_of X G z10,
    z_sorted := PySem.W.mg_none_of X G z11,
    z_str := PySem.W.mg_none_of X G z12,
    z_tuple := PySem.W.mg_none_of X G z13,
    z_zip := PySem.W.mg_none_of X G z14 }
  exact ⟨PySem.W.fnOf "law" "law" (defArgs s_law) (defBody s_law) (defScope s_law) .none kV29 dc29 pm29 an29 cd29 ct29, fun s v => .of_eq rfl, fun base _ _ => ok_law F29 D (PySem.W.mg_of X G mg1)⟩
end NH
open PySem PySem.W PyProof.Rows
set_option maxHeartbeats 0 in
theorem PySem.Challenge.cw_neverhalves_k03_whole_values_as_fraction_holds : PySem.Challenge.rw_neverhalves_k03_whole_values_as_fraction.Holds := by
  w_on; o_law; k_head; (case hw => w_witness2)
  k_fill
  refine L2.walk_ofB (l := PySem.Challenge.rw_neverhalves_k03_whole_values_as_fraction) (n := 63) (k := 13) (x := "_law_script") (CX := fun _ => L2.CX0) (sp := fun w => NH.spLaw _) rfl (by decide) rfl ⟨rfl, by decide, by decide⟩ (fun w h Y => PySem.W.kIn_of Y) ?F (fun _ _ a ns hl hb _ hS => ⟨a, ns, rfl, hS, hl, hb, fun _ => rfl⟩) (fun _ _ _ _ _ h => h)
  case F =>
    intro w mg fa h KX G hmg
    refine' NH.all_mk KX G hmg ?a0 ?l0 ?c0 ?k0 ?a1 ?l1 ?c1 ?k1 ?a2 ?l2 ?c2 ?k2 ?a3 ?l3 ?c3 ?k3 ?a4 ?l4 ?c4 ?k4 ?a5 ?l5 ?c5 ?k5 ?a6 ?l6 ?c6 ?k6 ?a7 ?l7 ?c7 ?k7 ?a8 ?l8 ?c8 ?k8 ?a9 ?l9 ?c9 ?k9 ?a10 ?l10 ?c10 ?k10 ?a11 ?l11 ?c11 ?k11 ?a12 ?l12 ?c12 ?k12 ?a13 ?l13 ?c13 ?k13 ?a14 ?l14 ?c14 ?k14 ?a15 ?l15 ?c15 ?k15 ?a16 ?l16 ?c16 ?k16 ?a17 ?l17 ?c17 ?k17 ?a18 ?l18 ?c18 ?k18 ?a19 ?l19 ?c19 ?k19 ?a21 ?l21 ?c21 ?k21 ?a22 ?l22 ?c22 ?k22 ?a23 ?l23 ?c23 ?k23 ?a24 ?l24 ?c24 ?k24 ?a25 ?l25 ?c25 ?k25 ?a26 ?l26 ?c26 ?k26 ?a27 ?l27 ?c27 ?k27 ?a28 ?l28 ?c28 ?k28 ?a29 ?l29 ?c29 ?k29 ?z0 ?z1 ?z2 ?z3 ?z4 ?z5 ?z6 ?z7 ?z8 ?z9 ?z10 ?z11 ?z12 ?z13 ?z14 ?mg1
    (case a0 => k_is); (case l0 => k_is); (case c0 => k_is); (case k0 => k_is); (case a1 => k_is); (case l1 => k_is); (case c1 => k_is); (case k1 => k_is); (case a2 => k_is); (case l2 => k_is); (case c2 => k_is); (case k2 => k_is); (case a3 => k_is); (case l3 => k_is); (case c3 => k_is); (case k3 => k_is); (case a4 => k_is); (case l4 => k_is); (case c4 => k_is); (case k4 => k_is); (case a5 => k_is); (case l5 => k_is); (case c5 => k_is); (case k5 => k_is); (case a6 => k_is); (case l6 => k_is); (case c6 => k_is); (case k6 => k_is); (case a7 => k_is); (case l7 => k_is); (case c7 => k_is); (case k7 => k_is); (case a8 => k_is); (case l8 => k_is); (case c8 => k_is); (case k8 => k_is); (case a9 => k_is); (case l9 => k_is); (case c9 => k_is); (case k9 => k_is); (case a10 => k_is); (case l10 => k_is); (case c10 => k_is); (case k10 => k_is); (case a11 => k_is); (case l11 => k_is); (case c11 => k_is); (case k11 => k_is); (case a12 => k_is); (case l12 => k_is); (case c12 => k_is); (case k12 => k_is); (case a13 => k_is); (case l13 => k_is); (case c13 => k_is); (case k13 => k_is); (case a14 => k_is); (case l14 => k_is); (case c14 => k_is); (case k14 => k_is); (case a15 => k_is); (case l15 => k_is); (case c15 => k_is); (case k15 => k_is); (case a16 => k_is); (case l16 => k_is); (case c16 => k_is); (case k16 => k_is); (case a17 => k_is); (case l17 => k_is); (case c17 => k_is); (case k17 => k_is); (case a18 => k_is); (case l18 => k_is); (case c18 => k_is); (case k18 => k_is); (case a19 => k_is); (case l19 => k_is); (case c19 => k_is); (case k19 => k_is); (case a21 => k_is); (case l21 => k_is); (case c21 => k_is); (case k21 => k_is); (case a22 => k_is); (case l22 => k_is); (case c22 => k_is); (case k22 => k_is); (case a23 => k_is); (case l23 => k_is); (case c23 => k_is); (case k23 => k_is); (case a24 => k_is); (case l24 => k_is); (case c24 => k_is); (case k24 => k_is); (case a25 => k_is); (case l25 => k_is); (case c25 => k_is); (case k25 => k_is); (case a26 => k_is); (case l26 => k_is); (case c26 => k_is); (case k26 => k_is); (case a27 => k_is); (case l27 => k_is); (case c27 => k_is); (case k27 => k_is); (case a28 => k_is); (case l28 => k_is); (case c28 => k_is); (case k28 => k_is); (case a29 => k_is); (case l29 => k_is); (case c29 => k_is); (case k29 => k_is); (case z0 => k_is); (case z1 => k_is); (case z2 => k_is); (case z3 => k_is); (case z4 => k_is); (case z5 => k_is); (case z6 => k_is); (case z7 => k_is); (case z8 => k_is); (case z9 => k_is); (case z10 => k_is); (case z11 => k_is); (case z12 => k_is); (case z13 => k_is); (case z14 => k_is); (case mg1 => k_is)
