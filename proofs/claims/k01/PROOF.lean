import PyProof.Rows.All
import Wide.All
import OpenK.AllK
import Wide.FinOn
import PySem.Challenge.RW_neverhalves_k01_whole_plus_times_power
import HandS.ForMost
import HandS.ForExc
import HandS.Wide
import HandS.Evl
import HandS.Codes
import HandS.Style
import HandS.Defaults
import HandS.IsInst
import HandS.Exc
import HandS.ExcInit
import HandS.ExcField
import HandS.ExcIs
import HandS.TryMany
import HandS.Conv
import HandS.TupLe
import HandS.TupAny
import HandS.TupMul
import HandS.TupLen
import HandS.TupSets
import HandS.SortOrd
import HandS.Walk
import HandS.DictComp
import PyProof.FactsAll.tuple_2
import KE.GoesMore
import HandS.Gcd
import HandS.Words
import KE.KDictZip
import KE.KItemsList
import HandS.Star
import HandS.Zip
import KE.GoesZip
import PyProof.Draws
import HandS.WideBits
import HandS.Dict
import HandS.ListItems
import HandS.SetKeys
import HandS.Iter
import HandS.More
import HandS.SortKw
import HandS.DictSubView
import KE.KDictSum
import KE.KDictList
import PyProof.MinMaxWalk
import PyProof.WalkInts
import HandS.WordsDict
import PyProof.DictDisplay
import PyProof.DictTable
import PyProof.DictRoadsH
import HandS.SortInts
import HandS.RevRange
import HandS.Lambda
import HandS.Nested
import PyProof.Rows.TupDisplay
import KE.KNestM
import KE.KLam
import HandS.EndTab
import HandS.NestedK
set_option Elab.async false
set_option linter.all false
set_option maxRecDepth 100000
set_option maxHeartbeats 4000000
namespace NH
open PySem PySem.Spec PyProof.Rows L2
def topS (i : Nat) : Stmt := PySem.Challenge.pw_neverhalves_k01_whole_plus_times_power.main.body.getD i (.Pass ⟨0, 0, 0, 0⟩)
abbrev s_letter_of : Stmt := topS 7
abbrev N_letter_of : List Str := ["at", "many", "other"]
theorem sc_letter_of : FnScope N_letter_of ["at", "many"] (defScope s_letter_of) := ⟨rfl, rfl, rfl, by decide +kernel, rfl, by decide +kernel, by decide +kernel⟩
abbrev s_lines_of : Stmt := topS 8
abbrev N_lines_of : List Str := ["told", "rows", "powers", "_"]
theorem sc_lines_of : FnScope N_lines_of ["told"] (defScope s_lines_of) := ⟨rfl, rfl, rfl, by decide +kernel, rfl, by decide +kernel, by decide +kernel⟩
abbrev s_least_of : Stmt := topS 9
abbrev N_least_of : List Str := ["told", "line"]
theorem sc_least_of : FnScope N_least_of ["told"] (defScope s_least_of) := ⟨rfl, rfl, rfl, by decide +kernel, rfl, by decide +kernel, by decide +kernel⟩
abbrev s_moved : Stmt := topS 10
abbrev N_moved : List Str := ["told", "powers", "sign", "own", "coefficient", "one", "other"]
theorem sc_moved : FnScope N_moved ["told", "powers", "sign"] (defScope s_moved) := ⟨rfl, rfl, rfl, by decide +kernel, rfl, by decide +kernel, by decide +kernel⟩
abbrev s_sum_of_terms : Stmt := topS 11
abbrev N_sum_of_terms : List Str := ["terms", "powers"]
theorem sc_sum_of_terms : FnScope N_sum_of_terms ["terms"] (defScope s_sum_of_terms) := ⟨rfl, rfl, rfl, by decide +kernel, rfl, by decide +kernel, by decide +kernel⟩
abbrev s_added : Stmt := topS 12
abbrev N_added : List Str := ["one", "other", "powers", "coefficient", "terms"]
theorem sc_added : FnScope N_added ["one", "other"] (defScope s_added) := ⟨rfl, rfl, rfl, by decide +kernel, rfl, by decide +kernel, by decide +kernel⟩
abbrev s_with_powers : Stmt := topS 13
abbrev N_with_powers : List Str := ["told", "change", "terms", "powers", "coefficient", "key"]
theorem sc_with_powers : FnScope N_with_powers ["told", "change"] (defScope s_with_powers) := ⟨rfl, rfl, rfl, by decide +kernel, rfl, by decide +kernel, by decide +kernel⟩
abbrev s_without_letters : Stmt := topS 14
abbrev N_without_letters : List Str := ["told", "places", "gone", "place", "at", "power"]
theorem sc_without_letters : FnScope N_without_letters ["told", "places"] (defScope s_without_letters) := ⟨rfl, rfl, rfl, by decide +kernel, rfl, by decide +kernel, by decide +kernel⟩
abbrev s_reach_of : Stmt := topS 15
abbrev N_reach_of : List Str := ["told", "powers", "_", "power"]
theorem sc_reach_of : FnScope N_reach_of ["told"] (defScope s_reach_of) := ⟨rfl, rfl, rfl, by decide +kernel, rfl, by decide +kernel, by decide +kernel⟩
abbrev s_width_for : Stmt := topS 16
abbrev N_width_for : List Str := ["reach"]
theorem sc_width_for : FnScope N_width_for ["reach"] (defScope s_width_for) := ⟨rfl, rfl, rfl, by decide +kernel, rfl, by decide +kernel, by decide +kernel⟩
abbrev s_packed : Stmt := topS 17
abbrev N_packed : List Str := ["told", "bits", "terms", "powers", "coefficient", "key", "power"]
theorem sc_packed : FnScope N_packed ["told", "bits"] (defScope s_packed) := ⟨rfl, rfl, rfl, by decide +kernel, rfl, by decide +kernel, by decide +kernel⟩
abbrev s_unpacker : Stmt := topS 18
abbrev N_unpacker : List Str := ["many", "bits", "half", "shifts", "at", "shift"]
theorem sc_unpacker : FnScope N_unpacker ["many", "bits"] (defScope s_unpacker) := ⟨rfl, rfl, rfl, by decide +kernel, rfl, by decide +kernel, by decide +kernel⟩
abbrev s_powers_at : Stmt := topS 19
abbrev N_powers_at : List Str := ["key", "form", "offset", "mask", "shifts", "half", "full", "shift"]
theorem sc_powers_at : FnScope N_powers_at ["key", "form"] (defScope s_powers_at) := ⟨rfl, rfl, rfl, by decide +kernel, rfl, by decide +kernel, by decide +kernel⟩
abbrev s_unpacked : Stmt := topS 20
abbrev N_unpacked : List Str := ["terms", "many", "bits", "form", "key"]
theorem sc_unpacked : FnScope N_unpacked ["terms", "many", "bits"] (defScope s_unpacked) := ⟨rfl, rfl, rfl, by decide +kernel, rfl, by decide +kernel, by decide +kernel⟩
abbrev s_packed_plus : Stmt := topS 21
abbrev N_packed_plus : List Str := ["one", "other", "key", "terms", "coefficient"]
theorem sc_packed_plus : FnScope N_packed_plus ["one", "other"] (defScope s_packed_plus) := ⟨rfl, rfl, rfl, by decide +kernel, rfl, by decide +kernel, by decide +kernel⟩
abbrev s_packed_times : Stmt := topS 22
abbrev N_packed_times : List Str := ["one", "other", "pairs", "terms", "key", "coefficient", "further", "factor", "at"]
theorem sc_packed_times : FnScope N_packed_times ["one", "other"] (defScope s_packed_times) := ⟨rfl, rfl, rfl, by decide +kernel, rfl, by decide +kernel, by decide +kernel⟩
abbrev s_whole_power : Stmt := topS 23
abbrev N_whole_power : List Str := ["base", "times", "result"]
theorem sc_whole_power : FnScope N_whole_power ["base", "times"] (defScope s_whole_power) := ⟨rfl, rfl, rfl, by decide +kernel, rfl, by decide +kernel, by decide +kernel⟩
abbrev s_packed_by_power : Stmt := topS 24
abbrev N_packed_by_power : List Str := ["terms", "factor", "times", "key", "_"]
theorem sc_packed_by_power : FnScope N_packed_by_power ["terms", "factor", "times"] (defScope s_packed_by_power) := ⟨rfl, rfl, rfl, by decide +kernel, rfl, by decide +kernel, by decide +kernel⟩
abbrev s_product_of : Stmt := topS 25
abbrev N_product_of : List Str := ["factors", "many", "told", "times", "bits", "terms"]
theorem sc_product_of : FnScope N_product_of ["factors", "many"] (defScope s_product_of) := ⟨rfl, rfl, rfl, by decide +kernel, rfl, by decide +kernel, by decide +kernel⟩
abbrev s_lifted : Stmt := topS 26
abbrev N_lifted : List Str := ["told", "missing", "low"]
theorem sc_lifted : FnScope N_lifted ["told"] (defScope s_lifted) := ⟨rfl, rfl, rfl, by decide +kernel, rfl, by decide +kernel, by decide +kernel⟩
abbrev s_value_of : Stmt := topS 27
abbrev N_value_of : List Str := ["told", "numbers", "missing", "terms", "number", "top", "bottom", "times", "common"]
theorem sc_value_of : FnScope N_value_of ["told", "numbers"] (defScope s_value_of) := ⟨rfl, rfl, rfl, by decide +kernel, rfl, by decide +kernel, by decide +kernel⟩
abbrev s_gathered : Stmt := topS 28
abbrev N_gathered : List Str := ["terms", "factors", "many", "groups", "powers", "coefficient", "result", "ahead", "power"]
theorem sc_gathered : FnScope N_gathered ["terms", "factors", "many"] (defScope s_gathered) := ⟨rfl, rfl, rfl, by decide +kernel, rfl, by decide +kernel, by decide +kernel⟩
abbrev s_is_sum : Stmt := topS 31
abbrev N_is_sum : List Str := ["told", "many", "at", "powers", "coefficient"]
theorem sc_is_sum : FnScope N_is_sum ["told", "many"] (defScope s_is_sum) := ⟨rfl, rfl, rfl, by decide +kernel, rfl, by decide +kernel, by decide +kernel⟩
abbrev s_check_sum : Stmt := topS 32
abbrev N_check_sum : List Str := ["told", "many"]
theorem sc_check_sum : FnScope N_check_sum ["told", "many"] (defScope s_check_sum) := ⟨rfl, rfl, rfl, by decide +kernel, rfl, by decide +kernel, by decide +kernel⟩
abbrev s_letters_of : Stmt := topS 33
abbrev N_letters_of : List Str := ["sums", "many", "told"]
theorem sc_letters_of : FnScope N_letters_of ["sums"] (defScope s_letters_of) := ⟨rfl, rfl, rfl, by decide +kernel, rfl, by decide +kernel, by decide +kernel⟩
abbrev s_letter : Stmt := topS 34
abbrev N_letter : List Str := ["at", "many"]
theorem sc_letter : FnScope N_letter ["at", "many"] (defScope s_letter) := ⟨rfl, rfl, rfl, by decide +kernel, rfl, by decide +kernel, by decide +kernel⟩
abbrev s_plus : Stmt := topS 35
abbrev N_plus : List Str := ["one", "other"]
theorem sc_plus : FnScope N_plus ["one", "other"] (defScope s_plus) := ⟨rfl, rfl, rfl, by decide +kernel, rfl, by decide +kernel, by decide +kernel⟩
abbrev s_times : Stmt := topS 36
abbrev N_times : List Str := ["one", "other", "many"]
theorem sc_times : FnScope N_times ["one", "other"] (defScope s_times) := ⟨rfl, rfl, rfl, by decide +kernel, rfl, by decide +kernel, by decide +kernel⟩
abbrev s_power : Stmt := topS 37
abbrev N_power : List Str := ["one", "times", "many"]
theorem sc_power : FnScope N_power ["one", "times"] (defScope s_power) := ⟨rfl, rfl, rfl, by decide +kernel, rfl, by decide +kernel, by decide +kernel⟩
abbrev s_least_powers : Stmt := topS 38
abbrev N_least_powers : List Str := ["one"]
theorem sc_least_powers : FnScope N_least_powers ["one"] (defScope s_least_powers) := ⟨rfl, rfl, rfl, by decide +kernel, rfl, by decide +kernel, by decide +kernel⟩
abbrev s_freed : Stmt := topS 39
abbrev N_freed : List Str := ["one"]
theorem sc_freed : FnScope N_freed ["one"] (defScope s_freed) := ⟨rfl, rfl, rfl, by decide +kernel, rfl, by decide +kernel, by decide +kernel⟩
abbrev s_ones : Stmt := topS 40
abbrev N_ones : List Str := ["one", "places", "many", "place"]
theorem sc_ones : FnScope N_ones ["one", "places"] (defScope s_ones) := ⟨rfl, rfl, rfl, by decide +kernel, rfl, by decide +kernel, by decide +kernel⟩
abbrev s_value : Stmt := topS 41
abbrev N_value : List Str := ["one", "numbers", "many"]
theorem sc_value : FnScope N_value ["one", "numbers"] (defScope s_value) := ⟨rfl, rfl, rfl, by decide +kernel, rfl, by decide +kernel, by decide +kernel⟩
abbrev s__law_stock : Stmt := topS 43
abbrev N__law_stock : List Str := ["_law_script", "_law_stock_here", "_law_cell"]
theorem sc__law_stock : FnScope N__law_stock ["_law_script"] (defScope s__law_stock) := ⟨rfl, rfl, rfl, by decide +kernel, rfl, by decide +kernel, by decide +kernel⟩
abbrev s__law_pick : Stmt := topS 44
abbrev N__law_pick : List Str := ["_law_stock_here", "_law_limit", "_law_found", "_law_turn"]
theorem sc__law_pick : FnScope N__law_pick ["_law_stock_here", "_law_limit"] (defScope s__law_pick) := ⟨rfl, rfl, rfl, by decide +kernel, rfl, by decide +kernel, by decide +kernel⟩
abbrev s__law_wide : Stmt := topS 45
abbrev N__law_wide : List Str := ["_law_stock_here", "_law_limit", "_law_total", "_law_k"]
theorem sc__law_wide : FnScope N__law_wide ["_law_stock_here", "_law_limit"] (defScope s__law_wide) := ⟨rfl, rfl, rfl, by decide +kernel, rfl, by decide +kernel, by decide +kernel⟩
abbrev s__law_same : Stmt := topS 46
abbrev N__law_same : List Str := ["_law_told", "_law_due", "_law_one", "_law_other"]
theorem sc__law_same : FnScope N__law_same ["_law_told", "_law_due"] (defScope s__law_same) := ⟨rfl, rfl, rfl, by decide +kernel, rfl, by decide +kernel, by decide +kernel⟩
abbrev s__law_written : Stmt := topS 47
abbrev N__law_written : List Str := ["_law_terms_here", "_law_powers"]
theorem sc__law_written : FnScope N__law_written ["_law_terms_here"] (defScope s__law_written) := ⟨rfl, rfl, rfl, by decide +kernel, rfl, by decide +kernel, by decide +kernel⟩
abbrev s__law_plus : Stmt := topS 48
abbrev N__law_plus : List Str := ["_law_one", "_law_other", "_law_result", "_law_terms_here", "_law_powers"]
theorem sc__law_plus : FnScope N__law_plus ["_law_one", "_law_other"] (defScope s__law_plus) := ⟨rfl, rfl, rfl, by decide +kernel, rfl, by decide +kernel, by decide +kernel⟩
abbrev s__law_times : Stmt := topS 49
abbrev N__law_times : List Str := ["_law_one", "_law_other", "_law_result", "_law_powers", "_law_more", "_law_key", "_law_a", "_law_b"]
theorem sc__law_times : FnScope N__law_times ["_law_one", "_law_other"] (defScope s__law_times) := ⟨rfl, rfl, rfl, by decide +kernel, rfl, by decide +kernel, by decide +kernel⟩
abbrev s__law_terms : Stmt := topS 50
abbrev N__law_terms : List Str := ["_law_stock_here", "_law_many", "_law_most", "_law_span", "_law_great", "_law_terms_here", "_law_k", "_law_powers", "_law_j"]
theorem sc__law_terms : FnScope N__law_terms ["_law_stock_here", "_law_many", "_law_most", "_law_span", "_law_great"] (defScope s__law_terms) := ⟨rfl, rfl, rfl, by decide +kernel, rfl, by decide +kernel, by decide +kernel⟩
abbrev s__law_two : Stmt := topS 51
abbrev N__law_two : List Str := ["_law_stock_here", "_law_many", "_law_way", "_law_span", "_law_great", "_law_one", "_law_other", "_law_powers"]
theorem sc__law_two : FnScope N__law_two ["_law_stock_here", "_law_many"] (defScope s__law_two) := ⟨rfl, rfl, rfl, by decide +kernel, rfl, by decide +kernel, by decide +kernel⟩
abbrev s__law_long : Stmt := topS 52
abbrev N__law_long : List Str := ["_law_stock_here", "_law_many", "_law_count", "_law_steps", "_law_sign", "_law_great", "_law_terms_here", "_law_k", "_law_powers", "_law_j", "_law_a", "_law_b", "_law_c"]
theorem sc__law_long : FnScope N__law_long ["_law_stock_here", "_law_many", "_law_count"] (defScope s__law_long) := ⟨rfl, rfl, rfl, by decide +kernel, rfl, by decide +kernel, by decide +kernel⟩
abbrev s__law_is_power : Stmt := topS 53
abbrev N__law_is_power : List Str := ["_law_one", "_law_terms_here", "_law_most", "_law_due", "_law_k"]
theorem sc__law_is_power : FnScope N__law_is_power ["_law_one", "_law_terms_here", "_law_most"] (defScope s__law_is_power) := ⟨rfl, rfl, rfl, by decide +kernel, rfl, by decide +kernel, by decide +kernel⟩
abbrev s__law_goes_on : Stmt := topS 54
abbrev N__law_goes_on : List Str := ["_law_stock_here", "_law_whole", "_law_many", "_law_one", "_law_place", "_law_j", "_law_made", "_law_least", "_law_flat", "_law_below", "_law_powers", "_law_number", "_law_key", "_law_due", "_law_numbers", "_law_total", "_law_high", "_law_low"]
theorem sc__law_goes_on : FnScope N__law_goes_on ["_law_stock_here", "_law_whole", "_law_many"] (defScope s__law_goes_on) := ⟨rfl, rfl, rfl, by decide +kernel, rfl, by decide +kernel, by decide +kernel⟩
abbrev s__law_is_right : Stmt := topS 55
abbrev N__law_is_right : List Str := ["_law_first", "_law_second", "_law_one", "_law_other", "_law_due"]
theorem sc__law_is_right : FnScope N__law_is_right ["_law_first", "_law_second"] (defScope s__law_is_right) := ⟨rfl, rfl, rfl, by decide +kernel, rfl, by decide +kernel, by decide +kernel⟩
abbrev s_law : Stmt := topS 56
abbrev N_law : List Str := ["_law_script", "_law_stock_here", "_law_turn", "_law_many", "_law_first", "_law_second", "_law_one", "_law_other", "_law_most", "_law_few", "_law_whole", "_law_j"]
theorem sc_law : FnScope N_law ["_law_script"] (defScope s_law) := ⟨rfl, rfl, rfl, by decide +kernel, rfl, by decide +kernel, by decide +kernel⟩
abbrev s_SwapError_init : Stmt := (match topS 2 with | .ClassDef _ _ _ b _ _ _ _ _ _ _ => b.getD 0 (.Pass ⟨0, 0, 0, 0⟩) | _ => .Pass ⟨0, 0, 0, 0⟩)
abbrev i_letter_of : Nat := 0
abbrev i_lines_of : Nat := 1
abbrev i_least_of : Nat := 2
abbrev i_moved : Nat := 3
abbrev i_sum_of_terms : Nat := 4
abbrev i_added : Nat := 5
abbrev i_with_powers : Nat := 6
abbrev i_without_letters : Nat := 7
abbrev i_reach_of : Nat := 8
abbrev i_width_for : Nat := 9
abbrev i_packed : Nat := 10
abbrev i_unpacker : Nat := 11
abbrev i_powers_at : Nat := 12
abbrev i_unpacked : Nat := 13
abbrev i_packed_plus : Nat := 14
abbrev i_packed_times : Nat := 15
abbrev i_whole_power : Nat := 16
abbrev i_packed_by_power : Nat := 17
abbrev i_product_of : Nat := 18
abbrev i_lifted : Nat := 19
abbrev i_value_of : Nat := 20
abbrev i_gathered : Nat := 21
abbrev i_is_sum : Nat := 22
abbrev i_check_sum : Nat := 23
abbrev i_letters_of : Nat := 24
abbrev i_letter : Nat := 25
abbrev i_plus : Nat := 26
abbrev i_times : Nat := 27
abbrev i_power : Nat := 28
abbrev i_least_powers : Nat := 29
abbrev i_freed : Nat := 30
abbrev i_ones : Nat := 31
abbrev i_value : Nat := 32
abbrev i__law_stock : Nat := 33
abbrev i__law_pick : Nat := 34
abbrev i__law_wide : Nat := 35
abbrev i__law_same : Nat := 36
abbrev i__law_written : Nat := 37
abbrev i__law_plus : Nat := 38
abbrev i__law_times : Nat := 39
abbrev i__law_terms : Nat := 40
abbrev i__law_two : Nat := 41
abbrev i__law_long : Nat := 42
abbrev i__law_is_power : Nat := 43
abbrev i__law_goes_on : Nat := 44
abbrev i__law_is_right : Nat := 45
abbrev i_law : Nat := 46
abbrev c_SwapError : Nat := 0
abbrev c_InvalidSum : Nat := 1
abbrev c_InvalidNumber : Nat := 2
abbrev c_InvalidNumbers : Nat := 3
/-- where the defs stand -/
structure Defs (K : PySem.W.Frag) (mg : Str → Option Value) (f : Nat → Addr) (d : Nat → FuncData) : Prop where
  F_letter_of : Fun K "letter_of" "letter_of" s_letter_of (f i_letter_of) (d i_letter_of)
  b_letter_of : Binds K (d i_letter_of) ["at", "many"] []
  g_letter_of : mg "letter_of" = some (.ref (f i_letter_of))
  F_lines_of : Fun K "lines_of" "lines_of" s_lines_of (f i_lines_of) (d i_lines_of)
  b_lines_of : Binds K (d i_lines_of) ["told"] []
  g_lines_of : mg "lines_of" = some (.ref (f i_lines_of))
  F_least_of : Fun K "least_of" "least_of" s_least_of (f i_least_of) (d i_least_of)
  b_least_of : Binds K (d i_least_of) ["told"] []
  g_least_of : mg "least_of" = some (.ref (f i_least_of))
  F_moved : Fun K "moved" "moved" s_moved (f i_moved) (d i_moved)
  b_moved : Binds K (d i_moved) ["told", "powers", "sign"] []
  g_moved : mg "moved" = some (.ref (f i_moved))
  F_sum_of_terms : Fun K "sum_of_terms" "sum_of_terms" s_sum_of_terms (f i_sum_of_terms) (d i_sum_of_terms)
  b_sum_of_terms : Binds K (d i_sum_of_terms) ["terms"] []
  g_sum_of_terms : mg "sum_of_terms" = some (.ref (f i_sum_of_terms))
  F_added : Fun K "added" "added" s_added (f i_added) (d i_added)
  b_added : Binds K (d i_added) ["one", "other"] []
  g_added : mg "added" = some (.ref (f i_added))
  F_with_powers : Fun K "with_powers" "with_powers" s_with_powers (f i_with_powers) (d i_with_powers)
  b_with_powers : Binds K (d i_with_powers) ["told", "change"] []
  g_with_powers : mg "with_powers" = some (.ref (f i_with_powers))
  F_without_letters : Fun K "without_letters" "without_letters" s_without_letters (f i_without_letters) (d i_without_letters)
  b_without_letters : Binds K (d i_without_letters) ["told", "places"] []
  g_without_letters : mg "without_letters" = some (.ref (f i_without_letters))
  F_reach_of : Fun K "reach_of" "reach_of" s_reach_of (f i_reach_of) (d i_reach_of)
  b_reach_of : Binds K (d i_reach_of) ["told"] []
  g_reach_of : mg "reach_of" = some (.ref (f i_reach_of))
  F_width_for : Fun K "width_for" "width_for" s_width_for (f i_width_for) (d i_width_for)
  b_width_for : Binds K (d i_width_for) ["reach"] []
  g_width_for : mg "width_for" = some (.ref (f i_width_for))
  F_packed : Fun K "packed" "packed" s_packed (f i_packed) (d i_packed)
  b_packed : Binds K (d i_packed) ["told", "bits"] []
  g_packed : mg "packed" = some (.ref (f i_packed))
  F_unpacker : Fun K "unpacker" "unpacker" s_unpacker (f i_unpacker) (d i_unpacker)
  b_unpacker : Binds K (d i_unpacker) ["many", "bits"] []
  g_unpacker : mg "unpacker" = some (.ref (f i_unpacker))
  F_powers_at : Fun K "powers_at" "powers_at" s_powers_at (f i_powers_at) (d i_powers_at)
  b_powers_at : Binds K (d i_powers_at) ["key", "form"] []
  g_powers_at : mg "powers_at" = some (.ref (f i_powers_at))
  F_unpacked : Fun K "unpacked" "unpacked" s_unpacked (f i_unpacked) (d i_unpacked)
  b_unpacked : Binds K (d i_unpacked) ["terms", "many", "bits"] []
  g_unpacked : mg "unpacked" = some (.ref (f i_unpacked))
  F_packed_plus : Fun K "packed_plus" "packed_plus" s_packed_plus (f i_packed_plus) (d i_packed_plus)
  b_packed_plus : Binds K (d i_packed_plus) ["one", "other"] []
  g_packed_plus : mg "packed_plus" = some (.ref (f i_packed_plus))
  F_packed_times : Fun K "packed_times" "packed_times" s_packed_times (f i_packed_times) (d i_packed_times)
  b_packed_times : Binds K (d i_packed_times) ["one", "other"] []
  g_packed_times : mg "packed_times" = some (.ref (f i_packed_times))
  F_whole_power : Fun K "whole_power" "whole_power" s_whole_power (f i_whole_power) (d i_whole_power)
  b_whole_power : Binds K (d i_whole_power) ["base", "times"] []
  g_whole_power : mg "whole_power" = some (.ref (f i_whole_power))
  F_packed_by_power : Fun K "packed_by_power" "packed_by_power" s_packed_by_power (f i_packed_by_power) (d i_packed_by_power)
  b_packed_by_power : Binds K (d i_packed_by_power) ["terms", "factor", "times"] []
  g_packed_by_power : mg "packed_by_power" = some (.ref (f i_packed_by_power))
  F_product_of : Fun K "product_of" "product_of" s_product_of (f i_product_of) (d i_product_of)
  b_product_of : Binds K (d i_product_of) ["factors", "many"] []
  g_product_of : mg "product_of" = some (.ref (f i_product_of))
  F_lifted : Fun K "lifted" "lifted" s_lifted (f i_lifted) (d i_lifted)
  b_lifted : Binds K (d i_lifted) ["told"] []
  g_lifted : mg "lifted" = some (.ref (f i_lifted))
  F_value_of : Fun K "value_of" "value_of" s_value_of (f i_value_of) (d i_value_of)
  b_value_of : Binds K (d i_value_of) ["told", "numbers"] []
  g_value_of : mg "value_of" = some (.ref (f i_value_of))
  F_gathered : Fun K "gathered" "gathered" s_gathered (f i_gathered) (d i_gathered)
  b_gathered : Binds K (d i_gathered) ["terms", "factors", "many"] []
  g_gathered : mg "gathered" = some (.ref (f i_gathered))
  F_is_sum : Fun K "is_sum" "is_sum" s_is_sum (f i_is_sum) (d i_is_sum)
  b_is_sum : Binds K (d i_is_sum) ["told", "many"] []
  g_is_sum : mg "is_sum" = some (.ref (f i_is_sum))
  F_check_sum : Fun K "check_sum" "check_sum" s_check_sum (f i_check_sum) (d i_check_sum)
  b_check_sum : Binds K (d i_check_sum) ["told", "many"] []
  g_check_sum : mg "check_sum" = some (.ref (f i_check_sum))
  F_letters_of : Fun K "letters_of" "letters_of" s_letters_of (f i_letters_of) (d i_letters_of)
  b_letters_of : Binds K (d i_letters_of) ["sums"] []
  g_letters_of : mg "letters_of" = some (.ref (f i_letters_of))
  F_letter : Fun K "letter" "letter" s_letter (f i_letter) (d i_letter)
  b_letter : Binds K (d i_letter) ["at", "many"] []
  g_letter : mg "letter" = some (.ref (f i_letter))
  F_plus : Fun K "plus" "plus" s_plus (f i_plus) (d i_plus)
  b_plus : Binds K (d i_plus) ["one", "other"] []
  g_plus : mg "plus" = some (.ref (f i_plus))
  F_times : Fun K "times" "times" s_times (f i_times) (d i_times)
  b_times : Binds K (d i_times) ["one", "other"] []
  g_times : mg "times" = some (.ref (f i_times))
  F_power : Fun K "power" "power" s_power (f i_power) (d i_power)
  b_power : Binds K (d i_power) ["one", "times"] []
  g_power : mg "power" = some (.ref (f i_power))
  F_least_powers : Fun K "least_powers" "least_powers" s_least_powers (f i_least_powers) (d i_least_powers)
  b_least_powers : Binds K (d i_least_powers) ["one"] []
  g_least_powers : mg "least_powers" = some (.ref (f i_least_powers))
  F_freed : Fun K "freed" "freed" s_freed (f i_freed) (d i_freed)
  b_freed : Binds K (d i_freed) ["one"] []
  g_freed : mg "freed" = some (.ref (f i_freed))
  F_ones : Fun K "ones" "ones" s_ones (f i_ones) (d i_ones)
  b_ones : Binds K (d i_ones) ["one", "places"] []
  g_ones : mg "ones" = some (.ref (f i_ones))
  F_value : Fun K "value" "value" s_value (f i_value) (d i_value)
  b_value : Binds K (d i_value) ["one", "numbers"] []
  g_value : mg "value" = some (.ref (f i_value))
  F__law_stock : Fun K "_law_stock" "_law_stock" s__law_stock (f i__law_stock) (d i__law_stock)
  b__law_stock : Binds K (d i__law_stock) ["_law_script"] []
  g__law_stock : mg "_law_stock" = some (.ref (f i__law_stock))
  F__law_pick : Fun K "_law_pick" "_law_pick" s__law_pick (f i__law_pick) (d i__law_pick)
  b__law_pick : Binds K (d i__law_pick) ["_law_stock_here", "_law_limit"] []
  g__law_pick : mg "_law_pick" = some (.ref (f i__law_pick))
  F__law_wide : Fun K "_law_wide" "_law_wide" s__law_wide (f i__law_wide) (d i__law_wide)
  b__law_wide : Binds K (d i__law_wide) ["_law_stock_here", "_law_limit"] []
  g__law_wide : mg "_law_wide" = some (.ref (f i__law_wide))
  F__law_same : Fun K "_law_same" "_law_same" s__law_same (f i__law_same) (d i__law_same)
  b__law_same : Binds K (d i__law_same) ["_law_told", "_law_due"] []
  g__law_same : mg "_law_same" = some (.ref (f i__law_same))
  F__law_written : Fun K "_law_written" "_law_written" s__law_written (f i__law_written) (d i__law_written)
  b__law_written : Binds K (d i__law_written) ["_law_terms_here"] []
  g__law_written : mg "_law_written" = some (.ref (f i__law_written))
  F__law_plus : Fun K "_law_plus" "_law_plus" s__law_plus (f i__law_plus) (d i__law_plus)
  b__law_plus : Binds K (d i__law_plus) ["_law_one", "_law_other"] []
  g__law_plus : mg "_law_plus" = some (.ref (f i__law_plus))
  F__law_times : Fun K "_law_times" "_law_times" s__law_times (f i__law_times) (d i__law_times)
  b__law_times : Binds K (d i__law_times) ["_law_one", "_law_other"] []
  g__law_times : mg "_law_times" = some (.ref (f i__law_times))
  F__law_terms : Fun K "_law_terms" "_law_terms" s__law_terms (f i__law_terms) (d i__law_terms)
  b__law_terms : Binds K (d i__law_terms) ["_law_stock_here", "_law_many", "_law_most", "_law_span", "_law_great"] []
  g__law_terms : mg "_law_terms" = some (.ref (f i__law_terms))
  F__law_two : Fun K "_law_two" "_law_two" s__law_two (f i__law_two) (d i__law_two)
  b__law_two : Binds K (d i__law_two) ["_law_stock_here", "_law_many"] []
  g__law_two : mg "_law_two" = some (.ref (f i__law_two))
  F__law_long : Fun K "_law_long" "_law_long" s__law_long (f i__law_long) (d i__law_long)
  b__law_long : Binds K (d i__law_long) ["_law_stock_here", "_law_many", "_law_count"] []
  g__law_long : mg "_law_long" = some (.ref (f i__law_long))
  F__law_is_power : Fun K "_law_is_power" "_law_is_power" s__law_is_power (f i__law_is_power) (d i__law_is_power)
  b__law_is_power : Binds K (d i__law_is_power) ["_law_one", "_law_terms_here", "_law_most"] []
  g__law_is_power : mg "_law_is_power" = some (.ref (f i__law_is_power))
  F__law_goes_on : Fun K "_law_goes_on" "_law_goes_on" s__law_goes_on (f i__law_goes_on) (d i__law_goes_on)
  b__law_goes_on : Binds K (d i__law_goes_on) ["_law_stock_here", "_law_whole", "_law_many"] []
  g__law_goes_on : mg "_law_goes_on" = some (.ref (f i__law_goes_on))
  F__law_is_right : Fun K "_law_is_right" "_law_is_right" s__law_is_right (f i__law_is_right) (d i__law_is_right)
  b__law_is_right : Binds K (d i__law_is_right) ["_law_first", "_law_second"] []
  g__law_is_right : mg "_law_is_right" = some (.ref (f i__law_is_right))
  z_ValueError : mg "ValueError" = none
  z_abs : mg "abs" = none
  z_bool : mg "bool" = none
  z_enumerate : mg "enumerate" = none
  z_int : mg "int" = none
  z_isinstance : mg "isinstance" = none
  z_len : mg "len" = none
  z_list : mg "list" = none
  z_max : mg "max" = none
  z_min : mg "min" = none
  z_range : mg "range" = none
  z_reversed : mg "reversed" = none
  z_sorted : mg "sorted" = none
  z_str : mg "str" = none
  z_sum : mg "sum" = none
  z_tuple : mg "tuple" = none
  z_zip : mg "zip" = none
end NH
set_option Elab.async false
set_option linter.all false
set_option maxRecDepth 100000
namespace R1
open PySem PySem.Spec PyProof.Rows L2
/-! ### the order of lists of ints -/
theorem lex_irrefl : ∀ ns : List Int, HT.lexLt ns ns = false
  | [] => rfl
  | x :: r => by rw [HT.lexLt_cons, if_pos rfl]; exact lex_irrefl r
theorem lex_asym : ∀ ns ms : List Int, HT.lexLt ns ms = true → HT.lexLt ms ns = false
  | [], [], h => by cases h
  | [], _ :: _, _ => rfl
  | _ :: _, [], h => by cases h
  | x :: r, y :: q, h => by
    rw [HT.lexLt_cons] at h ⊢
    by_cases e : x = y
    · rw [if_pos e] at h
      rw [if_pos e.symm]
      exact lex_asym r q h
    · rw [if_neg e] at h
      rw [if_neg (fun z => e z.symm)]
      have := of_decide_eq_true h
      exact decide_eq_false (by omega)
theorem lex_tr : ∀ x y z : List Int, HT.lexLt x y = false → HT.lexLt z x = false → HT.lexLt z y = false
  | [], [], z, _, h => h
  | [], _ :: _, _, h, _ => by cases h
  | _ :: _, _, [], _, h => by cases h
  | _ :: _, [], _ :: _, _, _ => rfl
  | x :: r, y :: q, z :: s, h1, h2 => by
    rw [HT.lexLt_cons] at h1 h2 ⊢
    by_cases e1 : x = y
    · rw [if_pos e1] at h1
      by_cases e2 : z = x
      · rw [if_pos e2] at h2
        rw [if_pos (e2.trans e1)]
        exact lex_tr r q s h1 h2
      · rw [if_neg e2] at h2
        have := of_decide_eq_false h2
        rw [if_neg (by omega)]
        exact decide_eq_false (by omega)
    · rw [if_neg e1] at h1
      have a1 := of_decide_eq_false h1
      by_cases e2 : z = x
      · rw [if_neg (by omega)]
        exact decide_eq_false (by omega)
      · rw [if_neg e2] at h2
        have a2 := of_decide_eq_false h2
        rw [if_neg (by omega)]
        exact decide_eq_false (by omega)

theorem swo_lexK {α : Type} (k : α → List Int) : SrtO.Swo fun v u => HT.lexLt (k v) (k u) :=
  ⟨fun x y h => lex_asym _ _ h, fun x y z h1 h2 => lex_tr _ _ _ h1 h2⟩
section
variable {prog : Program} {w : World} {A : Around} {E : Value → Shared → Prop} {s : Shared}
theorem kat_ints {Q : Bool → Shared → Prop} : ∀ (i : Nat) {vs us : List Value} {ns ms : List Int}, IntsAre vs ns → IntsAre us ms → Q (HT.lexLt ns ms) s → PySem.W.KatLex prog w A true (decide (ns.length < ms.length)) Q (vs.zip us) i s
  | i, _, _, [], [], .nil, .nil, q => q
  | i, _, _, [], m :: ms, .nil, .cons _ _ _, q => by
    have e : decide (([] : List Int).length < (m :: ms).length) = true := decide_eq_true (by simp)
    rw [e]
    exact q
  | i, _, _, _ :: _, [], .cons _ _ _, .nil, q => by
    rw [decide_eq_false (by simp)]
    exact q
  | i, _, _, n :: ns, m :: ms, .cons _ t r, .cons _ t' r', q => by
    refine PySem.W.kat_cons (SeqAt.EqAt.int_int _ _ _ _ prog w _ _ ?_)
    rw [HT.lexLt_cons] at q
    refine PySem.W.kat_go (fun e1 => ?_) (fun e1 => ?_)
    · have ex : n = m := by simpa using e1
      rw [if_pos ex] at q
      have z := kat_ints (Q := Q) (i + 1) r r' q
      refine PySem.W.kat_yes ?_
      have e2 : decide ((n :: ns).length < (m :: ms).length) = decide (ns.length < ms.length) := by simp
      rw [e2]
      exact z
    · have ex : ¬ n = m := by simpa using e1
      rw [if_neg ex] at q
      exact PySem.W.kat_no (TS.oneLt_ints _ q)
theorem firsts {h : Heap} : ∀ vs : List Value, (∀ v ∈ vs, ∃ ns, TS.TupInts h v ns ∧ ns ≠ []) → ∃ fs, PySem.W.KatTups h vs fs ∧ fs.length = vs.length ∧ ∀ f, f ∈ fs → ∃ n t, f = Value.int n t
  | [], _ => ⟨[], PySem.W.KatTups.nil, rfl, fun f hf => by simp at hf⟩
  | v :: vs, x => by
    obtain ⟨fs, k, hl, hi⟩ := firsts vs fun u hu => x u (List.mem_cons_of_mem _ hu)
    obtain ⟨ns, ⟨a, xs, rfl, ⟨o, ho, hc, n, hdt⟩, i⟩, hn⟩ := x v (List.mem_cons_self ..)
    obtain ⟨y, ys, e⟩ : ∃ y ys, xs.toList = y :: ys := by
      cases q : xs.toList with
      | nil =>
        rw [q] at i
        cases i
        exact absurd rfl hn
      | cons y ys => exact ⟨y, ys, rfl⟩
    obtain ⟨m, t, hy⟩ := i.all y (by rw [e]; exact List.mem_cons_self ..)
    refine ⟨y :: fs, PySem.W.KatTups.cons ho hc hdt ?_ k, by simp [hl], ?_⟩
    · have z := congrArg (fun l : List Value => l[0]?) e
      simpa using z
    · intro f hf
      rcases List.mem_cons.mp hf with rfl | hf
      · exact ⟨m, t, hy⟩
      · exact hi f hf
theorem tup_cmp {vs : List Value} {k : Value → List Int} (hp : ∀ v ∈ vs, TS.TupInts s.heap v (k v)) : SrtO.Cmp prog w A s (tuples' true) (fun p => p.1 ∈ vs) (SrtO.lt2 fun v u => HT.lexLt (k v) (k u)) := by
  intro p q hm hm'
  obtain ⟨a, xs, e1, ⟨o, ho, hc, n, hdt⟩, i⟩ := hp _ hm
  obtain ⟨a', ys, e2, ⟨o', ho', hc', n', hdt'⟩, i'⟩ := hp _ hm'
  show wpAny (model prog w) A (keyLt' (tuples' true) p.1 q.1) (fun r s' => s' = s ∧ r = HT.lexLt (k p.1) (k q.1)) (fun _ _ => False) s
  have z := kat_ints (prog := prog) (w := w) (A := A) (s := s) (Q := fun r s' => s' = s ∧ r = HT.lexLt (k p.1) (k q.1)) 0 i i' ⟨rfl, rfl⟩
  rw [e1, e2] at z ⊢
  refine PySem.W.kat_lt ho hdt ho' hdt' ?_
  have l1 := i.length
  have l2 := i'.length
  rw [Array.length_toList] at l1 l2
  rw [e1] at l1
  rw [e2] at l2
  rw [l1, l2]
  exact z
theorem tups_sortable {a : Addr} {vs : List Value} {k : Value → List Int} (h0 : 0 < vs.length) (hp : ∀ v ∈ vs, TS.TupInts s.heap v (k v) ∧ k v ≠ []) (ha : ∀ o, s.heap.get? a = some o → o.cls ≠ .type "tuple") : SrtO.SortableO prog w A s a vs fun v u => HT.lexLt (k v) (k u) := by
  intro h' keep
  have hp' : ∀ v ∈ vs, TS.TupInts h' v (k v) := fun v hm => (hp v hm).1.keeps fun b o e c => keep b o (fun z => by subst z; exact ha o e c) e
  obtain ⟨fs, h1, h2, h3⟩ := firsts vs fun v hm => ⟨_, hp' v hm, (hp v hm).2⟩
  refine ⟨tuples' true, fun Q E hq => ?_, tup_cmp hp'⟩
  refine PySem.W.kat_kind (T := .type "int") h1 (by omega) (fun f hm => ?_) (by rfl) ?_
  · obtain ⟨x, t, rfl⟩ := h3 f hm
    exact PySem.W.Looks.now
  · have e : (Value.type "int" != Value.type "tuple") = true := by first | decide +kernel | rfl | decide
    rw [e]
    exact hq
end
/-! ### sorted(d), the keys of d tuples of ints -/
/-- a dict whose keys are tuples of ints -/
abbrev dI (kvs : List (List Int × V)) : HO := .dT (kvs.map fun p => (p.1.map Sum.inl, p.2))
def rSortedDT : List V → Hp → VK → Prop := fun vs H Q => ∃ (a : Addr) (kvs : List (List Int × V)), vs = [V.ref a] ∧ Rd H a (dI kvs) ∧ (∀ p ∈ kvs, p.1 ≠ []) ∧
  ∀ (ks : List (Addr × List Int)) (p : Addr), (ks.map (·.2)).Perm (kvs.map (·.1)) → ks.Pairwise (fun x y => HT.lexLt y.2 x.2 = false) → (∀ q ∈ ks, H q.1 = some (.tup (q.2.map V.int))) → H p = none →
    Q (.ref p) (upd H p (.lst (ks.map fun q => V.ref q.1)))
section
variable {X : Cx}
theorem keyIs_int {i : Int} {v : Value} (h : keyIs (.inl i) v = true) : ∃ t, v = .int i t := by
  rcases keyIs_shape h with ⟨j, t, e, ev⟩ | ⟨z, t, e, ev⟩
  · cases e
    exact ⟨t, ev⟩
  · cases e
theorem map_kV (ns : List Int) : (ns.map Sum.inl : List Key).map kV = ns.map V.int := by
  rw [List.map_map]
  rfl
theorem perm_lift {α β : Type} {f : α → β} {l₁ l₂ : List β} (h : l₁.Perm l₂) : ∀ L : List α, L.map f = l₂ → ∃ L' : List α, L'.Perm L ∧ L'.map f = l₁ := by
  induction h with
  | nil =>
    intro L e
    exact ⟨L, .refl _, e⟩
  | cons x _ ih =>
    intro L e
    cases L with
    | nil => cases e
    | cons y L =>
      obtain ⟨e1, e2⟩ := List.cons.inj e
      obtain ⟨L', p, em⟩ := ih L e2
      exact ⟨y :: L', p.cons y, by rw [List.map_cons, em, e1]⟩
  | swap x y l =>
    intro L e
    match L, e with
    | u :: v :: L, e =>
      obtain ⟨e1, e2⟩ := List.cons.inj e
      obtain ⟨e3, e4⟩ := List.cons.inj e2
      exact ⟨v :: u :: L, .swap _ _ _, by rw [List.map_cons, List.map_cons, e1, e3, e4]⟩
  | trans _ _ ih1 ih2 =>
    intro L e
    obtain ⟨L1, p1, e1⟩ := ih2 L e
    obtain ⟨L2, p2, e2⟩ := ih1 L1 e1
    exact ⟨L2, p2.trans p1, e2⟩
theorem rows_of {H : Hp} : ∀ {kvs : List (List Int × V)} {xs : List (List Key × Addr × Value)},
    Paired (fun (p : List Key × V) (q : List Key × Addr × Value) => p.1 = q.1 ∧ H q.2.1 = some (HO.tup (p.1.map kV)) ∧ L2.RelV p.2 q.2.2) (kvs.map fun p => ((p.1.map Sum.inl : List Key), p.2)) xs →
    ∃ L0 : List (Addr × List Int), L0.map (·.2) = kvs.map (·.1) ∧ xs.map (fun x => Value.ref x.2.1) = L0.map (fun q => Value.ref q.1) ∧ ∀ q ∈ L0, H q.1 = some (.tup (q.2.map V.int))
  | [], _, .nil => ⟨[], rfl, rfl, fun q h => by cases h⟩
  | p :: kvs, x :: xs, .cons r t => by
    obtain ⟨L0, e1, e2, e3⟩ := rows_of t
    refine ⟨(x.2.1, p.1) :: L0, by rw [List.map_cons, List.map_cons, e1], by rw [List.map_cons, List.map_cons, e2], fun q hq => ?_⟩
    rcases List.mem_cons.mp hq with rfl | hq
    · have := r.2.1
      rw [map_kV] at this
      exact this
    · exact e3 q hq
theorem cr_sortedDT (hc : X.calm = true) : CallR X (.builtin "sorted") rSortedDT := by
  intro pins s σ H vs us Q I r h
  obtain ⟨a, kvs, rfl, hd, hk, q⟩ := h
  obtain ⟨u, rfl, rx⟩ := vals1 r
  cases rx
  obtain ⟨z, hs, xs, pr, o, es, ep, ho, hx, hdt, he, hn⟩ := (show ObjOk X.prog X.w H s.heap a (dI kvs) from hd.ok I.hok)
  have l1 : es.size = xs.length := size_of_entries he
  have l2 : (kvs.map fun p => ((p.1.map Sum.inl : List Key), p.2)).length = xs.length := Paired.length pr
  rw [List.length_map] at l2 z
  refine Calls.call_function_entry PyProof.Rows.kind_sorted PyProof.Rows.plain_sorted PyProof.Rows.entry_sorted (PyProof.Rows.args_sorted1 _) ?_
  unfold Builtin.«sorted»
  refine wpAny_bind (m := checkCount "sorted" 1 1 _) (wpAny_pure ?_)
  refine wpAny_bind (PySem.W.kdu_collect (A := X.A.in1) (kdl_raw hs hx hdt) (I.ok.hd hc) ho (by omega) fun h' tk acc hk' hacc => ?_)
  have ea : acc.toList = xs.map fun x => Value.ref x.2.1 := by
    have hl : acc.toList.length = xs.length := by rw [Array.length_toList, hacc.1]; exact l1
    apply List.ext_getElem?
    intro j
    rw [List.getElem?_map]
    cases hj : acc.toList[j]? with
    | none =>
      have h1 := List.getElem?_eq_none_iff.mp hj
      rw [List.getElem?_eq_none (by omega)]
      all_goals rfl
    | some v =>
      obtain ⟨en, hen, hv⟩ := hacc.2 j v (by rw [← Array.getElem?_toList]; exact hj)
      have qe := entry_at he j
      rw [hen] at qe
      cases hb : xs[j]? with
      | none =>
        rw [hb] at qe
        exact nomatch (show some en = none from qe)
      | some b =>
        rw [hb] at qe
        have e2 : en = entryOfKey (tupleKind (mixKind X.prog X.w)) b := Option.some.inj qe
        rw [hv, e2]
        all_goals rfl
  have I1 : Inv X pins σ H { s with heap := h', toks := tk } := I.kept hk'
  obtain ⟨L0, m1, m2, m3⟩ := rows_of pr
  rw [m2] at ea
  have hvl : acc.toList.length ≤ sizeLine := by
    rw [ea, List.length_map]
    have := congrArg List.length m1
    rw [List.length_map, List.length_map] at this
    omega
  refine wpAny_bind (wpAny_newList ?_ hvl)
  have hoL : (h'.push (seqObj "list" acc.toList.toArray 0)).get? h'.objs.size = some (seqObj "list" acc.toList.toArray 0) := Heap.get?_push_size _ rfl
  have I2 : Inv X pins σ H { s with heap := h'.push (seqObj "list" acc.toList.toArray 0), toks := tk } := I1.kept fun b o e => Heap.get?_push_of_some _ e
  show wpAny _ _ _ _ _ { s with heap := h'.push (seqObj "list" acc.toList.toArray 0), toks := tk }
  have tk2 : ∀ q ∈ L0, TS.TupInts (h'.push (seqObj "list" acc.toList.toArray 0)) (.ref q.1) q.2 := fun q hq => tupI_raw I2 (.inl (.inl (m3 q hq)))
  have hne : ∀ q ∈ L0, q.2 ≠ [] := fun q hq => by
    have : q.2 ∈ kvs.map (·.1) := by
      rw [← m1]
      exact List.mem_map.mpr ⟨q, hq, rfl⟩
    obtain ⟨p, hp, e⟩ := List.mem_map.mp this
    rw [← e]
    exact hk p hp
  refine wpAny_bind (wpAny_holding (wpAny_call_entry PyProof.Rows.slot_list_sort ⟨_, hoL, rfl⟩ PyProof.Rows.entry_list_sort
    (SrtO.list_sort_ord (s := { s with heap := h'.push (seqObj "list" acc.toList.toArray 0), toks := tk }) (swo_lexK (TS.intsOf (h'.push (seqObj "list" acc.toList.toArray 0)))) hoL hvl
      (fun h2 => tups_sortable (by omega) (fun v hv => ?_) fun o e => ?_) fun out hs1 hb => ⟨_, rfl, ?_⟩) (PyProof.Rows.args_list_sort _)))
  · rw [ea] at hv
    obtain ⟨q, hq, e⟩ := List.mem_map.mp hv
    subst e
    have t := tk2 q hq
    rw [t.ints]
    exact ⟨t, hne q hq⟩
  · have e' : some o = some (seqObj "list" acc.toList.toArray 0) := e.symm.trans hoL
    cases e'
    intro c
    exact absurd (Value.type.inj c) (by decide)
  · obtain ⟨L', p1, e1⟩ := perm_lift (f := fun q : Addr × List Int => Value.ref q.1) hb.perm L0 ea.symm
    obtain ⟨e', he'⟩ := PyProof.Rows.sortedHeap_at (vs := acc.toList) (out := out.toArray) hoL
    have hlen : (L'.map fun q => V.ref q.1).length ≤ sizeLine := by
      rw [List.length_map, p1.length_eq]
      rw [ea, List.length_map] at hvl
      exact hvl
    have rv : Vals (L'.map fun q => V.ref q.1) out := by
      rw [← e1]
      clear e1 p1 hlen
      induction L' with
      | nil => exact .nil
      | cons q L ih => exact .cons rfl ih
    refine wpAny_pure ⟨_, rfl, .ref h'.objs.size, upd H h'.objs.size (.lst (L'.map fun q => V.ref q.1)), I1.laid (t' := tk) (fun b u e => ?_) (Nat.le_refl _)
      (show ObjOk X.prog X.w _ _ _ (.lst (L'.map fun q => V.ref q.1)) from ⟨hlen, out, e', rv, he'⟩), rfl, q L' _ ?_ ?_ (fun q hq => m3 q (p1.mem_iff.mp hq)) (I1.hok.fresh (Nat.le_refl _))⟩
    · have hb : b < h'.objs.size := Heap.lt_size e
      rw [PyProof.Rows.sortedHeap_old (Nat.ne_of_lt hb) (by rw [size_push']; exact Nat.lt_succ_of_lt hb)]
      exact Heap.get?_push_of_some _ e
    · rw [← m1]
      exact p1.map _
    · rw [← e1] at hs1
      refine List.Pairwise.imp_of_mem (fun {x y} hx hy h => ?_) (List.pairwise_map.mp hs1)
      have h : HT.lexLt (TS.intsOf (h'.push (seqObj "list" acc.toList.toArray 0)) (Value.ref y.1)) (TS.intsOf (h'.push (seqObj "list" acc.toList.toArray 0)) (Value.ref x.1)) = false := h
      rw [(tk2 x (p1.mem_iff.mp hx)).ints, (tk2 y (p1.mem_iff.mp hy)).ints] at h
      exact h
end
end R1
set_option Elab.async false
set_option linter.all false
set_option maxRecDepth 100000
namespace R1
open PySem PySem.Spec PyProof.Rows L2
/-! ### d != {} -/
section
variable {prog : Program} {w : World} {A : Around} {E : Value → Shared → Prop} {s : Shared}
theorem samePairs0 {nm : String} {a b : Addr} {oa ob : Obj} {es es' : Array DictEntry} {ep ep' : Nat} {Q : Bool → Shared → Prop} (ha : (a == sysModules) = false) (hb : (b == sysModules) = false)
    (hoa : s.heap.get? a = some oa) (hda : oa.data = .dict es ep) (hob : s.heap.get? b = some ob) (hdb : ob.data = .dict es' ep') (h0 : es'.size = 0) (h : Q (decide (es.size = 0)) s) :
    wpAny (model prog w) A (Builtin.Dict.samePairs nm a b) Q E s := by
  unfold Builtin.Dict.samePairs Builtin.Dict.showsAll
  rw [if_neg (show ¬ (a == sysModules) = true by rw [ha]; exact Bool.false_ne_true), if_neg (show ¬ (b == sysModules) = true by rw [hb]; exact Bool.false_ne_true)]
  refine wpAny_bind (wpAny_pure (wpAny_bind (wpAny_pure ?_)))
  refine wpAny_bind (wpAny_dictEntries hoa hda ?_)
  dsimp only
  refine wpAny_bind (wpAny_dictEntries hob hdb ?_)
  by_cases hsz : es.size = es'.size
  case neg =>
    rw [if_pos (by simpa using hsz)]
    rw [decide_eq_false (by omega)] at h
    exact wpAny_bind (wpAny_rule (wpAny_pure h))
  case pos =>
    rw [decide_eq_true (by omega)] at h
    rw [if_neg (by rw [hsz]; simp)]
    refine wpAny_bind (wpAny_dictEpoch hoa hda ?_)
    refine wpAny_bind ?_
    rw [Std.Legacy.Range.forIn_eq_forIn_range']
    have e0 : es.size = 0 := by omega
    simp only [Std.Legacy.Range.size, Nat.sub_zero, Nat.add_sub_cancel, Nat.div_one, e0, List.range'_zero]
    exact wpAny_pure (wpAny_pure h)
theorem dicts_ne0 {a b : Addr} {oa ob : Obj} {es es' : Array DictEntry} {ep ep' : Nat} {Q : Value → Shared → Prop} (ha : (a == sysModules) = false) (hb : (b == sysModules) = false)
    (hoa : s.heap.get? a = some oa) (xa : oa.ExactDict) (hda : oa.data = .dict es ep) (hob : s.heap.get? b = some ob) (xb : ob.ExactDict) (hdb : ob.data = .dict es' ep') (h0 : es'.size = 0) (hu : A.units < cLine) (h : Q (.bool (!decide (es.size = 0))) s) :
    wpAny (model prog w) A (compareOp .NotEq (.ref a) (.ref b)) Q E s := by
  have ta : s.TypeIs (.ref a) "dict" := ⟨oa, hoa, xa.1⟩
  have tb : s.TypeIs (.ref b) "dict" := ⟨ob, hob, xb.1⟩
  refine wpAny_richCompare_same_room (op := .NotEq) ta tb PySem.F.slot_dict_ne (wpAny_call_entry PySem.F.slot_dict_ne ta PySem.F.entry_dict_ne ?_ (PySem.F.args_dict_ne_2 _ _)) hu
  show wpAny _ _ (Builtin.Dict.dictSlotArgs "__ne__" ⟨[.ref a, .ref b], []⟩ >>= _) _ _ s
  refine wpAny_bind ?_
  unfold Builtin.Dict.dictSlotArgs
  refine wpAny_bind (wpAny_notOrdered_dict ta ?_)
  show wpAny _ _ (pure (Value.ref a, Value.ref b)) _ _ s
  refine wpAny_pure ?_
  refine wpAny_bind (wpAny_isInstance (T := "dict") tb PySem.F.sub_dict_dict ?_)
  simp only [Bool.not_true, Bool.false_eq_true, if_false]
  refine wpAny_bind (wpAny_pure (wpAny_bind (wpAny_pure ?_)))
  refine wpAny_bind (samePairs0 ha hb hoa hda hob hdb h0 ?_)
  refine wpAny_pure ⟨_, rfl, ?_, ?_⟩
  · exact fun x => nomatch x
  · simpa using h
end
/-- d != {} -/
def rNeD0 : R2 := fun x y H Q => ∃ (a b : Addr) (kvs : List (List Key × V)), x = .ref a ∧ y = .ref b ∧ H a = some (.dT kvs) ∧ H b = some (.dT []) ∧ Q (.bl (!decide (kvs.length = 0))) H
section
variable {X : Cx}
theorem op_neD0 (hu : X.A.units < cLine) : OpR X (compareOp .NotEq) rNeD0 := by
  intro pins s σ H x y v u Q I rx ry h
  obtain ⟨a, b, kvs, rfl, rfl, ea, eb, q⟩ := h
  obtain rfl : v = Value.ref a := rx
  obtain rfl : u = Value.ref b := ry
  obtain ⟨_, ya, va, ra, oa, es, ep, ho, hx, hd, he, _⟩ := (show ObjOk X.prog X.w H s.heap a (.dT kvs) from I.hok a _ ea)
  obtain ⟨_, yb, vb, rb, ob, es', ep', ho', hx', hd', he', _⟩ := (show ObjOk X.prog X.w H s.heap b (.dT []) from I.hok b _ eb)
  have l1 : es.size = va.length := size_of_entries he
  have l2 : es'.size = vb.length := size_of_entries he'
  have l3 : kvs.length = va.length := Paired.length ra
  have l4 : ([] : List (List Key × V)).length = vb.length := Paired.length rb
  refine dicts_ne0 ya yb ho hx hd ho' hx' hd' (by rw [l2, ← l4]; rfl) hu ⟨.bl _, H, I, rfl, ?_⟩
  rw [l1, ← l3]
  exact q
/-! ### t >= u of tuples of ints -/
theorem lexAt_shift (e r : Nat → Bool) (z : Bool) : ∀ (k i : Nat), Ob.lexAt e r z (i + 1) k = Ob.lexAt (fun j => e (j + 1)) (fun j => r (j + 1)) z i k
  | 0, _ => rfl
  | k + 1, i => by
    rw [Ob.lexAt_succ, Ob.lexAt_succ, lexAt_shift e r z k (i + 1)]
theorem lexGe : ∀ ns ms : List Int, Ob.lexAt (fun j => decide (ns.getD j 0 = ms.getD j 0)) (fun j => decide (ms.getD j 0 ≤ ns.getD j 0)) (decide (ns.length ≥ ms.length)) 0 (min ns.length ms.length) = !HT.lexLt ns ms
  | [], [] => rfl
  | [], y :: q => rfl
  | x :: r, [] => rfl
  | x :: r, y :: q => by
    have ih := lexGe r q
    have em : min (x :: r).length (y :: q).length = min r.length q.length + 1 := by
      rw [List.length_cons, List.length_cons]
      omega
    have el : decide ((x :: r).length ≥ (y :: q).length) = decide (r.length ≥ q.length) := by
      rw [List.length_cons, List.length_cons]
      simp
    rw [em, el, Ob.lexAt_succ, HT.lexLt_cons]
    simp only [List.getD_cons_zero]
    by_cases e : x = y
    · rw [if_pos (decide_eq_true e), if_pos e, lexAt_shift]
      simp only [List.getD_cons_succ]
      exact ih
    · rw [if_neg (by rw [decide_eq_false e]; exact Bool.false_ne_true), if_neg e]
      by_cases h : x < y
      · rw [decide_eq_true h, decide_eq_false (by omega)]
        rfl
      · rw [decide_eq_false h, decide_eq_true (by omega)]
        rfl
def rGeT (K : PySem.W.Frag) : R2 := fun x y H Q => ∃ (a b : Addr) (ns ms : List Int), x = .ref a ∧ y = .ref b ∧ SqT K H a (ns.map V.int) ∧ SqT K H b (ms.map V.int) ∧ Q (.bl (!HT.lexLt ns ms)) H
theorem op_geT (hu : X.A.units < cLine) : OpR X (compareOp .GtE) (rGeT X.K) := by
  intro pins s σ H x y v u Q I rx ry h
  obtain ⟨a, b, ns, ms, rfl, rfl, ha, hb, q⟩ := h
  cases rx
  cases ry
  obtain ⟨its, r1, p1, _⟩ := I.tuple ha
  obtain ⟨its2, r2, p2, _⟩ := I.tuple hb
  have i1 : IntsAre its ns := Vals.ints r1
  have i2 : IntsAre its2 ms := Vals.ints r2
  have e1 : its.toArray.size = ns.length := by rw [List.size_toArray]; exact i1.length
  have e2 : its2.toArray.size = ms.length := by rw [List.size_toArray]; exact i2.length
  have at1 : ∀ j (h1 : j < its.toArray.size), ∃ t, its.toArray[j] = .int (ns.getD j 0) t := fun j h1 => PyProof.Rows.IntsAre.int_at i1 _ _ (by simp at h1; simp [h1])
  have at2 : ∀ j (h1 : j < its2.toArray.size), ∃ t, its2.toArray[j] = .int (ms.getD j 0) t := fun j h1 => PyProof.Rows.IntsAre.int_at i2 _ _ (by simp at h1; simp [h1])
  have R := Ob.RcOp.tuples_ge (A := X.A) (s := s) (e := fun j => decide (ns.getD j 0 = ms.getD j 0)) (r := fun j => decide (ms.getD j 0 ≤ ns.getD j 0)) p1 p2 hu (fun j h1 h2 => by
    obtain ⟨t, et⟩ := at1 j h1
    obtain ⟨t', et'⟩ := at2 j h2
    rw [et, et']
    have z : (ns.getD j 0 == ms.getD j 0) = decide (ns.getD j 0 = ms.getD j 0) := by
      by_cases q : ns.getD j 0 = ms.getD j 0
      · rw [decide_eq_true q]; exact beq_iff_eq.mpr q
      · rw [decide_eq_false q]; exact beq_eq_false_iff_ne.mpr q
    rw [← z]
    exact SeqAt.EqAt.int_int _ _ _ _) (fun j h1 h2 _ => by
    obtain ⟨t, et⟩ := at1 j h1
    obtain ⟨t', et'⟩ := at2 j h2
    rw [et, et']
    exact Ob.RcOp.ge_int _ _ _ _)
  rw [e1, e2, lexGe] at R
  have z : wpAny (model X.prog X.w) X.A (compareOp .GtE (.ref a) (.ref b)) (EP X pins σ Q) X.xe s := R X.prog X.w X.xe (EP X pins σ Q) ⟨.bl _, H, I, rfl, q⟩
  exact z
end
end R1
set_option Elab.async false
set_option linter.all false
set_option maxRecDepth 100000
namespace R1
open PySem PySem.Spec PyProof.Rows L2
open AutoSeq1 (wpAny_loadPart')
/-! ### enumerate(tuple) -/
theorem meets_enumerate_newT (l : Addr) (items : Array Value) (n : Nat) (dct : Option Addr) (sl : Array (Option Value)) :
    Meets (Builtin.«enumerate.__new__» ⟨[.type "enumerate", .ref l], []⟩) (fun _ R s => s.heap.get? l = some { cls := .type "tuple", dict := dct, data := .seq items n, slots := sl } ∧
      R (.ok (.ret (.ref (s.heap.push { cls := .type "tuple_iterator", data := .fields #[.ref l, .int 0 0] }).objs.size)))
        { s with heap := (s.heap.push { cls := .type "tuple_iterator", data := .fields #[.ref l, .int 0 0] }).push { cls := .type "enumerate", data := .fields #[.none, .bool false, .ref s.heap.objs.size, rawInt 0, .none, .none] } }) :=
  .of_wp fun prog w A R s h => by
    obtain ⟨hp, g, d, tk, os⟩ := s; obtain ⟨hl, h⟩ := h
    have hsub := sub_enumerate
    have hL : Heap.IsTuple (Shared.heap ⟨hp, g, d, tk, os⟩) l items := ⟨_, hl, rfl, n, rfl⟩
    wp_walk using wpAny_loadPart' hl
    refine wpAny_stack_any fun st => wpAny_pure ?_
    split
    · rename_i c _ _ _ _ _
      cases (c == Value.type "enumerate")
      · wp_walk using wpAny_loadPart' hl, wpAny_pyIter_tuple hL
        exact ⟨_, rfl, h⟩
      · wp_walk using wpAny_loadPart' hl, wpAny_pyIter_tuple hL
        exact ⟨_, rfl, h⟩
    · wp_walk using wpAny_loadPart' hl, wpAny_pyIter_tuple hL
      exact ⟨_, rfl, h⟩
theorem call_enumerate_tuple {prog : Program} {w : World} {A : Around} {E : Value → Shared → Prop} {s : Shared} {l : Addr} {items : Array Value} {Q : Value → Shared → Prop} (hL : s.heap.IsTuple l items)
    (h : ∀ h', IsEnum h' (s.heap.objs.size + 1) s.heap.objs.size 0 .none → h'.IsTupleIter s.heap.objs.size l 0 → h'.objs.size = s.heap.objs.size + 2 →
      (∀ b o, s.heap.get? b = some o → h'.get? b = some o) → Q (.ref (s.heap.objs.size + 1)) { s with heap := h' }) :
    wpAny (model prog w) A (call (.type "enumerate") [.ref l]) Q E s := by
  obtain ⟨⟨c, dct, dt, sl⟩, hl, hc, n, hd⟩ := hL
  replace hc : c = .type "tuple" := hc
  replace hd : dt = .seq items n := hd
  subst hc hd
  refine callType_new F.called_enumerate (by decide) (F.typeCall_enumerate_1 _) (F.newCall_enumerate_1 _) (fun obj => F.args_object_init_2 obj _) F.entry_enumerate_new
    (meets_enumerate_newT l items n dct sl) ⟨hl, ?_⟩
  have hz : (s.heap.push { cls := .type "tuple_iterator", data := .fields #[.ref l, .int 0 0] }).objs.size = s.heap.objs.size + 1 := Heap.size_push ..
  show _ ∧ _
  rw [hz]
  have he : IsEnum ((s.heap.push { cls := .type "tuple_iterator", data := .fields #[.ref l, .int 0 0] }).push
      { cls := .type "enumerate", data := .fields #[.none, .bool false, .ref s.heap.objs.size, rawInt 0, .none, .none] }) (s.heap.objs.size + 1) s.heap.objs.size 0 .none := by
    have := Heap.get?_push_size (s.heap.push { cls := .type "tuple_iterator", data := .fields #[.ref l, .int 0 0] })
      (o := { cls := .type "enumerate", data := .fields #[.none, .bool false, .ref s.heap.objs.size, rawInt 0, .none, .none] }) rfl
    rw [hz] at this; exact this
  refine ⟨⟨_, he, rfl⟩, h _ he ⟨_, Heap.get?_push_of_some _ (Heap.get?_push_size _ rfl), rfl, rfl⟩ (by rw [Heap.size_push, hz]) fun b o x => Heap.get?_push_of_some _ (Heap.get?_push_of_some _ x)⟩
/-- the tuple at a, each item in a new pair -/
def IteT (K : PySem.W.Frag) (a : Addr) : It :=
  ⟨fun i H => ∃ (xs : List V) (x : V), SqT K H a xs ∧ xs[i]? = some x, fun i H v H' => ∃ T x, v = .ref T ∧ H T = none ∧ H' = upd H T (.tup [.int (i : Nat), x]) ∧ ∀ xs, SqT K H a xs → xs[i]? = some x, fun i H => ∃ xs : List V, SqT K H a xs ∧ xs.length ≤ i⟩
theorem apart {h : Heap} {a b c : Addr} {items : Array Value} {i : Nat} (p : IsTup h a items) (q : h.IsTupleIter b c i) : a ≠ b := by
  rintro rfl
  obtain ⟨o, ho, hc, _⟩ := p
  obtain ⟨o', ho', hc', _⟩ := q
  rw [ho] at ho'
  cases ho'
  rw [hc] at hc'
  exact absurd (Value.type.inj hc') (by decide)
theorem apartE {h : Heap} {a b it : Addr} {items : Array Value} {i : Int} {old : Value} (p : IsTup h a items) (q : IsEnum h b it i old) : a ≠ b := by
  rintro rfl
  obtain ⟨o, ho, hc, _⟩ := p
  have ho' : h.get? a = some _ := q
  rw [ho] at ho'
  have e := Option.some.inj ho'
  rw [e] at hc
  exact absurd (Value.type.inj hc) (by decide)
theorem turn_enumT {P : Program} {w : World} {K : PySem.W.Frag} {elts : List Expr} {kk : Nat} {tpos : Pos} (a e it : Addr) :
    Turn P w K (.Tuple elts kk tpos) (IteT K a) [e, it] e (fun i h => (∃ old, IsEnum h e it ((i : Nat) : Int) old) ∧ h.IsTupleIter it a i ∧ e ≠ it) where
  mem := by simp
  obj := fun i h st b hb => by
    obtain ⟨⟨old, he⟩, ⟨o, ho, hc, hd⟩, _⟩ := st
    have e' : b = e ∨ b = it := by simpa using hb
    rcases e' with z | z
    · rw [z]; exact ⟨_, he, fun v q => nomatch q⟩
    · rw [z]; exact ⟨o, ho, fun v q => by rw [hd] at q; cases q⟩
  keep := fun i h h' st k => let ⟨⟨old, he⟩, hi, hne⟩ := st; ⟨⟨old, k e (by simp) _ he⟩, hi.at fun o q => k it (by simp) o q, hne⟩
  item := by
    intro X hP hw hK hc i pins s σ H E I hf st hg
    subst hP hw hK
    obtain ⟨⟨old, he⟩, hit, hne⟩ := st
    obtain ⟨xs, x, hq, hx⟩ := hg
    obtain ⟨its, rv, p, hz⟩ := I.tuple hq
    obtain ⟨u, hu, ru⟩ := rv.get hx
    have hel : e < s.heap.objs.size := Heap.lt_size he
    have hil : it < s.heap.objs.size := by obtain ⟨_, q, _⟩ := hit; exact Heap.lt_size q
    have nai : a ≠ it := apart p hit
    have nae : a ≠ e := apartE p he
    have hlt : i < its.toArray.size := by
      rw [List.size_toArray]
      exact (List.getElem?_eq_some_iff.mp hu).1
    have D := Draws.tuple (prog := X.prog) (w := X.w) (A := X.A.in1) (I.ok.hd hc) it a nai its.toArray
    refine wpAny_pyNext_enum_itemD D he ⟨hit, show s.heap.IsTuple a its.toArray from p⟩ hlt hne (by simp; exact ⟨hne, nae.symm⟩) fun y h' tk hP ho hst' hT hsz hk => ?_
    have ey : y = u := by
      have := hP.symm.trans (show its.toArray[i]? = some u by simpa using hu)
      exact Option.some.inj this
    subst ey
    refine ⟨_, rfl, wpAny_letOwnedTupleGo_enum (s := { s with heap := h', toks := tk + 1 }) ho fun h'' he' sb => ?_⟩
    have hT2 : h''.get? s.heap.objs.size = some { cls := .type "tuple", data := .seq #[.int i tk, y] } := (sb.2 _ (Nat.ne_of_gt hel)).trans hT
    have new : ObjOk X.prog X.w (upd H s.heap.objs.size (.tup [.int (i : Nat), x])) h'' s.heap.objs.size (.tup [.int (i : Nat), x]) :=
      ⟨by show 2 ≤ sizeLine; decide, [.int i tk, y], .cons ⟨_, rfl⟩ (.cons ru .nil), ⟨_, hT2, rfl, _, rfl⟩⟩
    have I1 : Inv X pins σ (upd H s.heap.objs.size (.tup [.int (i : Nat), x])) { s with heap := h'', toks := tk + 1 } :=
      I.turnedNew (ch := [e, it]) (fun b ob hb q => (sb.2 b (fun z => hb (by simp [z]))).trans (hk b ob (fun z => hb (by simp [z])) (fun z => hb (by simp [z])) q)) hf (Nat.le_refl _) new
    refine ⟨.ref s.heap.objs.size, _, I1, rfl, ⟨_, x, rfl, I.hok.fresh (Nat.le_refl _), rfl, fun ys hy => by rw [I.tuple_inj hy hq]; exact hx⟩, ⟨⟨y, ?_⟩, hst'.1.at fun o q => (sb.2 it (Ne.symm hne)).trans q, hne⟩, fun b hb => ?_⟩
    · have e1 : ((i + 1 : Nat) : Int) = (i : Int) + 1 := by omega
      rw [e1]; exact he'
    · have hb' : b < s.heap.objs.size := by
        have e' : b = e ∨ b = it := by simpa using hb
        rcases e' with z | z
        · rw [z]; exact hel
        · rw [z]; exact hil
      rw [upd_ne (Nat.ne_of_lt hb')]
      exact (hf b hb).1
  done := by
    intro X hP hw hK hc i pins s σ H E I hf st hg
    subst hP hw hK
    obtain ⟨⟨old, he⟩, hit, hne⟩ := st
    obtain ⟨xs, hq, hx⟩ := hg
    obtain ⟨its, rv, p, hz⟩ := I.tuple hq
    obtain ⟨f0, f1, f2, f3, f4, f5⟩ := hf it (by simp)
    have hl := rv.length
    have hT : s.TypeIs (.ref e) "enumerate" := ⟨_, he, rfl⟩
    unfold pyNext
    refine wpAny_bind (wpAny_attempt (wpAny_callSpecial?_slot (name := Str.ofString "__next__") hT F.slot_enumerate_next
      (wpAny_call_entry F.slot_enumerate_next hT F.entry_enumerate_next ?_ (F.args_enumerate_next_1 _))))
    show wpAny _ _ (field (.ref e) 2 >>= _) _ _ _
    refine wpAny_bind (wpAny_field he rfl (x := .ref it) rfl ?_)
    refine wpAny_bind (wpAny_nextOf_tuple_end (I.ok.hd hc) hit (show s.heap.IsTuple a its.toArray from p) (Array.getElem?_eq_none (by rw [List.size_toArray]; omega)) fun h' x he' hx' => ?_)
    obtain ⟨o, ho, hc'⟩ := hx'
    refine wpAny_bind (wpAny_isInstance (T := "StopIteration") (b := true) ⟨o, ho, hc'⟩ isSubtype_stop ?_)
    exact wpAny_pure ⟨rfl, I.turned (t' := s.toks) (fun b o hb q => he' b o hb q) f0 f1 f3 f4 f5⟩
  self := fun A i s Q E st h => let ⟨⟨_, he⟩, _⟩ := st; wpAny_pyIter_enum he h
def iEnumT (K : PySem.W.Frag) (ta : TA) : TI := fun σ H R => ta σ H fun vs H1 => ∃ a xs, vs = [.ref a] ∧ SqT K H1 a xs ∧ R (IteT K a) H1
theorem pi_enumT {X : Cx} {e : Expr} {ta : TA} {p pos tpos : Pos} {elts : List Expr} {kk : Nat} (hg : Gl X "enumerate") (hm : X.mg "enumerate" = none) (ha : PA X [e] ta) (hs : starEach [e] X.env = [(false, eval e X.env)] := by rfl) :
    PI X (.Tuple elts kk tpos) (.Call (.Name "enumerate" p) [e] [] pos) (iEnumT X.K ta) := by
  refine ⟨fun pins s σ H R I h => ?_⟩
  refine Call_ (ld_blt I hg hm boot_enumerate (PyProof.Rows.callWith_type1 (thn (ha.run pos pins s σ H _ I h) fun us s1 ⟨vs, H1, I1, r1, q1⟩ => ?_) hs rfl))
  obtain ⟨a, xs, ex, hq, q⟩ := q1
  subst ex
  cases r1 with
  | cons r rr =>
    cases rr
    cases r
    obtain ⟨its, rv, p', hz⟩ := I1.tuple hq
    refine call_enumerate_tuple (show s1.heap.IsTuple a its.toArray from p') fun h' he hit hsz hk => wpAny_pyIter_enum he ?_
    have I2 : Inv X pins σ H1 { s1 with heap := h' } := I1.kept (t' := s1.toks) hk
    refine ⟨s1.heap.objs.size + 1, [s1.heap.objs.size + 1, s1.heap.objs.size], _, _, H1, rfl, I2, turn_enumT a (s1.heap.objs.size + 1) s1.heap.objs.size, ⟨⟨.none, he⟩, hit, Nat.succ_ne_self _⟩, fun b hb => ?_, q⟩
    have e' : b = s1.heap.objs.size + 1 ∨ b = s1.heap.objs.size := by simpa using hb
    have hle : s1.heap.objs.size ≤ b := by
      rcases e' with z | z
      · rw [z]; exact Nat.le_add_right _ _
      · rw [z]; exact Nat.le_refl _
    exact I1.fpOk hle (I1.hok.fresh hle)
theorem walk_enumT {K : PySem.W.Frag} {a : Addr} {xs : List V} : Walk (IteT K a) xs.length (fun H => SqT K H a xs) (YPair (fun i => some (.int (i : Nat))) (fun i => xs[i]?)) := by
  refine ⟨fun i _ hi q => ⟨xs, xs[i], q, by simp [hi]⟩, fun _ q => ⟨xs, q, Nat.le_refl _⟩, fun i H v H' _ q y => ?_⟩
  obtain ⟨T, x, h1, h2, h3, h4⟩ := y
  exact ⟨T, .int (i : Nat), x, h1, h2, h3, rfl, h4 xs q⟩
end R1
set_option Elab.async false
set_option linter.all false
set_option maxRecDepth 100000
namespace R1
open PySem PySem.Spec PyProof.Rows L2
open AutoSeq1 (wpAny_loadPart')
set_option maxHeartbeats 4000000 in
theorem tuple_mul1 (l : Addr) (items : Array Value) (n : Nat) (dd : Option Addr) (sl : Array (Option Value)) (u : Tok) :
    Meets (Builtin.«tuple.__mul__» ⟨[.ref l, .int 1 u], []⟩) (fun _ R s => s.heap.get? l = some { cls := .type "tuple", dict := dd, data := .seq items n, slots := sl } ∧ R (.ok (.ret (Value.ref l))) s) :=
  .of_wp fun prog w A R s h => by
    obtain ⟨hp, g, d, tk, os⟩ := s
    obtain ⟨hl, h⟩ := h
    have f1 := AutoSeq1.idx_int
    have c0 : (decide ((1 : Int) < -(2 ^ 63)) || decide ((1 : Int) ≥ 2 ^ 63)) = false := by decide
    have c1 : (items.isEmpty || (1 : Int) == 1) = true := by rw [Bool.or_eq_true]; exact .inr rfl
    wp_walk using wpAny_loadPart' hl
    exact ⟨_, rfl, h⟩
set_option maxHeartbeats 4000000 in
theorem tuple_mul0 (l : Addr) (items : Array Value) (n : Nat) (dd : Option Addr) (sl : Array (Option Value)) (u : Tok) (c : items.isEmpty = false) :
    Meets (Builtin.«tuple.__mul__» ⟨[.ref l, .int 0 u], []⟩) (fun _ R s => s.heap.get? l = some { cls := .type "tuple", dict := dd, data := .seq items n, slots := sl } ∧
      R (.ok (.ret (Value.ref s.heap.objs.size))) { s with heap := s.heap.push { cls := Value.type "tuple", data := Data.seq #[] }, toks := s.toks }) :=
  .of_wp fun prog w A R s h => by
    obtain ⟨hp, g, d, tk, os⟩ := s
    obtain ⟨hl, h⟩ := h
    have f1 := AutoSeq1.idx_int
    have c0 : (decide ((0 : Int) < -(2 ^ 63)) || decide ((0 : Int) ≥ 2 ^ 63)) = false := by decide
    have c1 : (items.isEmpty || (0 : Int) == 1) = false := by rw [c]; rfl
    have c2 : (decide ((0 : Int) ≤ 0) || items.isEmpty) = true := by rw [Bool.or_eq_true]; exact .inl rfl
    wp_walk using wpAny_loadPart' hl
    exact ⟨_, rfl, h⟩
/-- t * k, k 0 or 1 -/
def rRepT01 (K : PySem.W.Frag) : R2 := fun x y H Q => ∃ l k xs, x = .ref l ∧ y = .int k ∧ SqT K H l xs ∧ xs ≠ [] ∧ (k = 0 ∨ k = 1) ∧ (k = 1 → Q (.ref l) H) ∧ (k = 0 → ∀ p, H p = none → Q (.ref p) (upd H p (.tup [])))
theorem op_repT01 {X : Cx} : OpR X (binaryOp .Mult) (rRepT01 X.K) := by
  intro pins s σ H x y v u Q I rx ry h
  obtain ⟨l, k, xs, rfl, rfl, hT, hne, hk, q1, q0⟩ := h
  cases rx
  obtain ⟨t, rfl⟩ := ry
  obtain ⟨its, r, ⟨⟨cls, dd, data, sl⟩, ho, hc, n, hd⟩, hs⟩ := I.tuple hT
  simp only at hc hd
  subst hc hd
  have hle : its.length = xs.length := r.length.symm
  have hn : its ≠ [] := fun e => hne (by
    rw [e] at hle
    exact List.eq_nil_of_length_eq_zero hle.symm)
  have hi : its.toArray.isEmpty = false := by
    cases its with
    | nil => exact absurd rfl hn
    | cons a b => rfl
  refine wpAny_binaryOp_repeat_ref (T := "tuple") (U := "int") (by decide) ⟨_, ho, rfl⟩ (fun s' => typeIs_int s' k t) noFill_tuple_mul F.fills_int_mul F.slot_int_rmul repeat_tuple F.slot_int_index.lookup
    (call_meets F.slot_int_rmul (typeIs_int s k t) F.entry_int_rmul (F.args_int_rmul_2 _ _) (int_rmul_tuple k t l its.toArray n dd sl)
      ⟨ho, rfl, ⟨_, ho, rfl⟩, ?_⟩)
  rcases hk with rfl | rfl
  · refine call_meets F.slot_tuple_mul ⟨_, ho, rfl⟩ F.entry_tuple_mul (F.args_tuple_mul_2 _ _) (tuple_mul0 l its.toArray n dd sl t hi) ⟨ho, ?_⟩
    refine ⟨.ref s.heap.objs.size, _, I.laid (t' := s.toks) (o := .tup []) (fun b ob q => Heap.get?_push_of_some _ q) (Nat.le_refl _) ?_, rfl, q0 rfl _ (I.hok.fresh (Nat.le_refl _))⟩
    exact ⟨Nat.zero_le _, [], .nil, IsTup.new _ _⟩
  · refine call_meets F.slot_tuple_mul ⟨_, ho, rfl⟩ F.entry_tuple_mul (F.args_tuple_mul_2 _ _) (tuple_mul1 l its.toArray n dd sl t) ⟨ho, ?_⟩
    exact ⟨.ref l, H, I, rfl, q1 rfl⟩
end R1
set_option Elab.async false
set_option linter.all false
set_option maxRecDepth 100000
set_option maxHeartbeats 4000000
/-! what all laws share: the heap, small rules -/
namespace NH
open PySem PySem.Spec PyProof.Rows L2 R1
theorem sqlOf {K : PySem.W.Frag} {H : Hp} {a : Addr} {xs : List V} (h : H a = some (.lst xs)) : SqL K H a xs := .inl (.inl h)
theorem sqtOf {K : PySem.W.Frag} {H : Hp} {a : Addr} {xs : List V} (h : H a = some (.tup xs)) : SqT K H a xs := .inl (.inl h)
theorem same_new {H : Hp} {p : Addr} {o : HO} (h : H p = none) : Same H (upd H p o) := fun b u e => by
  rw [upd_ne (ne_of_none e h)]
  exact e
theorem same_put {H H' : Hp} {p : Addr} {o : HO} (s : Same H H') (h : H p = none) : Same H (upd H' p o) := fun b u e => by
  rw [upd_ne (ne_of_none e h)]
  exact s b u e
theorem sqt_same {K : PySem.W.Frag} {H H' : Hp} {t : Addr} {xs : List V} (s : Same H H') (h : SqT K H t xs) : SqT K H' t xs := by
  rcases h with (h | ⟨o, h⟩) | h
  · exact .inl (.inl (s _ _ h))
  · exact .inl (.inr ⟨o, s _ _ h⟩)
  · exact .inr h
/-- all but what stands at D is as it was -/
def But (D : Addr) (H H' : Hp) : Prop := ∀ b o, b ≠ D → H b = some o → H' b = some o
theorem But.start {D : Addr} {H : Hp} {o : HO} : But D H (upd H D o) := fun b u hb e => by
  rw [upd_ne hb]
  exact e
theorem But.step {D : Addr} {H H1 H2 : Hp} {o : HO} (h : But D H H1) (s : Same H1 H2) : But D H (upd H2 D o) := fun b u hb e => by
  rw [upd_ne hb]
  exact s _ _ (h b u hb e)
theorem But.then {D : Addr} {H H1 H2 : Hp} (h : But D H H1) (s : Same H1 H2) : But D H H2 := fun b u hb e => s _ _ (h b u hb e)
theorem But.same {D : Addr} {H H' : Hp} (h : But D H H') (n : H D = none) : Same H H' := fun b o e => h b o (ne_of_none e n) e
theorem But.at_ {D b : Addr} {H H' : Hp} {o : HO} (h : But D H H') (n : H D = none) (e : H b = some o) : H' b = some o := h b o (ne_of_none e n) e
/-- all but what stands at two places is as it was -/
def But2 (D W : Addr) (H H' : Hp) : Prop := ∀ b o, b ≠ D → b ≠ W → H b = some o → H' b = some o
theorem But2.refl {D W : Addr} {H : Hp} : But2 D W H H := fun _ _ _ _ h => h
theorem But2.at1 {D W : Addr} {H H1 : Hp} {o : HO} (h : But2 D W H H1) : But2 D W H (upd H1 D o) := fun b u h1 h2 e => by
  rw [upd_ne h1]
  exact h b u h1 h2 e
theorem But2.at2 {D W : Addr} {H H1 : Hp} {o : HO} (h : But2 D W H H1) : But2 D W H (upd H1 W o) := fun b u h1 h2 e => by
  rw [upd_ne h2]
  exact h b u h1 h2 e
theorem But2.then {D W : Addr} {H H1 H2 : Hp} (h : But2 D W H H1) (s : Same H1 H2) : But2 D W H H2 := fun b u h1 h2 e => s _ _ (h b u h1 h2 e)
theorem But2.trans {D W : Addr} {H H1 H2 : Hp} (h : But2 D W H H1) (s : But2 D W H1 H2) : But2 D W H H2 := fun b u h1 h2 e => s _ _ h1 h2 (h b u h1 h2 e)
theorem But2.same {D W : Addr} {H H' : Hp} (h : But2 D W H H') (n1 : H D = none) (n2 : H W = none) : Same H H' := fun b o e => h b o (ne_of_none e n1) (ne_of_none e n2) e
theorem small1k {n : Nat} (h : n ≤ 1000) : n ≤ sizeLine := by
  rw [sizeLine_eq]
  omega
theorem small1k' {n : Nat} (h : n ≤ 1000) : n < sizeLine := by
  rw [sizeLine_eq]
  omega
theorem put_len {κ : Type} [DecidableEq κ] (kvs : List (κ × V)) (k : κ) (v : V) : (putK kvs k v).length ≤ kvs.length + 1 := by
  unfold putK
  split
  · rw [List.length_map]
    omega
  · rw [List.length_append]
    exact Nat.le_refl _
def tTru (K : PySem.W.Frag) (te : TE) : TT := fun σ H Q => te σ H fun x H' => ∃ k, TruV K x H' k ∧ Q k H'
/-! ### f(k = v, ..), nothing by position -/
theorem pe_callK0 {X : Cx} {CX : CXT} {k : Nat} {f : Addr} {fd : FuncData} {ps ks : List Str} {sp : Sp} {E : XK} {x : Str} {p pos : Pos} {kws : List Keyword} {tk : TA} {g : List Value → List Value → List Value} {gV : List V → List V → List V}
    (F : FnOk X.prog X.w X.K X.mg X.base CX k f fd ps sp) (hr : Room k X.A) (hg : Gl X x) (hm : X.mg x = some (.ref f)) (hk : PySem.W.keepIn X.K (.ref f) = true) (hb : KBinds X.K fd ps ks g gV) (hx : Passes CX X E)
    (hkw : PK X kws tk) (hall : (backToKw pos (keywordEach kws X.env)).all (·.1.isSome) = true := by rfl) (hks : (backToKw pos (keywordEach kws X.env)).filterMap (·.1) = ks := by rfl)
    (hdb : (x == ("__debug__" : Str)) = false := by decide) (hpl : ((backTo pos (starEach [] X.env)).any (·.1) || (backToKw pos (keywordEach kws X.env)).any (·.1.isNone)) = false := by rfl) :
    PE X (.Call (.Name x p) [] kws pos) (tCallK sp gV E tNil tk) := by
  refine ⟨fun pins s σ H Q I h => ?_⟩
  refine wpAny_Call_Name_kw (ld_glob I hg hm ?_ hdb)
  refine PySem.W.callWith_KW0 (h₀ := X.base) I.ok.mod.kin hk hall (thn (hkw.run pos pins s σ H _ I h) fun ws s2 ⟨zs, H2, I2, rz, q2⟩ => ⟨I2.kIn, ?_⟩) hpl
  rw [hks]
  exact run_fnk F hr hb hx I2 .nil rz q2
/-! ### // by a positive number that is small or leaves a small quotient -/
def CDivQ (i j : Int) : Prop := 0 < j ∧ Builtin.divisionGoesByPylong i j = false
theorem op_fdivQ {X : Cx} : OpR X (binaryOp .FloorDiv) (rI CDivQ fun i j => .int (i / j)) := opI fun i j _ _ _ _ _ hc q => by
  have h1 : (0 : Int) < j := hc.1
  exact floordiv_int (by omega) (by rw [Int.fdiv_eq_ediv_of_nonneg i (by omega)]; exact q) (.inl hc.2)
theorem log2_lt {n b : Nat} (h : n < 2 ^ b) (h0 : 0 < b) : n.log2 < b := PySem.Flt.log2_lt_of h0 h
theorem log2_ge {n b : Nat} (h : 2 ^ b ≤ n) : b ≤ n.log2 := by
  have h0 : n ≠ 0 := by
    have := Nat.two_pow_pos b
    omega
  exact (Nat.le_log2 h0).mpr h
theorem cdivq_small {i j : Int} (h0 : 0 < j) {b : Nat} (hb : j.natAbs < 2 ^ b) (h1 : 0 < b) (h9 : b ≤ 9000) : CDivQ i j := ⟨h0, PyProof.noPylong_of_log2 (Nat.lt_of_lt_of_le (log2_lt hb h1) h9)⟩
/-- the quotient has few bits -/
theorem cdivq_quot {i j q : Int} (h0 : 0 < j) (hi : i = j * q) {b : Nat} (hb : q.natAbs < 2 ^ b) (h4 : b ≤ 4000) : CDivQ i j := by
  refine ⟨h0, ?_⟩
  have key : i.natAbs.log2 < j.natAbs.log2 + 1 + b + 1 := by
    refine log2_lt ?_ (by omega)
    have h1 : j.natAbs < 2 ^ (j.natAbs.log2 + 1) := Nat.lt_log2_self
    have h2 : i.natAbs < 2 ^ (j.natAbs.log2 + 1 + b) := by
      rw [hi]
      exact wide_lt h1 hb
    exact Nat.lt_trans h2 (Nat.pow_lt_pow_right (by decide) (by omega))
  show (decide ((if j == 0 then 0 else j.natAbs.log2 / 30 + 1) > 300) && decide ((if i == 0 then 0 else i.natAbs.log2 / 30 + 1) > (if j == 0 then 0 else j.natAbs.log2 / 30 + 1) + 150)) = false
  have hj : (j == 0) = false := by
    simp
    omega
  rw [hj, if_neg Bool.false_ne_true]
  rw [Bool.and_eq_false_iff]
  right
  apply decide_eq_false
  split <;> omega
end NH
set_option Elab.async false
set_option linter.all false
set_option maxRecDepth 100000
set_option maxHeartbeats 4000000
/-! ints of any size: *, ** -/
namespace NH
open PySem PySem.Spec PyProof.Rows L2
def CMulX (i j : Int) : Prop := i.natAbs.log2 + j.natAbs.log2 < 100000000
theorem bits_log (x : Int) : Builtin.Int.intBits x ≤ x.natAbs.log2 + 1 := by
  unfold Builtin.Int.intBits
  split <;> omega
theorem CMulX.ok {i j : Int} (h : CMulX i j) : IntMulOk i j := by
  have h1 := bits_log i
  have h2 := bits_log j
  have h3 : i.natAbs.log2 + j.natAbs.log2 < 100000000 := h
  have e : bitsLine = 134217728 := by decide
  unfold IntMulOk
  intro z
  rw [Bool.and_eq_true] at z
  have z2 := z.2
  unfold Builtin.Int.intTooBig at z2
  have z3 := of_decide_eq_true z2
  rw [e] at z3
  omega
theorem op_mulX {X : Cx} : OpR X (binaryOp .Mult) (rI CMulX fun i j => .int (i * j)) := opI fun _ _ _ _ _ _ _ hc q => mul_int q hc.ok
theorem log2_le_of' {n b : Nat} (h : n < 2 ^ b) : n.log2 ≤ b := by
  by_cases h0 : n = 0
  · subst h0
    exact Nat.zero_le _
  · exact Nat.le_of_lt ((Nat.log2_lt h0).mpr h)
theorem mulx {i j : Int} {a b : Nat} (ha : i.natAbs < 2 ^ a) (hb : j.natAbs < 2 ^ b) (h : a + b ≤ 90000000) : CMulX i j := by
  have := log2_le_of' ha
  have := log2_le_of' hb
  unfold CMulX
  omega
/-- both of fewer than 62 bits -/
theorem mulS {i j : Int} (ha : i.natAbs < 4611686018427387904) (hb : j.natAbs < 4611686018427387904) : CMulX i j := mulx (a := 62) (b := 62) ha hb (by decide)
def CPowX (i j : Int) : Prop := 0 ≤ j ∧ j ≤ 64 ∧ i.natAbs.log2 ≤ 2000000
theorem op_powX {X : Cx} : OpR X (binaryOp .Pow) (rI CPowX fun i j => .int (i ^ j.toNat)) := opI fun i j _ _ _ _ _ hc q => by
  obtain ⟨h0, h1, h2⟩ := hc
  refine pow_int h0 ?_ q
  have b := bits_log i
  have b2 : (Builtin.Int.intBits i : Int) ≤ 2000001 := by omega
  have m : (Builtin.Int.intBits i : Int) * j ≤ 2000001 * 64 := Int.mul_le_mul b2 h1 h0 (by decide)
  exact Int.le_trans m (by decide)
theorem powx {i j : Int} {a : Nat} (h0 : 0 ≤ j) (h1 : j ≤ 64) (ha : i.natAbs < 2 ^ a) (h : a ≤ 2000000) : CPowX i j := ⟨h0, h1, Nat.le_trans (log2_le_of' ha) h⟩
end NH
set_option Elab.async false
set_option linter.all false
set_option maxRecDepth 100000
namespace NH
open PySem PySem.Spec PyProof.Rows L2
/-! ### the text -/
abbrev sLines : Stmt := s_lines_of
abbrev sLeast : Stmt := s_least_of
abbrev sMoved : Stmt := s_moved
abbrev sIs : Stmt := s_is_sum
abbrev sCheck : Stmt := s_check_sum
abbrev sLettersOf : Stmt := s_letters_of
abbrev sStock : Stmt := s__law_stock
abbrev sPick : Stmt := s__law_pick
abbrev sWide : Stmt := s__law_wide
abbrev sSame : Stmt := s__law_same
abbrev sWritten : Stmt := s__law_written
abbrev sPlus : Stmt := s__law_plus
abbrev sTerms : Stmt := s__law_terms
abbrev sLaw : Stmt := s_law
theorem scStock : FnScope ["_law_script", "_law_stock_here", "_law_cell"] ["_law_script"] (defScope sStock) := ⟨rfl, rfl, rfl, by decide +kernel, rfl, by decide +kernel, by decide +kernel⟩
theorem scPick : FnScope ["_law_stock_here", "_law_limit", "_law_found", "_law_turn"] ["_law_stock_here", "_law_limit"] (defScope sPick) := ⟨rfl, rfl, rfl, by decide +kernel, rfl, by decide +kernel, by decide +kernel⟩
theorem scWide : FnScope ["_law_stock_here", "_law_limit", "_law_total", "_law_k"] ["_law_stock_here", "_law_limit"] (defScope sWide) := ⟨rfl, rfl, rfl, by decide +kernel, rfl, by decide +kernel, by decide +kernel⟩
/-! ### what is known of the stock -/
structure Stock (H : Hp) (a c : Addr) (n : Nat) : Prop where
  ne : a ≠ c
  ex : ∃ (cs : List Int) (x y z : Int), H a = some (.lst [.ref c, .int x, .int y, .int z]) ∧ H c = some (.lst (cs.map V.int)) ∧ cs.length ≤ 63 ∧ (∀ i ∈ cs, 0 ≤ i) ∧ 0 ≤ x ∧ 0 ≤ y ∧ y ≤ 10000000000000066 ∧ 0 ≤ z ∧ z ≤ n
/-- all but the stock is as it was -/
def Keep (a c : Addr) (H H' : Hp) : Prop := ∀ b o, b ≠ a → b ≠ c → H b = some o → H' b = some o
theorem Keep.refl {a c : Addr} {H : Hp} : Keep a c H H := fun _ _ _ _ h => h
theorem Keep.trans {a c : Addr} {H H1 H2 : Hp} (x : Keep a c H H1) (y : Keep a c H1 H2) : Keep a c H H2 := fun b o h1 h2 h => y b o h1 h2 (x b o h1 h2 h)
theorem Keep.new {a c p : Addr} {o : HO} {H : Hp} (h : H p = none) : Keep a c H (upd H p o) := fun b u _ _ e => by
  rw [upd_ne (ne_of_none e h)]
  exact e
theorem Keep.at_a {a c : Addr} {o : HO} {H : Hp} : Keep a c H (upd H a o) := fun b u h _ e => by
  rw [upd_ne h]
  exact e
theorem Keep.at_c {a c : Addr} {o : HO} {H : Hp} : Keep a c H (upd H c o) := fun b u _ h e => by
  rw [upd_ne h]
  exact e
theorem Stock.new {H : Hp} {a c p : Addr} {n : Nat} {o : HO} (S : Stock H a c n) (h : H p = none) : Stock (upd H p o) a c n := by
  obtain ⟨ne, cs, x, y, z, h1, h2, r⟩ := S
  exact ⟨ne, cs, x, y, z, by rw [upd_ne (ne_of_none h1 h)]; exact h1, by rw [upd_ne (ne_of_none h2 h)]; exact h2, r⟩
theorem Stock.more {H : Hp} {a c : Addr} {n m : Nat} (S : Stock H a c n) (h : n ≤ m) : Stock H a c m := by
  obtain ⟨ne, cs, x, y, z, h1, h2, h3, h4, h5, h6, h7, h8, h9⟩ := S
  exact ⟨ne, cs, x, y, z, h1, h2, h3, h4, h5, h6, h7, h8, by omega⟩
theorem canLay_ints : ∀ cs : List Int, PyData.canLayAll0 (cs.map PyData.int) = true
  | [] => rfl
  | _ :: r => by simp [PyData.canLayAll0, PyData.canLay0, canLay_ints r]
theorem depth_ints : ∀ cs : List Int, PyData.depthAll (cs.map PyData.int) ≤ 1
  | [] => by simp [PyData.depthAll]
  | _ :: r => by
    have := depth_ints r
    simp [PyData.depthAll, PyData.depth]
    omega
theorem shaped_ints (cs : List Int) : SeqAt.shaped (.list (cs.map PyData.int)) = true := by
  have := depth_ints cs
  simp [SeqAt.shaped, PyData.canLay0, canLay_ints, PyData.depth]
  omega
theorem dp_ints {K : PySem.W.Frag} {H : Hp} : ∀ cs : List Int, DpAll K H (cs.map V.int) (cs.map PyData.int)
  | [] => .nil
  | i :: r => .cons (.int i) (dp_ints r)
theorem eqv_nil (ds : List PyData) : PyData.eqv (.list ds) (.list []) = ds.isEmpty := by
  cases ds <;> simp [PyData.eqv, PyData.eqvAll]
section
variable {P : Program} {w : World} {K : PySem.W.Frag} {mg : Str → Option Value} {base : Heap}
/-! ### pick -/
def spPick : Sp := fun vs H Q _ => ∃ (a c : Addr) (n : Nat) (L : Int), vs = [.ref a, .int L] ∧ Stock H a c n ∧ n ≤ 1000000 ∧ 1 ≤ L ∧ L.natAbs < 2 ^ 200 ∧
  ∀ H' (r : Int), Stock H' a c (n + 1) → Keep a c H H' → 0 ≤ r → r < L → Q (.int r) H'
theorem ok_pick {f : Addr} {fd : FuncData} {k : Nat} (F : Fun K "_law_pick" "_law_pick" sPick f fd) (mi : mg "int" = none) : FnOk P w K mg base CX0 (k + 1) f fd ["_law_stock_here", "_law_limit"] spPick := by
  refine F.ok scPick (fun vs H Q E h => ?_) (fun cdv A outer s H vs Q E hr h => ?_)
  · obtain ⟨a, c, n, L, rfl, _⟩ := h
    rfl
  · obtain ⟨a, c, n, L, rfl, S, hn, hL, hL2, q⟩ := h
    refine ⟨_, Evl.pss_cut (ps_if (PW.pt (pw_and (pt_cmpR op_eq (pe_ix ix_list (pv 0) pe_int (fun _ _ => rfl)) pe_int (nomark _)) (pw_and1 (pt_cmpR (op_neD hr.units) (pe_ix ix_list (pv 0) pe_int (fun _ _ => rfl)) (pe_lst pa_nil) (nomark _)))))
        (pss_one (ps_asg (pe_bm0 PySem.F.plainAttrs_list PySem.F.slot_list_pop PySem.F.type_list_pop mt_pop (pe_ix ix_list (pv 0) pe_int (fun _ _ => rfl))) (pg_sub (pv 0) pe_int set_list))) pss_nil)
      (pss_cons (ps_if (pt_cmpR op_gt (pe_ix ix_list (pv 0) pe_int (fun _ _ => rfl)) pe_int (nomark _))
        (pss_cons (ps_set (i := 2) scPick.nd rfl (.inl rfl) (pe_op op_mod (pe_callTy call_int1 (by rfl) mi PyProof.Rows.boot_int (pa_cons (pe_ix ix_list (pv 0) pe_int (fun _ _ => rfl)) pa_nil)) (pv 1)))
        (pss_cons (ps_asg (pe_op op_fdivW (pe_ix ix_list (pv 0) pe_int (fun _ _ => rfl)) (pv 1)) (pg_sub (pv 0) pe_int set_list))
        (pss_one (ps_ret (pv 2))))) pss_nil)
      (pss_cons (ps_asg (pe_op op_add (pe_ix ix_list (pv 0) pe_int (fun _ _ => rfl)) pe_int) (pg_sub (pv 0) pe_int set_list))
      (pss_cons (ps_set (i := 3) scPick.nd rfl (.inl rfl) (pe_op op_mod (pe_callTy call_int1 (by rfl) mi PyProof.Rows.boot_int (pa_cons (pe_op op_pow (pe_op op_add (pe_ix ix_list (pv 0) pe_int (fun _ _ => rfl)) (pe_op op_mul (pe_op op_mul pe_int (pe_ix ix_list (pv 0) pe_int (fun _ _ => rfl))) (pe_ix ix_list (pv 0) pe_int (fun _ _ => rfl)))) pe_int) pa_nil)) pe_int))
      (pss_one (ps_ret (pe_op op_mod (pe_op op_fdiv (pe_op op_mod (pe_callTy call_int1 (by rfl) mi PyProof.Rows.boot_int (pa_cons (pe_op op_mulW (pv 3) (pe_op op_add (pe_op op_add (pv 3) (pe_op op_mul pe_int (pe_ix ix_list (pv 0) pe_int (fun _ _ => rfl)))) pe_int)) pa_nil)) pe_int) pe_int) (pv 1))))))), ?_⟩
    obtain ⟨ne, cs, x, y, z, h1, h2, h3, h4, h5, h6, h7, h8, h9⟩ := S
    refine ⟨fun σ' H' => σ' = [some (.ref a), some (.int L), none, none] ∧ Keep a c H H' ∧ ∃ (cs : List Int) (x : Int), H' a = some (.lst [.ref c, .int x, .int y, .int z]) ∧ H' c = some (.lst (cs.map V.int)) ∧ cs.length ≤ 63 ∧ (∀ i ∈ cs, 0 ≤ i) ∧ 0 ≤ x, ?_, ?_⟩
    · -- if stock[1] == 0 and stock[0] != []
      refine ⟨.ref a, rfl, a, _, 1, .int x, rfl, rfl, sqlOf h1, atI_nat (j := 1) rfl, rfl, _, rfl, ite2 (fun e => ?_) (fun e => iteF ?_)⟩
      · refine ⟨.ref a, rfl, a, _, 0, .ref c, rfl, rfl, sqlOf h1, atI_nat (j := 0) rfl, Nat.zero_le _, fun p hp => ?_⟩
        have s1 : Same H (upd H p (.lst [])) := fun b o e => by
          rw [upd_ne (ne_of_none e hp)]
          exact e
        refine ⟨.list (cs.map .int), .list [], .lst (sqlOf (s1 _ _ h2)) (dp_ints cs), .lst (sqlOf upd_same) .nil, shaped_ints cs, rfl, _, rfl, ite2 (fun e2 => ?_) (fun e2 => ?_)⟩
        · rw [eqv_nil] at e2
          have hne : cs ≠ [] := fun z => by
            subst z
            simp at e2
          obtain ⟨ds, l, rfl⟩ : ∃ ds l, cs = ds ++ [l] := ⟨cs.dropLast, cs.getLast hne, (List.dropLast_concat_getLast hne).symm⟩
          refine ⟨.ref a, rfl, a, _, 0, .ref c, rfl, rfl, sqlOf (s1 _ _ h1), atI_nat (j := 0) rfl, .inl ⟨rfl, _, sqlOf (s1 _ _ h2)⟩, c, _, .int l, rfl, rfl, s1 _ _ h2, by simp, .ref a, rfl, a, _, 1, 1, rfl, rfl, (by rw [upd_ne ne]; exact s1 _ _ h1), rfl, rfl, ?_, ds, l, upd_same, ?_, ?_, ?_, ?_⟩
          · exact (Keep.new hp).trans (Keep.at_c.trans Keep.at_a)
          · rw [upd_ne ne.symm, upd_same]
            simp
          · rw [List.length_append] at h3
            omega
          · exact fun i hi => h4 i (List.mem_append.mpr (.inl hi))
          · exact h4 l (List.mem_append.mpr (.inr (List.mem_singleton.mpr rfl)))
        · exact ⟨rfl, Keep.new hp, cs, x, s1 _ _ h1, s1 _ _ h2, h3, h4, h5⟩
      · exact ⟨rfl, Keep.refl, cs, x, h1, h2, h3, h4, h5⟩
    · rintro σ' H' ⟨rfl, kp, cs, x, h1, h2, h3, h4, h5⟩
      -- if stock[1] > 0
      refine ⟨.ref a, rfl, a, _, 1, .int x, rfl, rfl, sqlOf h1, atI_nat (j := 1) rfl, x, 0, rfl, rfl, _, rfl, ite2 (fun e => ?_) (fun e => ?_)⟩
      · have hL0 : (0 : Int) < L := by omega
        refine ⟨.ref a, rfl, a, _, 1, .int x, rfl, rfl, sqlOf h1, atI_nat (j := 1) rfl, .inl ⟨x, rfl, .int L, rfl, x, L, rfl, rfl, hL0, ?_⟩⟩
        refine ⟨.ref a, rfl, a, _, 1, .int x, rfl, rfl, sqlOf h1, atI_nat (j := 1) rfl, .int L, rfl, x, L, rfl, rfl, wide_div hL0 hL2 (by decide) (by decide), .ref a, rfl, a, _, 1, 1, rfl, rfl, h1, rfl, .int (x % L), rfl, ?_⟩
        refine q _ _ ⟨ne, cs, x / L, y, z, upd_same, (by rw [upd_ne ne.symm]; exact h2), h3, h4, Int.ediv_nonneg h5 (by omega), h6, h7, h8, by omega⟩ (kp.trans Keep.at_a) (Int.emod_nonneg _ (by omega)) (Int.emod_lt_of_pos _ hL0)
      · have hL0 : (0 : Int) < L := by omega
        have g1 : upd H' a (.lst [.ref c, .int x, .int y, .int (z + 1)]) a = some (.lst [.ref c, .int x, .int y, .int (z + 1)]) := upd_same
        have hz : z + 1 ≤ 1000001 := by omega
        have hzz : 104729 * (z + 1) * (z + 1) ≤ 104729 * 1000001 * 1000001 := Int.mul_le_mul (by omega) hz (by omega) (by decide)
        have hz0 : 0 ≤ 104729 * (z + 1) * (z + 1) := Int.mul_nonneg (by omega) (by omega)
        have hb : (y + 104729 * (z + 1) * (z + 1)).natAbs < 2 ^ 64 := by omega
        have ht0 : 0 ≤ (y + 104729 * (z + 1) * (z + 1)) ^ (2 : Int).toNat % 1000000000000000000117 := Int.emod_nonneg _ (by decide)
        have ht1 : (y + 104729 * (z + 1) * (z + 1)) ^ (2 : Int).toNat % 1000000000000000000117 < 1000000000000000000117 := Int.emod_lt_of_pos _ (by decide)
        refine ⟨.ref a, rfl, a, _, 3, .int z, rfl, rfl, sqlOf h1, atI_nat (j := 3) rfl, z, 1, rfl, rfl, .ref a, rfl, a, _, 3, 3, rfl, rfl, h1, rfl, ?_⟩
        refine ⟨.ref a, rfl, a, _, 2, .int y, rfl, rfl, sqlOf g1, atI_nat (j := 2) rfl, .ref a, rfl, a, _, 3, .int (z + 1), rfl, rfl, sqlOf g1, atI_nat (j := 3) rfl, 104729, z + 1, rfl, rfl, .inl ⟨by decide, by decide⟩,
          .ref a, rfl, a, _, 3, .int (z + 1), rfl, rfl, sqlOf g1, atI_nat (j := 3) rfl, _, z + 1, rfl, rfl, .inr ⟨by omega, by omega⟩, y, _, rfl, rfl, _, 2, rfl, rfl, ⟨by decide, by decide, hb⟩, .inl ⟨_, rfl, _, 1000000000000000000117, rfl, rfl, (by show (0 : Int) < 1000000000000000000117; decide), ?_⟩⟩
        generalize ht : (y + 104729 * (z + 1) * (z + 1)) ^ (2 : Int).toNat % 1000000000000000000117 = t at ht0 ht1
        refine ⟨.int t, (by rw [← ht]; rfl), .int t, (by rw [← ht]; rfl), .ref a, rfl, a, _, 3, .int (z + 1), rfl, rfl, sqlOf g1, atI_nat (j := 3) rfl, 2, z + 1, rfl, rfl, .inl ⟨by decide, by decide⟩, t, _, rfl, rfl, _, 1, rfl, rfl, t, _, rfl, rfl,
          wide_mul (a := 80) (b := 80) (by omega) (by omega) (by decide) (by decide) (by decide), .inl ⟨_, rfl, _, 1000000000000000000000007, rfl, rfl, (by show (0 : Int) < 1000000000000000000000007; decide), _, 65537, rfl, rfl, ⟨by decide, by decide⟩, .int L, rfl, _, L, rfl, rfl, hL0, ?_⟩⟩
        exact q _ _ ⟨ne, cs, x, y, z + 1, g1, (by rw [upd_ne ne.symm]; exact h2), h3, h4, h5, h6, h7, by omega, by omega⟩ (kp.trans Keep.at_a) (Int.emod_nonneg _ (by omega)) (Int.emod_lt_of_pos _ hL0)
end
end NH
set_option Elab.async false
set_option linter.all false
set_option maxRecDepth 100000
namespace NH
open PySem PySem.Spec PyProof.Rows L2
theorem same_keep {a c : Addr} {H H' : Hp} (h : Same H H') : Keep a c H H' := fun b o _ _ e => h b o e
section
variable {P : Program} {w : World} {K : PySem.W.Frag} {mg : Str → Option Value} {base : Heap}
/-! ### the stock -/
def spStock (K : PySem.W.Frag) : Sp := fun vs H Q _ => ∃ (sc : Addr) (ns : List Int), vs = [.ref sc] ∧ SqL K H sc (ns.map V.int) ∧ ns.length ≤ 63 ∧
  ∀ H' a c, Stock H' a c 0 → Same H H' → Q (.ref a) H'
theorem ok_stock {f : Addr} {fd : FuncData} {k : Nat} (F : Fun K "_law_stock" "_law_stock" sStock f fd) (mi : mg "int" = none) : FnOk P w K mg base CX0 (k + 1) f fd ["_law_script"] (spStock K) := by
  refine F.ok scStock (fun vs H Q E h => ?_) (fun cdv A outer s H vs Q E hr h => ?_)
  · obtain ⟨sc, ns, rfl, _⟩ := h
    rfl
  · obtain ⟨sc, ns, rfl, hS, hlen, q⟩ := h
    refine ⟨_, pss_cons (ps_set (i := 1) scStock.nd rfl (.inl rfl) (pe_lst (pa_cons (pe_lst pa_nil) (pa_cons pe_int (pa_cons pe_int (pa_cons pe_int pa_nil))))))
      (pss_cons (ps_for PassesOwn.never rfl (pi_list (pv 0)) (pg_name (i := 2) scStock.nd rfl (.inl rfl))
        (pss_one (ps_if (pt_cmpR op_lt (pv 2) (pe_op op_pow pe_int pe_int) (nomark _))
          (pss_one (ps_asg (pe_op op_add (pe_op op_mod (pe_callTy call_int1 (by rfl) mi PyProof.Rows.boot_int (pa_cons (pe_op op_pow (pe_op op_add (pe_ix ix_list (pv 1) pe_int (fun _ _ => rfl)) (pe_op op_mod (pe_callTy call_int1 (by rfl) mi PyProof.Rows.boot_int (pa_cons (pv 2) pa_nil)) pe_int)) pe_int) pa_nil)) pe_int) pe_int) (pg_sub (pv 1) pe_int set_list)))
          (pss_one (ps_asg (pe_op op_cat (pe_lst (pa_cons (pe_op op_sub (pv 2) (pe_op op_pow pe_int pe_int)) pa_nil)) (pe_ix ix_list (pv 1) pe_int (fun _ _ => rfl))) (pg_sub (pv 1) pe_int set_list))))))
      (pss_one (ps_ret (pv 1)))), ?_⟩
    refine ⟨Nat.zero_le _, fun c nc => ⟨(by rw [sizeLine_eq]; show 4 ≤ 16777216; decide), fun a na => ?_⟩⟩
    have nac : a ≠ c := fun e => by
      rw [e, upd_same] at na
      cases na
    have na0 : H a = none := by
      rw [upd_ne nac] at na
      exact na
    refine ⟨.ref sc, rfl, sc, rfl, ⟨_, (same_new na).seq ((same_new nc).seq hS)⟩, for_list (xs := ns.map V.int) (fun i σ H' => ∃ c cs y y2, σ = [some (.ref sc), some (.ref a), y2] ∧ Same H H' ∧ H c = none ∧ a ≠ c ∧ H' a = some (.lst [.ref c, .int 0, .int y, .int 0]) ∧ H' c = some (.lst (cs.map V.int)) ∧ cs.length ≤ i ∧ (∀ j ∈ cs, 0 ≤ j) ∧ 0 ≤ y ∧ y ≤ 10000000000000066)
      ⟨c, [], 77029, none, rfl, (same_new nc).trans (same_new na), nc, nac, upd_same, (by rw [upd_ne nac.symm, upd_same]; rfl), Nat.le_refl _, (fun j h => by cases h), by decide, by decide⟩ (fun i σ H' _ h => ?_) (fun i x σ H' hx h => ?_) (fun σ H' h => ?_)⟩
    · obtain ⟨c, cs, y, y2, rfl, sm, _⟩ := h
      exact sm.seq hS
    · obtain ⟨c, cs, y, y2, rfl, sm, nc, nac, ha, hc, hl, hp, hy0, hy1⟩ := h
      obtain ⟨v, rfl⟩ : ∃ v : Int, x = .int v := by
        rw [List.getElem?_map] at hx
        cases e : ns[i]? with
        | none => rw [e] at hx; cases hx
        | some v => rw [e] at hx; exact ⟨v, (Option.some.inj hx).symm⟩
      refine ⟨.int v, rfl, 10, 18, rfl, rfl, ⟨by decide, by decide, by decide⟩, v, _, rfl, rfl, _, rfl, ite2 (fun e => ?_) (fun e => ?_)⟩
      · have hm0 : 0 ≤ v % 999999999989 := Int.emod_nonneg _ (by decide)
        have hm1 : v % 999999999989 < 999999999989 := Int.emod_lt_of_pos _ (by decide)
        refine ⟨.ref a, rfl, a, _, 2, .int y, rfl, rfl, sqlOf ha, atI_nat (j := 2) rfl, .int v, rfl, .inl ⟨v, rfl, v, 999999999989, rfl, rfl, (by show (0 : Int) < 999999999989; decide), y, _, rfl, rfl, _, 3, rfl, rfl, ⟨by decide, by decide, by omega⟩, .inl ⟨_, rfl, _, 10000000000000061, rfl, rfl, (by show (0 : Int) < 10000000000000061; decide), _, 5, rfl, rfl,
          .ref a, rfl, a, _, 2, 2, rfl, rfl, ha, rfl, ?_⟩⟩⟩
        have hM0 : 0 ≤ (y + v % 999999999989) ^ (3 : Int).toNat % 10000000000000061 := Int.emod_nonneg _ (by decide)
        have hM1 : (y + v % 999999999989) ^ (3 : Int).toNat % 10000000000000061 < 10000000000000061 := Int.emod_lt_of_pos _ (by decide)
        exact ⟨c, cs, _, _, rfl, same_put sm na0, nc, nac, upd_same, (by rw [upd_ne nac.symm]; exact hc), by omega, hp, by omega, by omega⟩
      · have hv : (10 : Int) ^ (18 : Int).toNat ≤ v := Int.not_lt.mp fun z => e (decide_eq_true z)
        have e18 : (10 : Int) ^ (18 : Int).toNat = 1000000000000000000 := by decide
        refine ⟨.int v, rfl, 10, 18, rfl, rfl, ⟨by decide, by decide, by decide⟩, v, _, rfl, rfl, (by rw [sizeLine_eq]; exact (by decide : 1 ≤ 16777216)), fun p np => ?_⟩
        have s1 : Same H' (upd H' p (.lst [.int (v - (10 : Int) ^ (18 : Int).toNat)])) := same_new np
        have hclen : cs.length ≤ 63 := by
          have := (List.getElem?_eq_some_iff.mp hx).1
          rw [List.length_map] at this
          omega
        refine ⟨.ref a, rfl, a, _, 0, .ref c, rfl, rfl, sqlOf (s1 _ _ ha), atI_nat (j := 0) rfl, p, c, _, _, rfl, rfl, upd_same, s1 _ _ hc, (by rw [List.length_map, sizeLine_eq]; show 1 + cs.length ≤ 16777216; omega), fun p2 np2 => ?_⟩
        have s2 := s1.trans (same_new (o := .lst ([.int (v - (10 : Int) ^ (18 : Int).toNat)] ++ cs.map V.int)) np2)
        have ne2 : a ≠ p2 := ne_of_none (s1 _ _ ha) np2
        refine ⟨.ref a, rfl, a, _, 0, 0, rfl, rfl, s2 _ _ ha, rfl, ?_⟩
        exact ⟨p2, (v - (10 : Int) ^ (18 : Int).toNat) :: cs, y, _, rfl, same_put (sm.trans s2) na0, (sm.trans s1).free np2, ne2, upd_same, (by rw [upd_ne ne2.symm, upd_same]; rfl), (by rw [List.length_cons]; omega), (fun j hj => by
          rcases List.mem_cons.mp hj with rfl | hj
          · omega
          · exact hp j hj), hy0, hy1⟩
    · obtain ⟨c, cs, y, y2, rfl, sm, nc, nac, ha, hc, hl, hp, hy0, hy1⟩ := h
      rw [List.length_map] at hl
      exact ⟨.ref a, rfl, q _ a c ⟨nac, cs, 0, y, 0, ha, hc, by omega, hp, by decide, hy0, hy1, by decide, by decide⟩ sm⟩
/-! ### wide -/
def spWide : Sp := fun vs H Q _ => ∃ (a c : Addr) (n : Nat) (L : Int), vs = [.ref a, .int L] ∧ Stock H a c n ∧ n ≤ 999990 ∧ 1 ≤ L ∧
  ∀ H' (r : Int), Stock H' a c (n + 4) → Keep a c H H' → 0 ≤ r → r < L → Q (.int r) H'
theorem ok_wide {f fP : Addr} {fd fdP : FuncData} {k : Nat} (F : Fun K "_law_wide" "_law_wide" sWide f fd) (FP : Fun K "_law_pick" "_law_pick" sPick fP fdP) (bP : Binds K fdP ["_law_stock_here", "_law_limit"] []) (gP : mg "_law_pick" = some (.ref fP)) (mi : mg "int" = none) (mr : mg "range" = none) :
    FnOk P w K mg base CX0 (k + 2) f fd ["_law_stock_here", "_law_limit"] spWide := by
  have GP : FnOk P w K mg base CX0 (k + 1) fP fdP ["_law_stock_here", "_law_limit"] spPick := ok_pick FP mi
  refine F.ok scWide (fun vs H Q E h => ?_) (fun cdv A outer s H vs Q E hr h => ?_)
  · obtain ⟨a, c, n, L, rfl, _⟩ := h
    rfl
  · obtain ⟨a, c, n, L, rfl, S, hn, hL, q⟩ := h
    refine ⟨_, pss_cons (ps_set (i := 2) scWide.nd rfl (.inl rfl) pe_int)
      (pss_cons (ps_for PassesOwn.never rfl (pi_range1 rfl mr (pa_cons pe_int pa_nil)) (pg_name (i := 3) scWide.nd rfl (.inl rfl))
        (pss_one (ps_set (i := 2) scWide.nd rfl (.inl rfl) (pe_op op_add (pe_op op_mul (pv 2) (pe_op op_pow pe_int pe_int)) (pe_call GP hr (by rfl) gP FP.kp bP .nil pass0 (pa_cons (pv 0) (pa_cons (pe_op op_pow pe_int pe_int) pa_nil)))))))
      (pss_one (ps_ret (pe_op op_mod (pe_callTy call_int1 (by rfl) mi PyProof.Rows.boot_int (pa_cons (pv 2) pa_nil)) (pv 1))))), ?_⟩
    refine ⟨4, rfl, by decide, by decide, for_range (n := 4) (fun i σ H' => ∃ t y3, σ = [some (.ref a), some (.int L), some (.int t), y3] ∧ Stock H' a c (n + i) ∧ Keep a c H H') ⟨0, none, rfl, S, Keep.refl⟩ (fun i σ H' hi h => ?_) (fun σ H' h => ?_)⟩
    · obtain ⟨t, y3, rfl, S', kp⟩ := h
      refine ⟨.int t, rfl, 10, 9, rfl, rfl, ⟨by decide, by decide, by decide⟩, t, _, rfl, rfl, .inr ⟨by decide, by decide⟩, .ref a, rfl, 10, 9, rfl, rfl, ⟨by decide, by decide, by decide⟩, a, c, n + i, _, rfl, S', by omega, by decide, by decide, fun H2 r S2 k2 _ _ => ?_⟩
      exact ⟨_, r, rfl, rfl, _, _, rfl, S2, kp.trans k2⟩
    · obtain ⟨t, y3, rfl, S', kp⟩ := h
      have hL0 : (0 : Int) < L := by omega
      exact ⟨.int t, rfl, .inl ⟨t, rfl, .int L, rfl, t, L, rfl, rfl, hL0, q _ _ S' kp (Int.emod_nonneg _ (by omega)) (Int.emod_lt_of_pos _ hL0)⟩⟩
end
end NH
set_option Elab.async false
set_option linter.all false
namespace NH
open PySem PySem.Spec PyProof.Rows L2
theorem small4k {n : Nat} (h : n ≤ 4000) : n ≤ sizeLine := by
  rw [sizeLine_eq]
  omega
theorem small4k' {n : Nat} (h : n ≤ 4000) : n < sizeLine := by
  rw [sizeLine_eq]
  omega
end NH
set_option Elab.async false
set_option linter.all false
set_option maxRecDepth 100000
set_option maxHeartbeats 2000000
/-! zip(*rows) over tuples, any number of them; list(zip(*rows)) -/
namespace ZN
open PySem
open PySem.Sem (wp)
theorem typeCall_zip (xs : List Value) : checkTypeCall "zip" ⟨xs, []⟩ = pure () := by kernel_rfl
theorem newCall_zip : ∀ xs : List Value, checkBuiltinCall "zip.__new__" ⟨.type "zip" :: xs, []⟩ = pure ()
  | [] => by kernel_rfl
  | [a] => by kernel_rfl
  | a :: b :: xs => by kernel_rfl
theorem args_init (a : Value) (xs : List Value) : argsOk "object.__init__" ⟨a :: xs, []⟩ := by
  unfold argsOk; rw [signature?_of (id := "object.__init__") (n := ['_', '_', 't', 'i', 'n', 'i', '_', '_']) (o := ['t', 'c', 'e', 'j', 'b', 'o']) (by kernel_rfl) F.owner_object]; kernel_rfl
theorem zip_no_len : typeLookup (.type "zip") "__len__" = pure none := by rw [typeLookup_type, builtinLookup_eq_fast]; kernel_rfl
theorem zip_no_hint : typeLookup (.type "zip") "__length_hint__" = pure none := by rw [typeLookup_type, builtinLookup_eq_fast]; kernel_rfl
def rfs : Nat → Nat → List Value
  | _, 0 => []
  | n, k + 1 => Value.ref n :: rfs (n + 1) k
theorem rfs_length : ∀ n k, (rfs n k).length = k
  | _, 0 => rfl
  | n, k + 1 => by rw [rfs, List.length_cons, rfs_length (n + 1) k]
abbrev tI (l : Addr) : Obj := { cls := .type "tuple_iterator", data := .fields #[.ref l, .int 0 0] }
def itsH : Heap → List Addr → Heap
  | h, [] => h
  | h, l :: ls => itsH (h.push (tI l)) ls
theorem itsH_keep : ∀ (ls : List Addr) (h : Heap) (c : Addr) (o : Obj), h.get? c = some o → (itsH h ls).get? c = some o
  | [], _, _, _, e => e
  | l :: ls, h, c, o, e => itsH_keep ls _ c o (Heap.get?_push_of_some _ e)
theorem itsH_size : ∀ (ls : List Addr) (h : Heap), (itsH h ls).objs.size = h.objs.size + ls.length
  | [], _ => rfl
  | l :: ls, h => by rw [itsH, itsH_size ls, Heap.size_push, List.length_cons]; omega
theorem itsH_at : ∀ (ls : List Addr) (h : Heap) (j : Nat) (l : Addr), ls[j]? = some l → (itsH h ls).get? (h.objs.size + j) = some (tI l)
  | [], _, _, _, e => by simp at e
  | l :: ls, h, 0, x, e => by
    cases (Option.some.inj e : l = x)
    exact itsH_keep ls _ _ _ (Heap.get?_push_size _ rfl)
  | l :: ls, h, j + 1, x, e => by
    have z := itsH_at ls (h.push (tI l)) j x (by simpa using e)
    rw [Heap.size_push] at z
    have e2 : h.objs.size + (j + 1) = h.objs.size + 1 + j := by omega
    rw [itsH, e2]
    exact z
section
variable {prog : Program} {w : World} {A : Around} {E : Value → Shared → Prop}
theorem forIn_its {f : Value → Array Value → Sem (ForInStep (Array Value))}
    (hf : ∀ (l : Addr) (acc : Array Value) (s : Shared) (xs : Array Value) (Q : ForInStep (Array Value) → Shared → Prop), s.heap.IsTuple l xs → Q (.yield (acc.push (.ref s.heap.objs.size))) { s with heap := s.heap.push (tI l) } → wpAny (model prog w) A (f (.ref l) acc) Q E s) :
    ∀ (ls : List Addr) (acc : Array Value) (s : Shared) (Q : Array Value → Shared → Prop), (∀ l ∈ ls, ∃ xs, s.heap.IsTuple l xs) → Q (acc ++ (rfs s.heap.objs.size ls.length).toArray) { s with heap := itsH s.heap ls } →
      wpAny (model prog w) A (forIn (ls.map Value.ref) acc f) Q E s
  | [], acc, s, Q, _, hQ => by
    simp only [List.map_nil, List.forIn_nil]
    refine wpAny_pure ?_
    have e : acc ++ (rfs s.heap.objs.size 0).toArray = acc := by simp [rfs]
    rw [← e]
    exact hQ
  | l :: ls, acc, s, Q, ht, hQ => by
    simp only [List.map_cons, List.forIn_cons]
    obtain ⟨xs, hl⟩ := ht l List.mem_cons_self
    refine wpAny_bind (hf l acc s xs _ hl ?_)
    refine forIn_its hf ls _ { s with heap := s.heap.push (tI l) } Q (fun l' h' => ?_) ?_
    · obtain ⟨ys, hy⟩ := ht l' (List.mem_cons_of_mem _ h')
      exact ⟨ys, Heap.IsTuple.push hy _⟩
    · have e : acc.push (Value.ref s.heap.objs.size) ++ (rfs (s.heap.push (tI l)).objs.size ls.length).toArray = acc ++ (rfs s.heap.objs.size (l :: ls).length).toArray := by
        rw [Heap.size_push]
        apply Array.ext'
        simp [rfs, List.length_cons]
      show Q (acc.push (Value.ref s.heap.objs.size) ++ (rfs (s.heap.push (tI l)).objs.size ls.length).toArray) _
      rw [e]
      exact hQ
theorem wpAny_iterAll {s : Shared} {ls : List Addr} {Q : List Value → Shared → Prop} (ht : ∀ l ∈ ls, ∃ xs, s.heap.IsTuple l xs) (hQ : Q (rfs s.heap.objs.size ls.length) { s with heap := itsH s.heap ls }) :
    wpAny (model prog w) A (Builtin.SmallTypes.iterAll (ls.map Value.ref)) Q E s := by
  unfold Builtin.SmallTypes.iterAll
  refine wpAny_bind (forIn_its (fun l acc s xs Q hl hQ => ?_) ls _ s _ ht ?_)
  · refine wpAny_bind (wpAny_holding (wpAny_pyIter_tuple hl ?_))
    exact wpAny_pure hQ
  · refine wpAny_pure ?_
    simpa using hQ
end
abbrev zTI (h : Heap) (ls : List Addr) : Obj := { cls := .type "tuple", data := .seq (rfs h.objs.size ls.length).toArray }
abbrev zTO (ls : List Addr) : Obj := { cls := .type "tuple", data := .seq (List.replicate ls.length Value.none).toArray }
abbrev zH1 (h : Heap) (ls : List Addr) : Heap := (itsH h ls).push (zTI h ls)
abbrev zH2 (h : Heap) (ls : List Addr) : Heap := (zH1 h ls).push (zTO ls)
abbrev zH3 (h : Heap) (ls : List Addr) : Heap := (zH2 h ls).push { cls := .type "zip", data := .fields #[.none, .bool false, .bool false, .ref (itsH h ls).objs.size, .ref (zH1 h ls).objs.size] }
theorem meets_zip_new (ls : List Addr) (hz : ls.length ≤ sizeLine) : Meets (Builtin.«zip.__new__» ⟨.type "zip" :: ls.map Value.ref, []⟩) (fun _ R s => (∀ l ∈ ls, ∃ xs, s.heap.IsTuple l xs) ∧
    R (.ok (.ret (.ref (zH2 s.heap ls).objs.size))) { s with heap := zH3 s.heap ls }) :=
  .of_wp fun prog w A R s h => by
    obtain ⟨hp, g, d, tk, os⟩ := s
    obtain ⟨hl, h⟩ := h
    have hsub := sub_zip
    unfold Builtin.«zip.__new__» Builtin.SmallTypes.newClass
    have c1 : ¬ ((rfs hp.objs.size ls.length).toArray.size > sizeLine) := by
      rw [List.size_toArray, rfs_length]
      omega
    have mm : List.map (fun _ => Value.none) (rfs hp.objs.size ls.length) = List.replicate ls.length Value.none := by
      rw [List.map_const', rfs_length]
    have c2 : ¬ ((List.replicate ls.length Value.none).toArray.size > sizeLine) := by
      rw [List.size_toArray, List.length_replicate]
      omega
    wp_walk using wpAny_iterAll (s := ⟨hp, g, d, tk, os⟩) hl
    rw [if_neg c1]
    wp_walk
    rw [mm]
    exact ⟨_, rfl, h⟩
abbrev IsArr (h : Heap) (T : Addr) (xs : Array Value) : Prop := h.get? T = some { cls := .type "tuple", data := .seq xs }
section
variable {prog : Program} {w : World} {A : Around} {E : Value → Shared → Prop} {s : Shared}
theorem call_zip {ls : List Addr} {Q : Value → Shared → Prop} (hz : ls.length ≤ sizeLine) (ht : ∀ l ∈ ls, ∃ xs, s.heap.IsTuple l xs)
    (h : ∀ h', IsZip h' (s.heap.objs.size + ls.length + 2) (s.heap.objs.size + ls.length) (s.heap.objs.size + ls.length + 1) .none → IsArr h' (s.heap.objs.size + ls.length) (rfs s.heap.objs.size ls.length).toArray →
      IsArr h' (s.heap.objs.size + ls.length + 1) (List.replicate ls.length Value.none).toArray → (∀ j l, ls[j]? = some l → h'.get? (s.heap.objs.size + j) = some (tI l)) → h'.objs.size = s.heap.objs.size + ls.length + 3 →
      (∀ c o, s.heap.get? c = some o → h'.get? c = some o) → Q (.ref (s.heap.objs.size + ls.length + 2)) { s with heap := h' }) :
    wpAny (model prog w) A (call (.type "zip") (ls.map Value.ref)) Q E s := by
  refine callType_new F.called_zip (by decide) (typeCall_zip _) (newCall_zip _) (fun obj => args_init obj _) F.entry_zip_new (meets_zip_new ls hz) ⟨ht, ?_⟩
  have e1 : (itsH s.heap ls).objs.size = s.heap.objs.size + ls.length := itsH_size ls s.heap
  have e2 : (zH1 s.heap ls).objs.size = s.heap.objs.size + ls.length + 1 := by rw [Heap.size_push, e1]
  have e3 : (zH2 s.heap ls).objs.size = s.heap.objs.size + ls.length + 2 := by rw [Heap.size_push, e2]
  have e4 : (zH3 s.heap ls).objs.size = s.heap.objs.size + ls.length + 3 := by rw [Heap.size_push, e3]
  have g4 : (zH3 s.heap ls).get? (zH2 s.heap ls).objs.size = some _ := Heap.get?_push_size _ rfl
  have g3 : (zH3 s.heap ls).get? (zH1 s.heap ls).objs.size = some _ := Heap.get?_push_of_some _ (Heap.get?_push_size _ rfl)
  have g2 : (zH3 s.heap ls).get? (itsH s.heap ls).objs.size = some _ := Heap.get?_push_of_some _ (Heap.get?_push_of_some _ (Heap.get?_push_size _ rfl))
  have kp : ∀ c o, (itsH s.heap ls).get? c = some o → (zH3 s.heap ls).get? c = some o := fun c o x => Heap.get?_push_of_some _ (Heap.get?_push_of_some _ (Heap.get?_push_of_some _ x))
  show _ ∧ _
  rw [e1, e2, e3] at g4
  rw [e2] at g3
  rw [e1] at g2
  rw [e3]
  exact ⟨⟨_, g4, rfl⟩, h _ g4 g2 g3 (fun j l q => kp _ _ (itsH_at ls s.heap j l q)) e4 fun c o x => kp _ _ (itsH_keep ls _ _ _ x)⟩
end

/-! ### one draw -/
abbrev Tr := Addr × Addr × Array Value
section
variable {prog : Program} {w : World} {A : Around} {E : Value → Shared → Prop}
def AtI (h : Heap) (ts : List Tr) (i : Nat) : Prop := ∀ t ∈ ts, h.IsTupleIter t.1 t.2.1 i ∧ h.IsTuple t.2.1 t.2.2
theorem iter_ne_tuple {h : Heap} {it l t : Addr} {i : Nat} {xs : Array Value} (x : h.IsTupleIter it t i) (y : h.IsTuple l xs) : l ≠ it := fun e => by
  subst e
  obtain ⟨o, ho, hc, _⟩ := x
  obtain ⟨o2, ho2, hc2, _⟩ := y
  rw [ho] at ho2
  cases ho2
  rw [hc] at hc2
  exact absurd hc2 (by decide)
theorem AtI.ext {h h' : Heap} {ts : List Tr} {i : Nat} (x : AtI h ts i) (k : ∀ t ∈ ts, ∀ o, (h.get? t.1 = some o → h'.get? t.1 = some o)) (k2 : ∀ t ∈ ts, ∀ o, (h.get? t.2.1 = some o → h'.get? t.2.1 = some o)) : AtI h' ts i := fun t ht => by
  obtain ⟨a, b⟩ := x t ht
  obtain ⟨o, ho, r⟩ := a
  obtain ⟨o2, ho2, r2⟩ := b
  exact ⟨⟨o, k t ht o ho, r⟩, ⟨o2, k2 t ht o2 ho2, r2⟩⟩
def row (ts : List Tr) (i : Nat) : List Value := ts.map fun t => t.2.2.getD i .none
theorem draw_loop {β : Type} {f : Value → β → Sem (ForInStep β)} (mk : Array Value → β)
    (hf : ∀ (it l : Addr) (items : Array Value) (i : Nat) (x : Value) (acc : Array Value) (s : Shared) (Q : ForInStep β → Shared → Prop), s.heap.IsTupleIter it l i → s.heap.IsTuple l items → items[i]? = some x →
      (∀ h', h'.IsTupleIter it l (i + 1) → Heap.SameBut it s.heap h' → Q (.yield (mk (acc.push x))) { s with heap := h' }) → wpAny (model prog w) A (f (.ref it) (mk acc)) Q E s) :
    ∀ (ts : List Tr) (acc : Array Value) (s : Shared) (i : Nat) (Q : β → Shared → Prop), (ts.map (·.1)).Nodup → AtI s.heap ts i → (∀ t ∈ ts, i < t.2.2.size) →
      (∀ h', AtI h' ts (i + 1) → h'.objs.size = s.heap.objs.size → (∀ c o, c ∉ ts.map (·.1) → s.heap.get? c = some o → h'.get? c = some o) → Q (mk (acc ++ (row ts i).toArray)) { s with heap := h' }) →
      wpAny (model prog w) A (forIn (ts.map fun t => Value.ref t.1) (mk acc) f) Q E s
  | [], acc, s, i, Q, _, _, _, hQ => by
    simp only [List.map_nil, List.forIn_nil]
    refine wpAny_pure ?_
    have z := hQ s.heap (fun _ h => nomatch h) rfl (fun _ _ _ e => e)
    simpa [row] using z
  | t :: ts, acc, s, i, Q, nd, hA, hi, hQ => by
    simp only [List.map_cons, List.forIn_cons]
    obtain ⟨a, b⟩ := hA t List.mem_cons_self
    have hlt := hi t List.mem_cons_self
    rw [List.map_cons, List.nodup_cons] at nd
    refine wpAny_bind (hf t.1 t.2.1 t.2.2 i t.2.2[i] acc s _ a b (Array.getElem?_eq_getElem hlt) fun h1 a1 sb => ?_)
    have up : ∀ c o, c ≠ t.1 → s.heap.get? c = some o → h1.get? c = some o := fun c o n e => sb.extBut c o n e
    refine draw_loop mk hf ts _ { s with heap := h1 } i Q nd.2 (AtI.ext (fun t' h' => hA t' (List.mem_cons_of_mem _ h')) (fun t' h' o e => up _ o (fun q => nd.1 (by rw [← q]; exact List.mem_map_of_mem h')) e) fun t' h' o e => up _ o (iter_ne_tuple a (hA t' (List.mem_cons_of_mem _ h')).2) e) (fun t' h' => hi t' (List.mem_cons_of_mem _ h')) fun h2 A2 sz k2 => ?_
    have b1 : h1.IsTuple t.2.1 t.2.2 := by
      obtain ⟨o, ho, r⟩ := b
      exact ⟨o, up _ _ (iter_ne_tuple a ⟨o, ho, r⟩) ho, r⟩
    have e : acc.push t.2.2[i] ++ (row ts i).toArray = acc ++ (row (t :: ts) i).toArray := by
      apply Array.ext'
      simp [row, Array.getD, hlt]
    rw [e]
    refine hQ h2 (fun t' h' => ?_) (sz.trans sb.1) fun c o hc e => k2 c o (fun q => hc (List.mem_cons_of_mem _ q)) (up c o (fun q => hc (by rw [q]; exact List.mem_cons_self)) e)
    rcases List.mem_cons.mp h' with rfl | h'
    · obtain ⟨o, ho, r⟩ := a1
      obtain ⟨o2, ho2, r2⟩ := b1
      have nt : t'.2.1 ∉ ts.map (·.1) := fun q => by
        obtain ⟨t2, m2, e2⟩ := List.mem_map.mp q
        exact iter_ne_tuple (hA t2 (List.mem_cons_of_mem _ m2)).1 b e2.symm
      exact ⟨⟨o, k2 _ o nd.1 ho, r⟩, ⟨o2, k2 _ o2 nt ho2, r2⟩⟩
    · exact A2 t' h'
theorem own_loop {β : Type} {f : Value × Nat → β → Sem (ForInStep β)} (b0 : β) (TO : Addr)
    (hf : ∀ (it l : Addr) (items : Array Value) (i k : Nat) (x : Value) (arr : Array Value) (s : Shared) (Q : ForInStep β → Shared → Prop), s.heap.IsTupleIter it l i → s.heap.IsTuple l items → items[i]? = some x → TO ≠ it → IsArr s.heap TO arr → arr.size ≤ sizeLine →
      (∀ h', h'.IsTupleIter it l (i + 1) → IsArr h' TO (arr.setIfInBounds k x) → h'.objs.size = s.heap.objs.size → (∀ c o, c ≠ TO → c ≠ it → s.heap.get? c = some o → h'.get? c = some o) → Q (.yield b0) { s with heap := h' }) → wpAny (model prog w) A (f (.ref it, k) b0) Q E s) :
    ∀ (ts : List Tr) (k : Nat) (arr : Array Value) (s : Shared) (i : Nat) (Q : β → Shared → Prop), (ts.map (·.1)).Nodup → AtI s.heap ts i → (∀ t ∈ ts, i < t.2.2.size) → IsArr s.heap TO arr → arr.size = k + ts.length → arr.size ≤ sizeLine → TO ∉ ts.map (·.1) → (∀ t ∈ ts, t.2.1 ≠ TO) →
      (∀ h' arr', AtI h' ts (i + 1) → IsArr h' TO arr' → arr'.toList = arr.toList.take k ++ row ts i → h'.objs.size = s.heap.objs.size → (∀ c o, c ≠ TO → c ∉ ts.map (·.1) → s.heap.get? c = some o → h'.get? c = some o) → Q b0 { s with heap := h' }) →
      wpAny (model prog w) A (forIn ((ts.map fun t => Value.ref t.1).zipIdx k) b0 f) Q E s
  | [], k, arr, s, i, Q, _, _, _, hT, hs, _, _, _, hQ => by
    simp only [List.map_nil, List.zipIdx_nil, List.forIn_nil]
    refine wpAny_pure (hQ s.heap arr (fun _ h => nomatch h) hT ?_ rfl fun _ _ _ _ e => e)
    rw [List.take_of_length_le (by rw [Array.length_toList, hs]; exact Nat.le_refl _)]
    simp [row]
  | t :: ts, k, arr, s, i, Q, nd, hA, hi, hT, hs, hz, hno, hnl, hQ => by
    simp only [List.map_cons, List.zipIdx_cons, List.forIn_cons]
    obtain ⟨a, b⟩ := hA t List.mem_cons_self
    have hlt := hi t List.mem_cons_self
    rw [List.map_cons, List.nodup_cons] at nd
    have hne : TO ≠ t.1 := fun e => hno (by rw [e]; exact List.mem_cons_self)
    have hl : k < arr.size := by rw [hs, List.length_cons]; omega
    refine wpAny_bind (hf t.1 t.2.1 t.2.2 i k t.2.2[i] arr s _ a b (Array.getElem?_eq_getElem hlt) hne hT hz fun h1 a1 T1 sz1 up => ?_)
    refine own_loop b0 TO hf ts (k + 1) _ { s with heap := h1 } i Q nd.2 (AtI.ext (fun t' h' => hA t' (List.mem_cons_of_mem _ h')) (fun t' h' o e => up _ o (fun q => hno (List.mem_cons_of_mem _ (by rw [← q]; exact List.mem_map_of_mem h'))) (fun q => nd.1 (by rw [← q]; exact List.mem_map_of_mem h')) e) fun t' h' o e => up _ o (hnl t' (List.mem_cons_of_mem _ h')) (iter_ne_tuple a (hA t' (List.mem_cons_of_mem _ h')).2) e)
      (fun t' h' => hi t' (List.mem_cons_of_mem _ h')) T1 (by rw [Array.size_setIfInBounds, hs, List.length_cons]; omega) (by rw [Array.size_setIfInBounds]; exact hz) (fun q => hno (List.mem_cons_of_mem _ q)) (fun t' h' => hnl t' (List.mem_cons_of_mem _ h')) fun h2 arr' A2 T2 e2 sz k2 => ?_
    have b1 : h1.IsTuple t.2.1 t.2.2 := by
      obtain ⟨o, ho, r⟩ := b
      exact ⟨o, up _ _ (hnl t List.mem_cons_self) (iter_ne_tuple a ⟨o, ho, r⟩) ho, r⟩
    refine hQ h2 arr' (fun t' h' => ?_) T2 ?_ (sz.trans sz1) fun c o c1 hc e => k2 c o c1 (fun q => hc (List.mem_cons_of_mem _ q)) (up c o c1 (fun q => hc (by rw [q]; exact List.mem_cons_self)) e)
    · rcases List.mem_cons.mp h' with rfl | h'
      · obtain ⟨o, ho, r⟩ := a1
        obtain ⟨o2, ho2, r2⟩ := b1
        have nt : t'.2.1 ∉ ts.map (·.1) := fun q => by
          obtain ⟨t2, m2, e2⟩ := List.mem_map.mp q
          exact iter_ne_tuple (hA t2 (List.mem_cons_of_mem _ m2)).1 b e2.symm
        exact ⟨⟨o, k2 _ o (Ne.symm hne) nd.1 ho, r⟩, ⟨o2, k2 _ o2 (hnl t' List.mem_cons_self) nt ho2, r2⟩⟩
      · exact A2 t' h'
    · rw [e2, Array.toList_setIfInBounds, List.take_add_one, List.take_set_of_le (Nat.le_refl k), List.getElem?_set_self (by simpa using hl)]
      simp [row, Array.getD, hlt]
end
end ZN
set_option Elab.async false
set_option linter.all false
set_option maxRecDepth 100000
set_option maxHeartbeats 2000000
namespace ZN
open PySem
open PySem.Sem (wp)
section
variable {prog : Program} {w : World} {A : Around} {E : Value → Shared → Prop} {s : Shared}
theorem tz : Value.type "tuple" ≠ Value.type "zip" := by decide
theorem refs_toArray (ts : List Tr) : (ts.map fun t => Value.ref t.1).toArray.isEmpty = ts.isEmpty := by cases ts <;> rfl
/-- the first draw: the tuple that the zip owns is filled and handed out -/
theorem next_first {z TI TO : Addr} {ts : List Tr} {i : Nat} {arr : Array Value} {Q : Value → Shared → Prop} (hne : ts ≠ []) (hz : IsZip s.heap z TI TO .none) (hTI : IsArr s.heap TI (ts.map fun t => Value.ref t.1).toArray) (hTO : IsArr s.heap TO arr)
    (hs : arr.size = ts.length) (hsz : ts.length ≤ sizeLine) (nd : (ts.map (·.1)).Nodup) (hA : AtI s.heap ts i) (hi : ∀ t ∈ ts, i < t.2.2.size) (hnl : ∀ t ∈ ts, t.2.1 ≠ TO)
    (hQ : ∀ h', IsZipHeld h' z TI TO s.heap.objs.size false → AtI h' ts (i + 1) → IsArr h' s.heap.objs.size (row ts i).toArray → h'.objs.size = s.heap.objs.size + 1 →
      (∀ c o, c ≠ z → c ≠ TO → c ∉ ts.map (·.1) → s.heap.get? c = some o → h'.get? c = some o) → Q (.ref s.heap.objs.size) { s with heap := h' }) :
    wpAny (model prog w) A (Builtin.«zip.__next__» ⟨[.ref z], []⟩) (fun fin s' => ∃ v, fin = .done (.ret v) ∧ Q v s') E s := by
  have zne : ∀ c o, s.heap.get? c = some o → o.cls ≠ .type "zip" → c ≠ z := fun c o e n q => by
    subst q
    rw [hz] at e
    cases e
    exact n rfl
  have itz : ∀ t ∈ ts, t.1 ≠ z := fun t ht => by
    obtain ⟨o, ho, hc, _⟩ := (hA t ht).1
    exact zne _ o ho (by rw [hc]; decide)
  have lz : ∀ t ∈ ts, t.2.1 ≠ z := fun t ht => by
    obtain ⟨o, ho, hc, _⟩ := (hA t ht).2
    exact zne _ o ho (by rw [hc]; decide)
  have TOz : TO ≠ z := zne _ _ hTO tz
  have TIz : TI ≠ z := zne _ _ hTI tz
  have TOit : TO ∉ ts.map (·.1) := fun q => by
    obtain ⟨t, ht, e⟩ := List.mem_map.mp q
    exact iter_ne_tuple (hA t ht).1 ⟨_, hTO, rfl, _, rfl⟩ e.symm
  have zit : z ∉ ts.map (·.1) := fun q => by
    obtain ⟨t, ht, e⟩ := List.mem_map.mp q
    exact itz t ht e
  show wpAny _ _ (field (.ref z) 2 >>= _) _ _ _
  refine wpAny_bind (wpAny_field hz rfl (x := .bool false) rfl ?_)
  show wpAny _ _ (field (.ref z) 3 >>= _) _ _ _
  refine wpAny_bind (wpAny_field hz rfl (x := .ref TI) rfl ?_)
  refine wpAny_bind (wpAny_seqItems hTI rfl ?_)
  have hem : (ts.map fun t => Value.ref t.1).toArray.isEmpty = false := by
    rw [refs_toArray]
    cases ts with
    | nil => exact absurd rfl hne
    | cons _ _ => rfl
  simp only [hem, Bool.false_eq_true, if_false]
  show wpAny _ _ (Builtin.SmallTypes.ownedTupleIsFree (.ref z) >>= _) _ _ _
  refine wpAny_bind ?_
  unfold Builtin.SmallTypes.ownedTupleIsFree
  refine wpAny_bind (wpAny_field hz rfl (x := .none) rfl (wpAny_pure ?_))
  simp only [if_true]
  refine wpAny_bind (wpAny_rule ?_)
  refine wpAny_bind (wpAny_field hz rfl (x := .ref TO) rfl ?_)
  refine wpAny_bind (wpAny_setField_rec hz (by simp) fun h₁ hz₁ hs₁ => ?_)
  replace hz₁ : IsZip h₁ z TI TO .ellipsis := hz₁
  have up1 : ∀ c o, c ≠ z → s.heap.get? c = some o → h₁.get? c = some o := fun c o n e => hs₁.extBut c o n e
  refine wpAny_bind ?_
  refine own_loop ((none, ()) : Option Fin × Unit) TO (fun it l items i k x arr s Q h1 h2 hx hn hT hz2 hq => ?_) ts 0 arr { s with heap := h₁ } i _ nd (AtI.ext hA (fun t ht o e => up1 _ o (itz t ht) e) fun t ht o e => up1 _ o (lz t ht) e) hi (up1 _ _ TOz hTO) (by rw [hs]; omega) (by rw [hs]; exact hsz) TOit hnl fun h₂ arr' A2 T2 e2 sz2 k2 => ?_
  · refine wpAny_bind (wpAny_onRaise ?_)
    show wpAny _ _ (Builtin.SmallTypes.nextOf (.ref it) >>= _) _ _ _
    refine wpAny_bind (RZ.nextOf_tuple_item h1 h2 hx fun h₂ h1₂ hs₂ => wpAny_pure ?_)
    have hT2 : IsArr h₂ TO arr := hs₂.extBut _ _ hn hT
    refine wpAny_bind (wpAny_seqItems hT2 rfl ?_)
    refine wpAny_bind (wpAny_updateSeq hT2 rfl ?_ hz2 (by rw [Array.size_setIfInBounds]; omega))
    refine wpAny_bind (wpAny_letGo (wpAny_pure ?_))
    refine hq _ ?_ ?_ ?_ fun c o c1 c2 e => (Heap.get?_update_other _ _ (Ne.symm c1)).trans (hs₂.extBut _ _ c2 e)
    · obtain ⟨o, ho, r⟩ := h1₂
      exact ⟨o, (Heap.get?_update_other _ _ hn).trans ho, r⟩
    · show Heap.get? _ _ = _
      rw [Heap.get?_update_self (Obj.mapSeq (·.setIfInBounds k x)) hT2 rfl]
      simp [Obj.mapSeq]
    · exact (Heap.SameBut.update ..).1.trans hs₂.1
  · have e0 : arr'.toList = row ts i := by simpa using e2
    have kk : arr'.size = ts.length := by rw [← Array.length_toList, e0]; simp [row]
    refine wpAny_bind (wpAny_seqItems T2 rfl ?_)
    refine wpAny_bind (wpAny_newTuple ?_ (by rw [e0]; simp [row]; omega))
    have hz₂ : IsZip h₂ z TI TO .ellipsis := k2 _ _ (Ne.symm TOz) zit hz₁
    have hsz : h₂.objs.size = s.heap.objs.size := sz2.trans hs₁.1
    have hzl : z < h₂.objs.size := Heap.lt_size hz₂
    show wpAny _ _ (Builtin.SmallTypes.ownedTupleHandOut (.ref z) (.ref h₂.objs.size) >>= _) _ _ _
    refine wpAny_bind ?_
    unfold Builtin.SmallTypes.ownedTupleHandOut
    have hz₆ : IsZip (h₂.push { cls := .type "tuple", data := .seq arr'.toList.toArray }) z TI TO .ellipsis := Heap.get?_push_of_some _ hz₂
    refine wpAny_bind (wpAny_setField_rec hz₆ (by simp) fun h₇ hz₇ hs₇ => ?_)
    replace hz₇ : IsZip h₇ z TI TO (rawInt h₂.objs.size) := hz₇
    refine wpAny_setField_rec hz₇ (by simp) fun h₈ hz₈ hs₈ => ?_
    replace hz₈ : IsZipHeld h₈ z TI TO h₂.objs.size false := hz₈
    have up : ∀ c o, c ≠ z → h₂.get? c = some o → h₈.get? c = some o := fun c o c1 e => hs₈.extBut _ _ c1 (hs₇.extBut _ _ c1 (Heap.get?_push_of_some _ e))
    have hT₈ : IsArr h₈ h₂.objs.size arr'.toList.toArray := hs₈.extBut _ _ (Nat.ne_of_gt hzl) (hs₇.extBut _ _ (Nat.ne_of_gt hzl) (Heap.get?_push_size _ rfl))
    have hz8 : h₈.objs.size = h₂.objs.size + 1 := by rw [hs₈.1, hs₇.1, Heap.size_push]
    rw [hsz] at hz₈ hT₈ hz8
    rw [e0] at hT₈
    refine wpAny_pure ⟨_, rfl, ?_⟩
    show Q (.ref h₂.objs.size) _
    rw [hsz]
    exact hQ h₈ hz₈ (AtI.ext A2 (fun t ht o e => up _ o (itz t ht) e) fun t ht o e => up _ o (lz t ht) e) hT₈ hz8 fun c o c1 c2 c3 e => up c o c1 (k2 c o c2 c3 (up1 c o c1 e))
/-- a later draw: the tuple handed out first is still there -/
theorem next_held {z TI TO T : Addr} {f : Bool} {oT : Obj} {ts : List Tr} {i : Nat} {Q : Value → Shared → Prop} (hne : ts ≠ []) (hz : IsZipHeld s.heap z TI TO T f) (hTI : IsArr s.heap TI (ts.map fun t => Value.ref t.1).toArray) (hT : s.heap.get? T = some oT)
    (hsz : ts.length ≤ sizeLine) (nd : (ts.map (·.1)).Nodup) (hA : AtI s.heap ts i) (hi : ∀ t ∈ ts, i < t.2.2.size)
    (hQ : ∀ h', IsZipHeld h' z TI TO T true → AtI h' ts (i + 1) → IsArr h' s.heap.objs.size (row ts i).toArray → h'.objs.size = s.heap.objs.size + 1 →
      (∀ c o, c ≠ z → c ∉ ts.map (·.1) → s.heap.get? c = some o → h'.get? c = some o) → Q (.ref s.heap.objs.size) { s with heap := h' }) :
    wpAny (model prog w) A (Builtin.«zip.__next__» ⟨[.ref z], []⟩) (fun fin s' => ∃ v, fin = .done (.ret v) ∧ Q v s') E s := by
  have zne : ∀ c o, s.heap.get? c = some o → o.cls ≠ .type "zip" → c ≠ z := fun c o e n q => by
    subst q
    rw [hz] at e
    cases e
    exact n rfl
  have itz : ∀ t ∈ ts, t.1 ≠ z := fun t ht => by
    obtain ⟨o, ho, hc, _⟩ := (hA t ht).1
    exact zne _ o ho (by rw [hc]; decide)
  have lz : ∀ t ∈ ts, t.2.1 ≠ z := fun t ht => by
    obtain ⟨o, ho, hc, _⟩ := (hA t ht).2
    exact zne _ o ho (by rw [hc]; decide)
  have zit : z ∉ ts.map (·.1) := fun q => by
    obtain ⟨t, ht, e⟩ := List.mem_map.mp q
    exact itz t ht e
  show wpAny _ _ (field (.ref z) 2 >>= _) _ _ _
  refine wpAny_bind (wpAny_field hz rfl (x := .bool false) rfl ?_)
  show wpAny _ _ (field (.ref z) 3 >>= _) _ _ _
  refine wpAny_bind (wpAny_field hz rfl (x := .ref TI) rfl ?_)
  refine wpAny_bind (wpAny_seqItems hTI rfl ?_)
  have hem : (ts.map fun t => Value.ref t.1).toArray.isEmpty = false := by
    rw [refs_toArray]
    cases ts with
    | nil => exact absurd rfl hne
    | cons _ _ => rfl
  simp only [hem, Bool.false_eq_true, if_false]
  show wpAny _ _ (Builtin.SmallTypes.ownedTupleIsFree (.ref z) >>= _) _ _ _
  refine wpAny_bind (wpAny_tupleHeld_zip hz hT fun h₁ hz₁ hs₁ => ?_)
  have up1 : ∀ c o, c ≠ z → s.heap.get? c = some o → h₁.get? c = some o := fun c o n e => hs₁.extBut c o n e
  simp only [Bool.false_eq_true, if_false]
  refine wpAny_bind ?_
  rw [← Array.forIn_toList]
  refine draw_loop (fun a => ((none, a) : Option Fin × Array Value)) (fun it l items i x acc s Q h1 h2 hx hq => ?_) ts #[] { s with heap := h₁ } i _ nd (AtI.ext hA (fun t ht o e => up1 _ o (itz t ht) e) fun t ht o e => up1 _ o (lz t ht) e) hi fun h₂ A2 sz2 k2 => ?_
  · refine wpAny_bind (wpAny_holding ?_)
    show wpAny _ _ (Builtin.SmallTypes.nextOf (.ref it) >>= _) _ _ _
    refine wpAny_bind (RZ.nextOf_tuple_item h1 h2 hx fun h₂ h1₂ hs₂ => wpAny_pure ?_)
    exact wpAny_pure (hq h₂ h1₂ hs₂)
  · have e0 : (#[] ++ (row ts i).toArray : Array Value).toList = row ts i := by simp
    have hz₂ : IsZipHeld h₂ z TI TO T true := k2 _ _ zit hz₁
    have hsz2 : h₂.objs.size = s.heap.objs.size := sz2.trans hs₁.1
    show wpAny _ _ (newTuple (#[] ++ (row ts i).toArray : Array Value).toList >>= _) _ _ _
    rw [e0]
    refine wpAny_bind (wpAny_newTuple ?_ (by simp [row]; omega))
    refine wpAny_pure ⟨_, rfl, ?_⟩
    have hp : IsArr (h₂.push { cls := .type "tuple", data := .seq (row ts i).toArray }) h₂.objs.size (row ts i).toArray := Heap.get?_push_size _ rfl
    have hz4 : (h₂.push { cls := .type "tuple", data := .seq (row ts i).toArray }).objs.size = h₂.objs.size + 1 := Heap.size_push ..
    show Q (.ref h₂.objs.size) _
    rw [hsz2] at hp hz4 ⊢
    exact hQ _ (Heap.get?_push_of_some _ hz₂) (AtI.ext A2 (fun _ _ o e => Heap.get?_push_of_some _ e) fun _ _ o e => Heap.get?_push_of_some _ e) hp hz4 fun c o c1 c2 e => Heap.get?_push_of_some _ (k2 c o c2 (up1 c o c1 e))
/-- the end behind some draws -/
theorem next_end {z TI TO T : Addr} {f : Bool} {oT : Obj} {ts : List Tr} {i : Nat} {Q : Fin → Shared → Prop} (hh : A.handled = none) (hne : ts ≠ []) (hz : IsZipHeld s.heap z TI TO T f) (hTI : IsArr s.heap TI (ts.map fun t => Value.ref t.1).toArray) (hT : s.heap.get? T = some oT)
    (hA : AtI s.heap ts i) (hi : ∀ t ∈ ts, t.2.2.size ≤ i)
    (hE : ∀ h' e, (∀ c o, c ≠ z → c ∉ ts.map (·.1) → s.heap.get? c = some o → h'.get? c = some o) → (∃ o, h'.get? e = some o ∧ o.cls = .type "StopIteration") → E (.ref e) { s with heap := h' }) :
    wpAny (model prog w) A (Builtin.«zip.__next__» ⟨[.ref z], []⟩) Q E s := by
  have zne : ∀ c o, s.heap.get? c = some o → o.cls ≠ .type "zip" → c ≠ z := fun c o e n q => by
    subst q
    rw [hz] at e
    cases e
    exact n rfl
  show wpAny _ _ (field (.ref z) 2 >>= _) _ _ _
  refine wpAny_bind (wpAny_field hz rfl (x := .bool false) rfl ?_)
  show wpAny _ _ (field (.ref z) 3 >>= _) _ _ _
  refine wpAny_bind (wpAny_field hz rfl (x := .ref TI) rfl ?_)
  refine wpAny_bind (wpAny_seqItems hTI rfl ?_)
  have hem : (ts.map fun t => Value.ref t.1).toArray.isEmpty = false := by
    rw [refs_toArray]
    cases ts with
    | nil => exact absurd rfl hne
    | cons _ _ => rfl
  simp only [hem, Bool.false_eq_true, if_false]
  show wpAny _ _ (Builtin.SmallTypes.ownedTupleIsFree (.ref z) >>= _) _ _ _
  refine wpAny_bind (wpAny_tupleHeld_zip hz hT fun h₁ hz₁ hs₁ => ?_)
  have up1 : ∀ c o, c ≠ z → s.heap.get? c = some o → h₁.get? c = some o := fun c o n e => hs₁.extBut c o n e
  simp only [Bool.false_eq_true, if_false]
  refine wpAny_bind ?_
  rw [← Array.forIn_toList]
  cases ts with
  | nil => exact absurd rfl hne
  | cons t ts =>
    obtain ⟨⟨o, ho, r⟩, ⟨o2, ho2, r2⟩⟩ := hA t List.mem_cons_self
    have n1 : t.1 ≠ z := zne _ _ ho (by rw [r.1]; decide)
    have n2 : t.2.1 ≠ z := zne _ _ ho2 (by rw [r2.1]; decide)
    simp only [List.map_cons, List.forIn_cons]
    refine wpAny_bind (wpAny_bind (wpAny_holding ?_))
    show wpAny _ _ (Builtin.SmallTypes.nextOf (.ref t.1) >>= _) _ _ _
    refine wpAny_bind (RZ.nextOf_tuple_end (s := { s with heap := h₁ }) hh ⟨o, up1 _ _ n1 ho, r⟩ ⟨o2, up1 _ _ n2 ho2, r2⟩ (by simpa using hi t List.mem_cons_self) fun h₂ e hs₂ he => ?_)
    exact hE h₂ e (fun c o c1 c2 x => hs₂ _ _ (fun q => c2 (by rw [q]; exact List.mem_cons_self)) (up1 _ _ c1 x)) he
/-- no rows at all -/
theorem next_none {z TI TO : Addr} {Q : Fin → Shared → Prop} (hh : A.handled = none) (hz : IsZip s.heap z TI TO .none) (hTI : IsArr s.heap TI #[])
    (hE : ∀ h' e, (∀ c o, s.heap.get? c = some o → h'.get? c = some o) → (∃ o, h'.get? e = some o ∧ o.cls = .type "StopIteration") → E (.ref e) { s with heap := h' }) :
    wpAny (model prog w) A (Builtin.«zip.__next__» ⟨[.ref z], []⟩) Q E s := by
  show wpAny _ _ (field (.ref z) 2 >>= _) _ _ _
  refine wpAny_bind (wpAny_field hz rfl (x := .bool false) rfl ?_)
  show wpAny _ _ (field (.ref z) 3 >>= _) _ _ _
  refine wpAny_bind (wpAny_field hz rfl (x := .ref TI) rfl ?_)
  refine wpAny_bind (wpAny_seqItems hTI rfl ?_)
  refine wpAny_bind (wpAny_rule (wpAny_bind ?_))
  show wpAny _ _ (newExc (.type "StopIteration") [] >>= _) _ _ _
  refine wpAny_bind ?_
  simp only [newExc, newTuple]
  refine wpAny_bind (wpAny_newObj_type ?_ (by size_fits))
  refine wpAny_bind (m := firstArgMember _ _) (wpAny_of_eq (a := Value.none) (by first | rfl | (simp only [firstArgMember]; rfl)) ?_)
  refine wpAny_newObj_type ?_ (by size_fits)
  simp only [raiseNew]
  refine wpAny_bind (wpAny_handled ?_)
  first | rw [show A.in1.handled = none from hh] | rw [hh]
  refine wpAny_bind (wpAny_pure (wpAny_throw ?_))
  exact hE _ _ (fun c o x => Heap.get?_push_of_some _ (Heap.get?_push_of_some _ x)) ⟨_, Heap.get?_push_size _ rfl, rfl⟩
end
end ZN
set_option Elab.async false
set_option linter.all false
set_option maxRecDepth 100000
set_option maxHeartbeats 2000000
namespace ZN
open PySem
open PySem.Sem (wp)
/-- a zip behind i draws whose tuples are all kept -/
structure ZSt (h : Heap) (z TI TO : Addr) (ts : List Tr) (i : Nat) : Prop where
  ti : IsArr h TI (ts.map fun t => Value.ref t.1).toArray
  at_ : AtI h ts i
  st : (i = 0 ∧ TI ≠ TO ∧ IsZip h z TI TO .none ∧ (∃ arr, IsArr h TO arr ∧ arr.size = ts.length) ∧ ∀ t ∈ ts, t.2.1 ≠ TO) ∨ (ts ≠ [] ∧ ∃ T f xs, IsZipHeld h z TI TO T f ∧ IsArr h T xs)
structure ZG (ts : List Tr) (lo : Addr) (h : Heap) (as : List Addr) : Prop where
  rise : as.Pairwise (· < ·)
  above : ∀ a ∈ as, lo < a
  tup : ∀ (j : Nat) (a : Addr), as[j]? = some a → IsArr h a (row ts j).toArray
theorem ZG.there {ts : List Tr} {lo : Addr} {h : Heap} {as : List Addr} (g : ZG ts lo h as) {a : Addr} (ha : a ∈ as) : a < h.objs.size := by
  obtain ⟨j, hj⟩ := List.mem_iff_getElem?.mp ha
  exact Heap.lt_size (g.tup j a hj)
theorem arr_ne_list {h : Heap} {S T : Addr} {xs ys : Array Value} {c : Nat} (hS : h.get? S = some { cls := .type "list", dict := none, data := .seq ys c, slots := #[] }) (hT : IsArr h T xs) : T ≠ S := fun e => by
  subst e
  rw [hT] at hS
  have := congrArg (fun o => o.map Obj.cls) hS
  simp at this
theorem AtI.ne_list {h : Heap} {ts : List Tr} {i : Nat} {S : Addr} {ys : Array Value} {c : Nat} (x : AtI h ts i) (hS : h.get? S = some { cls := .type "list", dict := none, data := .seq ys c, slots := #[] }) : ∀ t ∈ ts, t.1 ≠ S ∧ t.2.1 ≠ S := fun t ht => by
  obtain ⟨⟨o, ho, hc, _⟩, ⟨o2, ho2, hc2, _⟩⟩ := x t ht
  constructor
  · intro e
    rw [e, hS] at ho
    cases ho
    exact absurd (show Value.type "list" = Value.type "tuple_iterator" from hc) (by decide)
  · intro e
    rw [e, hS] at ho2
    cases ho2
    exact absurd (show Value.type "list" = Value.type "tuple" from hc2) (by decide)
section
variable {prog : Program} {w : World} {A : Around} {E : Value → Shared → Prop} {s : Shared}
theorem pn_item {z TI TO : Addr} {ts : List Tr} {i : Nat} {Q : Option Value → Shared → Prop} (hne : ts ≠ []) (hsz : ts.length ≤ sizeLine) (nd : (ts.map (·.1)).Nodup) (hi : ∀ t ∈ ts, i < t.2.2.size) (st : ZSt s.heap z TI TO ts i)
    (hQ : ∀ h', ZSt h' z TI TO ts (i + 1) → IsArr h' s.heap.objs.size (row ts i).toArray → h'.objs.size = s.heap.objs.size + 1 →
      (∀ c o, c ≠ z → c ≠ TO → c ∉ ts.map (·.1) → s.heap.get? c = some o → h'.get? c = some o) → Q (some (.ref s.heap.objs.size)) { s with heap := h' }) :
    wpAny (model prog w) A (pyNext (.ref z)) Q E s := by
  have TIit : ∀ {f0 : Value}, (∃ o, s.heap.get? z = some o ∧ o.cls = .type "zip") → TI ≠ z ∧ TI ∉ ts.map (·.1) := fun hz => by
    obtain ⟨o, ho, hc⟩ := hz
    constructor
    · intro e
      have := st.ti
      rw [e, IsArr, ho] at this
      cases this
      exact absurd (show Value.type "tuple" = Value.type "zip" from hc) (by decide)
    · intro q
      obtain ⟨t, ht, e⟩ := List.mem_map.mp q
      exact iter_ne_tuple (st.at_ t ht).1 ⟨_, st.ti, rfl, _, rfl⟩ e.symm
  rcases st.st with ⟨rfl, hTT, hz, ⟨arr, hTO, hs⟩, hnl⟩ | ⟨_, T, f, xs, hz, hT⟩
  · have hTy : s.TypeIs (.ref z) "zip" := ⟨_, hz, rfl⟩
    obtain ⟨n1, n2⟩ := TIit (f0 := .none) ⟨_, hz, rfl⟩
    unfold pyNext
    exact wpAny_bind (wpAny_attempt (wpAny_callSpecial?_slot (name := Str.ofString "__next__") hTy F.slot_zip_next
        (wpAny_call_entry F.slot_zip_next hTy F.entry_zip_next
          (next_first hne hz st.ti hTO hs hsz nd st.at_ hi hnl fun h' a1 a2 a3 a4 a5 => wpAny_pure (hQ h' ⟨a5 _ _ n1 hTT n2 st.ti, a2, .inr ⟨hne, _, _, _, a1, a3⟩⟩ a3 a4 a5)) (F.args_zip_next_1 _))))
  · have hTy : s.TypeIs (.ref z) "zip" := ⟨_, hz, rfl⟩
    obtain ⟨n1, n2⟩ := TIit (f0 := .none) ⟨_, hz, rfl⟩
    have m1 : T ≠ z := fun e => by
      subst e
      rw [IsArr, hz] at hT
      have := congrArg (fun o => o.map Obj.cls) hT
      simp at this
    have m2 : T ∉ ts.map (·.1) := fun q => by
      obtain ⟨t, ht, e⟩ := List.mem_map.mp q
      exact iter_ne_tuple (st.at_ t ht).1 ⟨_, hT, rfl, _, rfl⟩ e.symm
    unfold pyNext
    exact wpAny_bind (wpAny_attempt (wpAny_callSpecial?_slot (name := Str.ofString "__next__") hTy F.slot_zip_next
      (wpAny_call_entry F.slot_zip_next hTy F.entry_zip_next
        (next_held hne hz st.ti hT hsz nd st.at_ hi fun h' a1 a2 a3 a4 a5 => wpAny_pure (hQ h' ⟨a5 _ _ n1 n2 st.ti, a2, .inr ⟨hne, _, _, _, a1, a5 _ _ m1 m2 hT⟩⟩ a3 a4 fun c o c1 _ c3 e => a5 c o c1 c3 e)) (F.args_zip_next_1 _))))
theorem pn_end {z TI TO : Addr} {ts : List Tr} {m : Nat} {Q : Option Value → Shared → Prop} (hh : A.handled = none) (hm : (ts = [] ∧ m = 0) ∨ (ts ≠ [] ∧ 0 < m)) (hi : ∀ t ∈ ts, t.2.2.size ≤ m) (st : ZSt s.heap z TI TO ts m)
    (hQ : ∀ h', (∀ c o, c ≠ z → c ∉ ts.map (·.1) → s.heap.get? c = some o → h'.get? c = some o) → Q none { s with heap := h' }) : wpAny (model prog w) A (pyNext (.ref z)) Q E s := by
  have fin : ∀ {h' : Heap} {e : Addr}, (∃ o, h'.get? e = some o ∧ o.cls = .type "StopIteration") → Q none { s with heap := h' } → wpAny (model prog w) A (do if ← isInstance (.ref e) (.type "StopIteration") then pure none else throw (.ref e)) Q E { s with heap := h' } := fun he q => by
    obtain ⟨o, ho, hc⟩ := he
    refine wpAny_bind (wpAny_isInstance (T := "StopIteration") (b := true) ⟨o, ho, hc⟩ isSubtype_stop ?_)
    exact wpAny_pure q
  rcases st.st with ⟨e, _, hz, _, _⟩ | ⟨hne, T, f, xs, hz, hT⟩
  · rcases hm with ⟨rfl, _⟩ | ⟨_, h0⟩
    · have hTy : s.TypeIs (.ref z) "zip" := ⟨_, hz, rfl⟩
      unfold pyNext
      refine wpAny_bind (wpAny_attempt (wpAny_callSpecial?_slot (name := Str.ofString "__next__") hTy F.slot_zip_next
        (wpAny_call_entry F.slot_zip_next hTy F.entry_zip_next (next_none hh hz st.ti fun h' e hk he => ?_) (F.args_zip_next_1 _))))
      exact fin he (hQ h' fun c o _ _ x => hk c o x)
    · omega
  · have hTy : s.TypeIs (.ref z) "zip" := ⟨_, hz, rfl⟩
    unfold pyNext
    refine wpAny_bind (wpAny_attempt (wpAny_callSpecial?_slot (name := Str.ofString "__next__") hTy F.slot_zip_next
      (wpAny_call_entry F.slot_zip_next hTy F.entry_zip_next (next_end hh hne hz st.ti hT st.at_ hi fun h' e hk he => ?_) (F.args_zip_next_1 _))))
    exact fin he (hQ h' hk)
end
end ZN
set_option Elab.async false
set_option linter.all false
set_option maxRecDepth 100000
set_option maxHeartbeats 2000000
namespace ZN
open PySem
open PySem.Sem (wp)
section
variable {prog : Program} {w : World} {A : Around} {E : Value → Shared → Prop} {s : Shared}
theorem hint_zip {r : Addr} {Q : Bool → Shared → Prop} (hT : s.TypeIs (.ref r) "zip") (h : Q true s) : wpAny (model prog w) A (Builtin.List.listLengthHint (.ref r)) Q E s := by
  unfold Builtin.List.listLengthHint
  refine wpAny_bind (wpAny_specialOf hT zip_no_len ?_)
  show wpAny _ _ (specialOf (Value.ref r) (Str.ofString "__length_hint__") >>= _) _ _ _
  refine wpAny_bind (wpAny_specialOf hT zip_no_hint ?_)
  exact wpAny_pure h
end
section
variable {prog : Program} {w : World} {A : Around} {s : Shared} {R : Result → Shared → Prop}
theorem zn_loop {S z TI TO : Addr} {ts : List Tr} {m : Nat} (hh : A.handled = none) (hSz : S ≠ z) (hST : TO ≠ S) (hST2 : TI ≠ S) (hm : (ts = [] ∧ m = 0) ∨ (ts ≠ [] ∧ 0 < m)) (hi : ∀ t ∈ ts, t.2.2.size = m) (hn : m ≤ sizeLine) (hsz : ts.length ≤ sizeLine) (nd : (ts.map (·.1)).Nodup) (lo : Addr) (res : Value) {h₁ : Heap}
    (hlo : ∀ c, c = z ∨ c = TO ∨ c ∈ ts.map (·.1) ∨ c = S → c ≤ lo)
    (hR : ∀ h' acc c as, (∀ b o, b ≠ S → b ≠ z → b ≠ TO → b ∉ ts.map (·.1) → h₁.get? b = some o → h'.get? b = some o) → h'.get? S = some { cls := .type "list", dict := none, data := .seq acc c, slots := #[] } → as.length = m → ZG ts lo h' as →
      acc.toList = as.map Value.ref → R (.ok (.ret res)) { s with heap := h' }) :
    ∀ (k i : Nat) (h : Heap) (c : Nat) (acc : Array Value) (as : List Addr), m - i = k → i ≤ m → ZSt h z TI TO ts i → (∀ b o, b ≠ S → b ≠ z → b ≠ TO → b ∉ ts.map (·.1) → h₁.get? b = some o → h.get? b = some o) →
      h.get? S = some { cls := .type "list", dict := none, data := .seq acc c, slots := #[] } → acc.toList = as.map Value.ref → as.length = i → ZG ts lo h as → lo < h.objs.size →
      codeAny (model prog w) A (.builtin "list.extend.loop" ⟨[.ref S, .ref z, res], []⟩) R { s with heap := h } := by
  have low : ∀ b : Nat, lo < b → b ≠ z ∧ b ≠ TO ∧ b ∉ ts.map (·.1) ∧ b ≠ S := fun b hb => by
    refine ⟨fun e => ?_, fun e => ?_, fun e => ?_, fun e => ?_⟩
    · exact absurd (hlo b (.inl e)) (Nat.not_le.mpr hb)
    · exact absurd (hlo b (.inr (.inl e))) (Nat.not_le.mpr hb)
    · exact absurd (hlo b (.inr (.inr (.inl e)))) (Nat.not_le.mpr hb)
    · exact absurd (hlo b (.inr (.inr (.inr e)))) (Nat.not_le.mpr hb)
  intro k
  induction k with
  | zero =>
    intro i h c acc as hk hi2 hst hkeep hS hacc hal hG hIs
    have hin : i = m := by omega
    subst hin
    refine codeAny_builtin PySem.F.entry_extend_loop ?_
    rw [Around.under_plainId PySem.F.plain_extend_loop _]
    show wpAny _ A.in1 (pyNext (.ref z) >>= _) _ _ _
    have nS := hst.at_.ne_list hS
    refine wpAny_bind (pn_end (s := { s with heap := h }) (A := A.in1) hh hm (fun t ht => Nat.le_of_eq (hi t ht)) hst fun h' he => ?_)
    refine wpAny_pure (hR h' acc c as (fun b o h1 h2 h3 h4 e => he b o h2 h4 (hkeep b o h1 h2 h3 h4 e)) (he S _ hSz (fun q => ?_) hS) hal ⟨hG.rise, hG.above, fun j a hj => ?_⟩ hacc)
    · obtain ⟨t, ht, e⟩ := List.mem_map.mp q
      exact (nS t ht).1 e
    · obtain ⟨l1, l2, l3, l4⟩ := low a (hG.above a (List.mem_of_getElem? hj))
      exact he a _ l1 l3 (hG.tup j a hj)
  | succ k ih =>
    intro i h c acc as hk hi2 hst hkeep hS hacc hal hG hIs
    have hlt : i < m := by omega
    have hne : ts ≠ [] := by
      rcases hm with ⟨_, e⟩ | ⟨e, _⟩
      · omega
      · exact e
    have hsz2 : acc.size = i := by rw [← Array.length_toList, hacc, List.length_map, hal]
    refine codeAny_builtin PySem.F.entry_extend_loop ?_
    rw [Around.under_plainId PySem.F.plain_extend_loop _]
    show wpAny _ A.in1 (pyNext (.ref z) >>= _) _ _ _
    have nS := hst.at_.ne_list hS
    refine wpAny_bind (pn_item (s := { s with heap := h }) hne hsz nd (fun t ht => by rw [hi t ht]; exact hlt) hst fun h' hst' ht hz hkp => ?_)
    dsimp only at ht hz hkp ⊢
    have hSit : S ∉ ts.map (·.1) := fun q => by
      obtain ⟨t, ht, e⟩ := List.mem_map.mp q
      exact (nS t ht).1 e
    have hS' := hkp S _ hSz (Ne.symm hST) hSit hS
    have up : ∀ b o, b ≠ S → h'.get? b = some o → (h'.update S (Obj.mapSeq (·.push (Value.ref h.objs.size)))).get? b = some o := fun b o hb e => (Heap.get?_update_other _ _ (Ne.symm hb)).trans e
    have nS' := hst'.at_.ne_list hS'
    obtain ⟨l1, l2, l3, l4⟩ := low h.objs.size hIs
    have hst2 : ZSt (h'.update S (Obj.mapSeq (·.push (Value.ref h.objs.size)))) z TI TO ts (i + 1) := by
      refine ⟨up _ _ hST2 hst'.ti, AtI.ext hst'.at_ (fun t ht o e => up _ o (nS' t ht).1 e) (fun t ht o e => up _ o (nS' t ht).2 e), ?_⟩
      rcases hst'.st with ⟨e, _⟩ | ⟨e, T, f, xs, q1, q2⟩
      · omega
      · exact .inr ⟨e, T, f, xs, up _ _ (Ne.symm hSz) q1, up _ _ (arr_ne_list hS' q2) q2⟩
    show wpAny _ A.in1 (updateSeq S (·.push (Value.ref h.objs.size)) >>= _) _ _ _
    refine wpAny_bind ?_
    refine wpAny_updateSeq hS' rfl (wpAny_pure ⟨plainId_quiet PySem.F.plain_extend_loop _, ih (i + 1) _ _ (acc.push (Value.ref h.objs.size)) (as ++ [h.objs.size]) (by omega) hlt hst2
      (fun b o h1 h2 h3 h4 e => up b o h1 (hkp b o h2 h3 h4 (hkeep b o h1 h2 h3 h4 e))) (Heap.get?_update_self _ hS' rfl) (by rw [Array.toList_push, hacc, List.map_append]; rfl) (by rw [List.length_append, hal]; rfl) ⟨?_, ?_, ?_⟩ ?_⟩) (by rw [hsz2]; omega) (by show (acc.push (Value.ref h.objs.size)).size ≤ sizeLine + 1; rw [Array.size_push, hsz2]; omega)
    · refine List.pairwise_append.mpr ⟨hG.rise, List.pairwise_singleton _ _, fun a ha b hb => ?_⟩
      rw [List.mem_singleton.mp hb]
      exact hG.there ha
    · intro a ha
      rcases List.mem_append.mp ha with ha | ha
      · exact hG.above a ha
      · rw [List.mem_singleton.mp ha]; exact hIs
    · intro j b hj
      rcases Nat.lt_trichotomy j as.length with h1 | h1 | h1
      · rw [List.getElem?_append_left h1] at hj
        obtain ⟨r1, r2, r3, r4⟩ := low b (hG.above b (List.mem_of_getElem? hj))
        exact up b _ r4 (hkp b _ r1 r2 r3 (hG.tup j b hj))
      · subst h1
        have hb : h.objs.size = b := by simpa using hj
        subst hb
        rw [hal]
        exact up _ _ l4 ht
      · have hnone : (as ++ [h.objs.size])[j]? = none := List.getElem?_eq_none (by rw [List.length_append, List.length_singleton]; omega)
        rw [hnone] at hj; cases hj
    · have e : (h'.update S (Obj.mapSeq (·.push (Value.ref h.objs.size)))).get? h.objs.size = _ := up _ _ l4 ht
      exact Nat.lt_trans hIs (Heap.lt_size e)
end
theorem ZSt.step {h0 h h' : Heap} {z TI TO S : Addr} {ts : List Tr} (hz : IsZip h0 z TI TO .none) (k0 : ∀ b o, h0.get? b = some o → h.get? b = some o) (k : ∀ b o, b ≠ S → h.get? b = some o → h'.get? b = some o) (nz : z ≠ S) (nTI : TI ≠ S) (nTO : TO ≠ S) (nit : ∀ t ∈ ts, t.1 ≠ S ∧ t.2.1 ≠ S) (x : ZSt h z TI TO ts 0) : ZSt h' z TI TO ts 0 := by
  refine ⟨k _ _ nTI x.ti, AtI.ext x.at_ (fun t ht o e => k _ o (nit t ht).1 e) (fun t ht o e => k _ o (nit t ht).2 e), ?_⟩
  rcases x.st with ⟨e, t1, q1, ⟨a, q2, q3⟩, q4⟩ | ⟨e, T, f, xs, q1, q2⟩
  · exact .inl ⟨e, t1, k _ _ nz q1, ⟨a, k _ _ nTO q2, q3⟩, q4⟩
  · have b := k0 _ _ hz
    rw [q1] at b
    have := congrArg (fun o => o.map Obj.data) b
    simp [rawInt] at this
section
variable {prog : Program} {w : World} {A : Around} {E : Value → Shared → Prop} {s : Shared}
theorem call_list_zip {z TI TO S : Addr} {ts : List Tr} {m : Nat} {Q : Value → Shared → Prop} (hSS : s.heap.objs.size = S) (hh : A.handled = none) (hm : (ts = [] ∧ m = 0) ∨ (ts ≠ [] ∧ 0 < m)) (hi : ∀ t ∈ ts, t.2.2.size = m) (hn : m ≤ sizeLine) (hsz : ts.length ≤ sizeLine) (nd : (ts.map (·.1)).Nodup) (hst : ZSt s.heap z TI TO ts 0)
    (hz : IsZip s.heap z TI TO .none) (hTO : ∃ arr, IsArr s.heap TO arr)
    (hQ : ∀ h' acc c as, (∀ b o, b ≠ z → b ≠ TO → b ∉ ts.map (·.1) → s.heap.get? b = some o → h'.get? b = some o) → h'.get? S = some { cls := .type "list", dict := none, data := .seq acc c, slots := #[] } → as.length = m → ZG ts S h' as →
      acc.toList = as.map Value.ref → Q (.ref S) { s with heap := h' }) :
    wpAny (model prog w) A (call (.type "list") [.ref z]) Q E s := by
  obtain ⟨arr, hTO⟩ := hTO
  refine callType_codes (Q₁ := fun obj s₁ => obj = .ref S ∧ s₁ = { s with heap := s.heap.push { cls := .type "list", data := .seq #[] } }) PySem.F.called_list (PySem.F.typeCall_list_1 _) PySem.F.entry_list_init
    (code_list_new _ ⟨by rw [hSS], rfl⟩) fun obj s₁ h₁ => ?_
  obtain ⟨rfl, rfl⟩ := h₁
  have lt : ∀ {b o}, s.heap.get? b = some o → b < S := fun e => by rw [← hSS]; exact Heap.lt_size e
  have zl : z < S := lt hz
  have TOl : TO < S := lt hTO
  have TIl : TI < S := lt hst.ti
  have nit : ∀ t ∈ ts, t.1 < S ∧ t.2.1 < S := fun t ht => by
    obtain ⟨⟨o, ho, _⟩, ⟨o2, ho2, _⟩⟩ := hst.at_ t ht
    exact ⟨lt ho, lt ho2⟩
  have nit2 : ∀ t ∈ ts, t.1 ≠ S ∧ t.2.1 ≠ S := fun t ht => ⟨Nat.ne_of_lt (nit t ht).1, Nat.ne_of_lt (nit t ht).2⟩
  have nz : z ≠ S := Nat.ne_of_lt zl
  have nTO : TO ≠ S := Nat.ne_of_lt TOl
  have nTI : TI ≠ S := Nat.ne_of_lt TIl
  have hS : (s.heap.push { cls := .type "list", data := .seq #[] }).get? S = some { cls := .type "list", data := .seq #[] } := by rw [← hSS]; exact Heap.get?_push_size _ rfl
  have kp0 : ∀ b o, s.heap.get? b = some o → (s.heap.push { cls := .type "list", data := .seq #[] }).get? b = some o := fun b o e => Heap.get?_push_of_some _ e
  have st0 : ZSt (s.heap.push { cls := .type "list", data := .seq #[] }) z TI TO ts 0 := ZSt.step (S := S) hz (fun _ _ e => e) (fun b o _ e => kp0 b o e) nz nTI nTO nit2 hst
  refine ⟨⟨_, hS, rfl⟩, PySem.F.args_list_init_2 _ _, ?_⟩
  show wpAny _ _ (do let old ← Builtin.List.listItems (.ref S); Builtin.List.listUpdate (.ref S) (fun _ => #[]); letGo old.toList.reverse; Builtin.List.listExtendWith (.ref S) (.ref z) .none) _ _ _
  refine wpAny_bind ?_
  unfold Builtin.List.listItems
  refine wpAny_bind (wpAny_seqItems hS rfl (wpAny_pure ?_))
  show wpAny _ _ (updateSeq S (fun _ => #[]) >>= fun _ => letGo (#[] : Array Value).toList.reverse >>= fun _ => Builtin.List.listExtendWith (.ref S) (.ref z) .none) _ _ _
  refine wpAny_bind (wpAny_updateSeq hS rfl ?_)
  have hS₂ := Heap.get?_update_self (Obj.mapSeq (fun _ => (#[] : Array Value))) hS rfl
  have oth : ∀ b o, b ≠ S → (s.heap.push { cls := .type "list", data := .seq #[] }).get? b = some o → ((s.heap.push { cls := .type "list", data := .seq #[] }).update S (Obj.mapSeq (fun _ => (#[] : Array Value)))).get? b = some o :=
    fun b o hb e => (Heap.get?_update_other _ _ (Ne.symm hb)).trans e
  refine wpAny_bind (wpAny_letGo ?_)
  have st1 := ZSt.step hz kp0 oth nz nTI nTO nit2 st0
  have kp1 : ∀ b o, s.heap.get? b = some o → ((s.heap.push { cls := .type "list", data := .seq #[] }).update S (Obj.mapSeq (fun _ => (#[] : Array Value)))).get? b = some o := fun b o e => oth b o (Nat.ne_of_lt (lt e)) (kp0 b o e)
  have hz2 := kp1 _ _ hz
  dsimp only
  generalize ((s.heap.push { cls := .type "list", data := .seq #[] }).update S (Obj.mapSeq (fun _ => (#[] : Array Value)))) = g2 at hS₂ oth st1 kp1 hz2 ⊢
  unfold Builtin.List.listExtendWith
  refine wpAny_bind (wpAny_typeOf (T := "zip") ⟨_, hz2, rfl⟩ ?_)
  have h1 : Builtin.List.listSameRef (.ref S) (.ref z) = false := by simp [Builtin.List.listSameRef, Ne.symm nz]
  have h2 : (Value.type "zip" == Value.type "list") = false := by decide
  have h3 : (Value.type "zip" == Value.type "tuple") = false := by decide
  simp only [h1, h2, h3, Bool.or_false, Bool.false_eq_true, if_false]
  refine wpAny_bind (wpAny_pyIter_zip hz2 ?_)
  refine wpAny_bind (wpAny_holding (hint_zip ⟨_, hz2, rfl⟩ ?_))
  simp only [Bool.true_or, if_true]
  refine wpAny_bind (wpAny_rule ?_)
  refine wpAny_bind ?_
  show wpAny _ _ (updateSeq S (·.push .none) >>= fun _ => updateSeq S (·.pop)) _ _ _
  refine wpAny_bind (wpAny_updateSeq hS₂ rfl ?_)
  have hS₃ := Heap.get?_update_self (Obj.mapSeq (·.push Value.none)) hS₂ rfl
  refine wpAny_updateSeq (hz := by seq_fits) hS₃ rfl ?_
  have hS₄ := Heap.get?_update_self (Obj.mapSeq (·.pop)) hS₃ rfl
  have oth2 : ∀ b o, b ≠ S → g2.get? b = some o → ((g2.update S (Obj.mapSeq (·.push Value.none))).update S (Obj.mapSeq (·.pop))).get? b = some o :=
    fun b o hb e => (Heap.get?_update_other _ _ (Ne.symm hb)).trans ((Heap.get?_update_other _ _ (Ne.symm hb)).trans e)
  have st2 := ZSt.step hz kp1 oth2 nz nTI nTO nit2 st1
  refine wpAny_pure ⟨plainId_quiet PySem.F.plain_extend_loop _, ?_⟩
  refine zn_loop (A := A.in1) (s := s) (h₁ := s.heap) (R := wants (fun r s₂ => r = .none ∧ Q (.ref S) s₂) E) hh (Ne.symm nz) nTO nTI hm hi hn hsz nd S .none (fun c hc => ?_) (fun h' acc c as hk hS' hl hG hacc => ?_) m 0 _ _ #[] [] (Nat.sub_zero _) (Nat.zero_le _) st2 (fun b o h1 h2 h3 h4 e => oth2 b o h1 (kp1 b o e)) hS₄ rfl rfl
      ⟨List.Pairwise.nil, (fun _ ha => nomatch ha), (fun j a hj => by simp at hj)⟩ ?_
  · rcases hc with e | e | e | e
    · rw [e]; exact Nat.le_of_lt zl
    · rw [e]; exact Nat.le_of_lt TOl
    · obtain ⟨t, ht, q⟩ := List.mem_map.mp e
      rw [← q]; exact Nat.le_of_lt (nit t ht).1
    · rw [e]; exact Nat.le_refl _
  · exact ⟨rfl, hQ h' acc c as (fun b o h2 h3 h4 e => hk b o (Nat.ne_of_lt (lt e)) h2 h3 h4 e) hS' hl hG hacc⟩
  · exact Heap.lt_size hS₄
end
end ZN
namespace ZN
open PySem PySem.Spec PyProof.Rows L2
/-! ### the expression list(zip( *e)) -/
theorem off_nat (b n k c : Nat) (h : b < n) (e : b = n + k + c) : False := by omega
theorem rfs_range : ∀ n k, rfs n k = (List.range' n k).map Value.ref
  | _, 0 => rfl
  | n, k + 1 => by rw [rfs, rfs_range (n + 1) k, List.range'_succ, List.map_cons]
section
variable {X : Cx} {pins : List (Addr × Obj)} {σ : L2.St} {H : Hp} {s : Shared}
theorem mk_ts (I : Inv X pins σ H s) (m : Nat) : ∀ {rs : List Addr} {rows : List (List V)}, Paired (fun (r : Addr) (row : List V) => SqT X.K H r row ∧ row.length = m) rs rows → ∀ n : Nat, ∃ ts : List Tr,
    (ts.map (·.1)) = List.range' n rs.length ∧ (∀ j t, ts[j]? = some t → t.1 = n + j ∧ rs[j]? = some t.2.1) ∧ (∀ t ∈ ts, s.heap.IsTuple t.2.1 t.2.2 ∧ t.2.2.size = m) ∧ ∀ i, i < m → Vals (rows.map fun r => r.getD i .non) (row ts i)
  | [], [], .nil, n => ⟨[], rfl, (fun j t h => by simp at h), (fun _ h => nomatch h), (fun _ _ => Paired.nil)⟩
  | r :: rs, rw_ :: rows, .cons ⟨h1, h2⟩ t, n => by
    obtain ⟨ts, e1, e2, e3, e4⟩ := mk_ts I m t (n + 1)
    obtain ⟨its, rv, p, hz⟩ := I.tuple h1
    have hl := rv.length
    refine ⟨(n, r, its.toArray) :: ts, ?_, fun j t h => ?_, fun t h => ?_, fun i hi => ?_⟩
    · rw [List.map_cons, e1, List.length_cons, List.range'_succ]
    · cases j with
      | zero =>
        cases (Option.some.inj h : (n, r, its.toArray) = t)
        exact ⟨rfl, rfl⟩
      | succ j =>
        obtain ⟨a, b⟩ := e2 j t (by simpa using h)
        exact ⟨by rw [a]; omega, by simpa using b⟩
    · rcases List.mem_cons.mp h with rfl | h
      · exact ⟨p, by rw [List.size_toArray]; omega⟩
      · exact e3 t h
    · show Vals (rw_.getD i .non :: rows.map fun r => r.getD i .non) ((its.toArray.getD i .none) :: row ts i)
      have hlt : i < rw_.length := by omega
      have g1 : rw_.getD i .non = rw_[i] := by rw [List.getD_eq_getElem?_getD, List.getElem?_eq_getElem hlt] <;> rfl
      obtain ⟨u, hu, ru⟩ := rv.get (List.getElem?_eq_getElem hlt)
      have hlt2 : i < its.length := by omega
      have g2 : its.toArray.getD i .none = u := by
        have : its[i] = u := by
          rw [List.getElem?_eq_getElem hlt2] at hu
          exact Option.some.inj hu
        simp [Array.getD, hlt2, this]
      rw [g1, g2]
      exact .cons ru (e4 i hi)
/-- tuples tracked at their addresses -/
def putR : Hp → List Addr → List (List V) → Hp
  | H, a :: as, p :: ps => putR (upd H a (.tup p)) as ps
  | H, _, _ => H
theorem putR_off {b : Addr} : ∀ (as : List Addr) (ps : List (List V)) (H : Hp), b ∉ as → putR H as ps b = H b
  | [], _, _, _ => rfl
  | _ :: _, [], _, _ => rfl
  | a :: as, p :: ps, H, h => by
    show putR (upd H a (.tup p)) as ps b = H b
    rw [putR_off as ps _ (fun z => h (List.mem_cons_of_mem _ z)), upd_ne (fun z => h (by rw [z]; exact List.mem_cons_self))]
theorem putR_at : ∀ (as : List Addr) (ps : List (List V)) (H : Hp), as.length = ps.length → as.Nodup → ∀ (j : Nat) (a : Addr) (p : List V), as[j]? = some a → ps[j]? = some p → putR H as ps a = some (.tup p)
  | [], _, _, _, _, _, _, _, e, _ => by simp at e
  | _ :: _, [], _, h, _, _, _, _, _, _ => by cases h
  | a :: as, p :: ps, H, h, hn, j, a', p', e1, e2 => by
    have hn' := List.nodup_cons.mp hn
    cases j with
    | zero =>
      cases (Option.some.inj e1 : a = a')
      cases (Option.some.inj e2 : p = p')
      show putR (upd H a (.tup p)) as ps a = _
      rw [putR_off as ps _ hn'.1, upd_same]
    | succ j => exact putR_at as ps _ (Nat.succ.inj h) hn'.2 j a' p' (by simpa using e1) (by simpa using e2)
theorem vals_refs : ∀ as : List Addr, Vals (as.map V.ref) (as.map Value.ref)
  | [] => .nil
  | _ :: as => .cons rfl (vals_refs as)
theorem vals_refs_inv : ∀ {as : List Addr} {us : List Value}, Vals (as.map V.ref) us → us = as.map Value.ref
  | [], _, .nil => rfl
  | a :: as, _, .cons r t => by
    cases r
    rw [vals_refs_inv t]
    rfl
/-- the columns of rows of m things -/
def cols (rows : List (List V)) (m : Nat) : List (List V) := (List.range m).map fun i => rows.map fun r => r.getD i .non
theorem cols_laid {h' : Heap} {ts : List Tr} {rows : List (List V)} {m : Nat} {acc : Array Value} {c : Nat} {as : List Addr} {S : Addr} (I : Inv X pins σ H s) (hS0 : s.heap.objs.size ≤ S) (hz : m ≤ sizeLine) (hz2 : rows.length ≤ sizeLine) (kv : ∀ i, i < m → Vals (rows.map fun r => r.getD i .non) (row ts i))
    (hk : ∀ b o, s.heap.get? b = some o → h'.get? b = some o) (hS : h'.get? S = some { cls := .type "list", dict := none, data := .seq acc c, slots := #[] }) (hl : as.length = m) (hG : ZG ts S h' as) (hacc : acc.toList = as.map Value.ref) :
    ∃ H' : Hp, (∀ b o, H b = some o → H' b = some o) ∧ H S = none ∧ (∀ t ∈ as, H t = none) ∧ S ∉ as ∧ as.Nodup ∧ H' S = some (.lst (as.map V.ref)) ∧ (∀ (j : Nat) (a : Addr), as[j]? = some a → H' a = some (.tup (rows.map fun r => r.getD j .non))) ∧ Inv X pins σ H' { s with heap := h' } := by
  have hSn : S ∉ as := fun z => Nat.lt_irrefl _ (hG.above _ z)
  have nd : as.Nodup := List.Pairwise.imp (fun {a b} (h : a < b) => Nat.ne_of_lt h) hG.rise
  have new : ∀ t ∈ as, H t = none := fun t ht => I.hok.fresh (Nat.le_trans hS0 (Nat.le_of_lt (hG.above t ht)))
  have newS : H S = none := I.hok.fresh hS0
  have atP : ∀ (j : Nat) (a : Addr), as[j]? = some a → putR (upd H S (.lst (as.map V.ref))) as (cols rows m) a = some (.tup (rows.map fun r => r.getD j .non)) := fun j a ha => by
    have hj : j < m := by
      rw [← hl]
      exact (List.getElem?_eq_some_iff.mp ha).1
    refine putR_at as (cols rows m) _ (by rw [hl]; simp [cols]) nd j a _ ha ?_
    rw [cols, List.getElem?_map, List.getElem?_range hj]
    rfl
  have off : ∀ b, b ∉ as → b ≠ S → putR (upd H S (.lst (as.map V.ref))) as (cols rows m) b = H b := fun b h1 h2 => by rw [putR_off as _ _ h1, upd_ne h2]
  have low : ∀ b o, s.heap.get? b = some o → b ∉ as ∧ b ≠ S := fun b o e => ⟨fun z => absurd (Heap.lt_size e) (Nat.not_lt.mpr (Nat.le_trans hS0 (Nat.le_of_lt (hG.above b z)))), Nat.ne_of_lt (Nat.lt_of_lt_of_le (Heap.lt_size e) hS0)⟩
  have kp : ∀ b u, H b = some u → (putR (upd H S (.lst (as.map V.ref))) as (cols rows m)) b = some u := fun b u e => by
    rw [off b (fun z => by rw [new b z] at e; cases e) (fun z => by rw [z, newS] at e; cases e)]
    exact e
  have eS : putR (upd H S (.lst (as.map V.ref))) as (cols rows m) S = some (.lst (as.map V.ref)) := by rw [putR_off as _ _ hSn, upd_same]
  refine ⟨putR (upd H S (.lst (as.map V.ref))) as (cols rows m), kp, newS, new, hSn, nd, eS, atP, ?_⟩
  refine I.call' (ch := []) rfl ⟨fun b o q _ _ _ => hk b o q, fun b o q _ _ _ => ⟨o.slots, hk b o q⟩, fun b o q n _ => ?_, fun b o q _ => ⟨o, hk b o q⟩, fun b xs q => kp b _ q, fun b o u q => kp b _ q, fun b ps q => ⟨#[], by rw [kp b _ q]; simp⟩⟩ (fun b u q => ?_) I.bare fun b z => by simp at z
  · obtain ⟨z1, z2⟩ := low b o q
    rw [off b z1 z2]
    exact n
  · by_cases hb : b ∈ as
    · obtain ⟨j, hj⟩ := List.mem_iff_getElem?.mp hb
      have e3 := atP j b hj
      have hjm : j < m := by
        rw [← hl]
        exact (List.getElem?_eq_some_iff.mp hj).1
      rw [e3] at q
      cases q
      exact ⟨by rw [List.length_map]; exact hz2, row ts j, kv j hjm, ⟨_, hG.tup j b hj, rfl, _, rfl⟩⟩
    · by_cases hb2 : b = S
      · rw [hb2] at q ⊢
        rw [eS] at q
        cases q
        refine ⟨by rw [List.length_map]; omega, acc.toList, c, by rw [hacc]; exact vals_refs as, ?_⟩
        rw [Array.toArray_toList]
        exact hS
      · rw [off b hb hb2] at q
        exact (I.hok b u q).stay (fun d v _ y => hk d v y) (fun d y => kp d _ y) fun d xs y => kp d _ y
end
def tListZip (K : PySem.W.Frag) (te : TE) : TE := fun σ H Q => te σ H fun x H1 => ∃ (p : Addr) (rs : List Addr) (rows : List (List V)) (m : Nat), x = V.ref p ∧ (SqT K H1 p (rs.map V.ref) ∨ SqL K H1 p (rs.map V.ref)) ∧ Paired (fun (r : Addr) (row : List V) => SqT K H1 r row ∧ row.length = m) rs rows ∧ ((rs = [] ∧ m = 0) ∨ (rs ≠ [] ∧ 0 < m)) ∧ m ≤ sizeLine ∧ rs.length ≤ sizeLine ∧
  ∀ (H' : Hp) (l : Addr) (as : List Addr), (∀ b o, H1 b = some o → H' b = some o) → H1 l = none → (∀ t ∈ as, H1 t = none) → l ∉ as → as.Nodup → H' l = some (.lst (as.map V.ref)) → as.length = m → (∀ (j : Nat) (a : Addr), as[j]? = some a → H' a = some (.tup (rows.map fun r => r.getD j .non))) → Q (.ref l) H'
section
variable {X : Cx} {e : Expr} {te : TE} {p p2 sp q pos : Pos}
theorem pe_listZip (hc : X.calm = true) (he : PE X e te) (hg : Gl X "list") (hm : X.mg "list" = none) (hv : bootBuiltins "list" = some (.type "list")) (hg2 : Gl X "zip") (hm2 : X.mg "zip" = none) (hv2 : bootBuiltins "zip" = some (.type "zip"))
    (hs : starEach [.Call (.Name "zip" p2) [.Starred e sp] [] q] X.env = (false, eval (.Call (.Name "zip" p2) [.Starred e sp] [] q) X.env) :: starEach [] X.env := by rfl) (hst : starEach [.Starred e sp] X.env = [(true, eval e X.env)] := by rfl) :
    PE X (.Call (.Name "list" p) [.Call (.Name "zip" p2) [.Starred e sp] [] q] [] pos) (tListZip X.K te) := by
  refine ⟨fun pins s σ H Q I h => ?_⟩
  refine wpAny_Call_Name_kw (ld_blt I hg hm hv ?_)
  refine PyProof.Rows.callWith_type1 ?_ hs rfl
  rw [hs]
  show wpAny _ _ (spliced ((false, eval (.Call (.Name "zip" p2) [.Starred e sp] [] q) X.env) :: backTo pos (starEach [] X.env))) _ _ s
  refine Calls.spliced_cons ?_
  refine wpAny_Call_Name_kw (ld_blt I hg2 hm2 hv2 ?_)
  rw [hst]
  refine PySem.W.ks_call (P := fun _ => True) rfl (fun _ _ => ⟨.machine, .inr (.inl rfl), PySem.W.Looks.of_pure rfl⟩) (PySem.W.ks_lone (thn (he.run pins s σ H _ I h) fun v s1 ⟨y, H1, I1, ry, a, rs, rows, m, ey, hx, hp, hmm, hz, hz2, qq⟩ => ?_))
  subst ey
  obtain rfl : v = Value.ref a := ry
  refine StX.star_any I1 hx fun us s2 I2 rv => ⟨trivial, ?_⟩
  rw [vals_refs_inv rv]
  obtain ⟨ts, t1, t2, t3, t4⟩ := mk_ts I2 m hp s2.heap.objs.size
  have tl : ts.length = rs.length := by rw [← List.length_map (f := (·.1)), t1, List.length_range']
  refine call_zip hz2 (fun l hl => ?_) fun h' hzz hTI hTO hits hsize hkeep => ?_
  · obtain ⟨j, hj⟩ := List.mem_iff_getElem?.mp hl
    have hjl : j < ts.length := by
      rw [tl]
      exact (List.getElem?_eq_some_iff.mp hj).1
    obtain ⟨_, b⟩ := t2 j _ (List.getElem?_eq_getElem hjl)
    rw [hj] at b
    cases b
    exact ⟨_, (t3 _ (List.getElem_mem hjl)).1⟩
  · refine Calls.spliced_nil ?_
    have refs : (ts.map fun t => Value.ref t.1) = rfs s2.heap.objs.size rs.length := by
      rw [rfs_range, ← t1, List.map_map]
      rfl
    have old : ∀ t ∈ ts, t.2.1 < s2.heap.objs.size := fun t ht => by
      obtain ⟨o, ho, _⟩ := (t3 t ht).1
      exact Heap.lt_size ho
    have hat : AtI h' ts 0 := fun t ht => by
      obtain ⟨j, hj⟩ := List.mem_iff_getElem?.mp ht
      obtain ⟨a1, a2⟩ := t2 j t hj
      have b := hits j _ a2
      rw [← a1] at b
      refine ⟨⟨_, b, rfl, rfl⟩, ?_⟩
      obtain ⟨o, ho, r⟩ := (t3 t ht).1
      exact ⟨o, hkeep _ _ ho, r⟩
    have st : ZSt h' (s2.heap.objs.size + rs.length + 2) (s2.heap.objs.size + rs.length) (s2.heap.objs.size + rs.length + 1) ts 0 := by
      refine ⟨by rw [IsArr, refs]; exact hTI, hat, .inl ⟨rfl, (fun e => Nat.ne_of_lt (Nat.lt_succ_self _) e), hzz, ⟨_, hTO, by rw [List.size_toArray, List.length_replicate, tl]⟩, fun t ht e => ?_⟩⟩
      have := old t ht
      rw [e] at this
      exact absurd this (by show ¬ ((s2.heap.objs.size + rs.length + 1 : Nat) < s2.heap.objs.size); omega)
    have hmm2 : (ts = [] ∧ m = 0) ∨ (ts ≠ [] ∧ 0 < m) := by
      rcases hmm with ⟨q1, q2⟩ | ⟨q1, q2⟩
      · left
        exact ⟨List.length_eq_zero_iff.mp (by rw [tl, q1]; rfl), q2⟩
      · right
        exact ⟨fun z => q1 (List.length_eq_zero_iff.mp (by rw [← tl, z]; rfl)), q2⟩
    refine call_list_zip (s := { s2 with heap := h' }) (S := s2.heap.objs.size + rs.length + 3) hsize (I2.ok.hd hc) hmm2 (fun t ht => (t3 t ht).2) hz (by rw [tl]; exact hz2) (by rw [t1]; exact List.nodup_range') st hzz ⟨_, hTO⟩ fun h'' acc c as hk hS hl hG hacc => ?_
    have hk2 : ∀ b o, s2.heap.get? b = some o → h''.get? b = some o := fun b o e => by
      have hb := Heap.lt_size e
      have hb' : (b : Nat) < s2.heap.objs.size := hb
      refine hk b o (fun z => ?_) (fun z => ?_) (fun z => ?_) (hkeep b o e)
      · exact off_nat _ _ _ 2 hb z
      · exact off_nat _ _ _ 1 hb z
      · rw [t1] at z
        exact Nat.not_lt.mpr (List.mem_range'_1.mp z).1 hb
    have rl : rows.length = rs.length := (Paired.length hp).symm
    obtain ⟨H', k1, k2, k3, k4, k5, k6, k7, J⟩ := cols_laid I2 (S := s2.heap.objs.size + rs.length + 3) (by show (s2.heap.objs.size : Nat) ≤ _; omega) hz (by rw [rl]; exact hz2) t4 hk2 hS hl hG hacc
    exact ⟨.ref _, H', J, rfl, qq H' _ as k1 k2 k3 k4 k5 k6 hl k7⟩
end
end ZN
set_option Elab.async false
set_option linter.all false
set_option maxRecDepth 100000
set_option maxHeartbeats 2000000
namespace R1
open PySem PySem.Spec PyProof.Rows L2
/-! ### sorted(xs) of pairs (tuple of ints, int) -/
theorem lex_app (c d : Int) : ∀ {ns ms : List Int}, ns.length = ms.length → HT.lexLt (ns ++ [c]) (ms ++ [d]) = if ns = ms then decide (c < d) else HT.lexLt ns ms
  | [], [], _ => by
    show (if c = d then HT.lexLt [] [] else decide (c < d)) = _
    rw [if_pos rfl]
    split
    · rename_i e
      rw [HT.lexLt_nil_nil]
      simp [e]
    · rfl
  | [], _ :: _, h => by cases h
  | _ :: _, [], h => by cases h
  | n :: ns, m :: ms, h => by
    show (if n = m then HT.lexLt (ns ++ [c]) (ms ++ [d]) else decide (n < m)) = _
    rw [lex_app c d (Nat.succ.inj h), HT.lexLt_cons]
    by_cases e : n = m
    · subst e
      by_cases e2 : ns = ms
      · subst e2
        simp
      · simp [e2]
    · simp [e]
/-- a pair of a tuple of ints and an int -/
def PairTI (h : Heap) (v : Value) (k : List Int × Int) : Prop := ∃ a b t, v = .ref a ∧ IsTup h a #[.ref b, .int k.2 t] ∧ TS.TupInts h (.ref b) k.1
theorem PairTI.keeps {h h' : Heap} {v : Value} {k : List Int × Int} (x : PairTI h v k) (kp : ∀ b o, h.get? b = some o → o.cls = .type "tuple" → h'.get? b = some o) : PairTI h' v k := by
  obtain ⟨a, b, t, e, ⟨o, ho, hc, n, hd⟩, y⟩ := x
  exact ⟨a, b, t, e, ⟨o, kp _ _ ho hc, hc, n, hd⟩, y.keeps fun b o e c => kp b o e c⟩
def lexP (p q : List Int × Int) : Bool := HT.lexLt (p.1 ++ [p.2]) (q.1 ++ [q.2])
section
variable {prog : Program} {w : World} {A : Around} {E : Value → Shared → Prop} {s : Shared}
theorem tkey {h : Heap} {b : Addr} {ns : List Int} (x : TS.TupInts h (.ref b) ns) : IsTupleKey (intKind prog w) h ns b := by
  obtain ⟨a, xs, e, ⟨o, ho, hc, n, hd⟩, i⟩ := x
  cases e
  refine ⟨o, xs, n, ho, hc, hd, ?_⟩
  generalize xs.toList = l at i
  clear hd
  induction i with
  | nil => exact .nil
  | cons n t _ ih => exact .cons (by show Value.isInt n (.int n t) = true; simp [Value.isInt]) ih
theorem pti_cmp {vs : List Value} {k : Value → List Int × Int} {m : Nat} (hu : A.units < cLine) (hp : ∀ v ∈ vs, PairTI s.heap v (k v) ∧ (k v).1.length = m) : SrtO.Cmp prog w A s (tuples' false) (fun p => p.1 ∈ vs) (SrtO.lt2 fun v u => lexP (k v) (k u)) := by
  intro p q hm hm'
  obtain ⟨⟨a, b, t, e1, ⟨o, ho, hc, n, hdt⟩, i⟩, l1⟩ := hp _ hm
  obtain ⟨⟨a', b', t', e2, ⟨o', ho', hc', n', hdt'⟩, i'⟩, l2⟩ := hp _ hm'
  show wpAny (model prog w) A (keyLt' (tuples' false) p.1 q.1) (fun r s' => s' = s ∧ r = lexP (k p.1) (k q.1)) (fun _ _ => False) s
  have ex : lexP (k p.1) (k q.1) = if (k p.1).1 = (k q.1).1 then decide ((k p.1).2 < (k q.1).2) else HT.lexLt (k p.1).1 (k q.1).1 := lex_app _ _ (by rw [l1, l2])
  rw [ex]
  generalize k p.1 = kp at *
  generalize k q.1 = kq at *
  rw [e1, e2]
  refine PySem.W.kat_lt ho hdt ho' hdt' ?_
  show PySem.W.KatLex prog w A false false _ [(Value.ref b, Value.ref b'), (Value.int kp.2 t, Value.int kq.2 t')] 0 s
  refine PySem.W.kat_cons (wpAny_eqBool_tuple (knd := intKind prog w) hu (tkey i) (tkey i') (PySem.W.kat_go (fun e => ?_) fun e => ?_))
  · have e : kp.1 = kq.1 := of_decide_eq_true e
    rw [if_pos e]
    refine PySem.W.kat_yes (PySem.W.kat_cons (SeqAt.EqAt.int_int _ _ _ _ prog w _ _ (PySem.W.kat_go (fun e2 => ?_) fun e2 => ?_)))
    · have : kp.2 = kq.2 := by simpa using e2
      refine PySem.W.kat_yes (PySem.W.kat_nil ⟨rfl, ?_⟩)
      simp [this]
    · exact PySem.W.kat_no (TS.oneLt_ints _ ⟨rfl, rfl⟩)
  · have e : ¬ kp.1 = kq.1 := of_decide_eq_false e
    rw [if_neg e]
    obtain ⟨c, xs, ec, hT, ii⟩ := i
    obtain ⟨c', xs', ec', hT', ii'⟩ := i'
    cases ec
    cases ec'
    exact PySem.W.kat_no (PySem.W.kat_one _ _ (HT.lt_tupInts (Q := PySem.W.BoolBack _) hT hT' ii ii' hu ⟨rfl, rfl⟩))
theorem pfirsts {h : Heap} : ∀ vs : List Value, (∀ v ∈ vs, ∃ k, PairTI h v k) → ∃ fs, PySem.W.KatTups h vs fs ∧ fs.length = vs.length ∧ ∀ f, f ∈ fs → ∃ b o, f = Value.ref b ∧ h.get? b = some o ∧ o.cls = .type "tuple"
  | [], _ => ⟨[], PySem.W.KatTups.nil, rfl, fun f hf => by simp at hf⟩
  | v :: vs, x => by
    obtain ⟨fs, k, hl, hi⟩ := pfirsts vs fun u hu => x u (List.mem_cons_of_mem _ hu)
    obtain ⟨kk, a, b, t, rfl, ⟨o, ho, hc, n, hdt⟩, ⟨b', xs, e, ⟨o', ho', hc', _⟩, _⟩⟩ := x v (List.mem_cons_self ..)
    cases e
    refine ⟨.ref b :: fs, PySem.W.KatTups.cons ho hc hdt (by simp) k, by simp [hl], ?_⟩
    intro f hf
    rcases List.mem_cons.mp hf with rfl | hf
    · exact ⟨b, o', rfl, ho', hc'⟩
    · exact hi f hf
theorem pti_sortable {a : Addr} {vs : List Value} {k : Value → List Int × Int} {m : Nat} (hu : A.units < cLine) (h0 : 0 < vs.length) (hp : ∀ v ∈ vs, PairTI s.heap v (k v) ∧ (k v).1.length = m) (ha : ∀ o, s.heap.get? a = some o → o.cls ≠ .type "tuple") : SrtO.SortableO prog w A s a vs fun v u => lexP (k v) (k u) := by
  intro h' keep
  have hp' : ∀ v ∈ vs, PairTI h' v (k v) ∧ (k v).1.length = m := fun v hm => ⟨(hp v hm).1.keeps fun b o e c => keep b o (fun z => by subst z; exact ha o e c) e, (hp v hm).2⟩
  obtain ⟨fs, h1, h2, h3⟩ := pfirsts vs fun v hm => ⟨_, (hp' v hm).1⟩
  refine ⟨tuples' false, fun Q E hq => ?_, pti_cmp hu hp'⟩
  refine PySem.W.kat_kind (T := .type "tuple") h1 (by omega) (fun f hm => ?_) (by rfl) ?_
  · obtain ⟨b, o, rfl, ho, hc⟩ := h3 f hm
    rw [← hc]
    exact (PySem.W.Looks.ld ho).andThen .now
  · have e : (Value.type "tuple" != Value.type "tuple") = false := by first | decide +kernel | rfl | decide
    rw [e]
    exact hq
end
/-- a term as it stands: the pair, its tuple of powers, these, the coefficient -/
structure Trm where
  t : Addr
  p : Addr
  ns : List Int
  c : Int
def Trm.v (r : Trm) : V := .ref r.t
def Trm.d (r : Trm) : List Int × Int := (r.ns, r.c)
def RowOk (H : Hp) (r : Trm) : Prop := H r.t = some (.tup [.ref r.p, .int r.c]) ∧ H r.p = some (.tup (r.ns.map V.int))
def RowsOk (H : Hp) (L : List Trm) : Prop := ∀ r ∈ L, RowOk H r
def KeepT (H H' : Hp) : Prop := ∀ b xs, H b = some (.tup xs) → H' b = some (.tup xs)
theorem RowsOk.keep {H H' : Hp} {L : List Trm} (h : RowsOk H L) (k : KeepT H H') : RowsOk H' L := fun r hr => ⟨k _ _ (h r hr).1, k _ _ (h r hr).2⟩
def keyOf (L : List Trm) (v : Value) : List Int × Int := match L.find? fun r => Value.ref r.t == v with
  | some r => r.d
  | none => ([], 0)
theorem keyOf_mem {H : Hp} {L : List Trm} (ho : RowsOk H L) {r : Trm} (hr : r ∈ L) : keyOf L (.ref r.t) = r.d := by
  unfold keyOf
  cases e : L.find? fun x => Value.ref x.t == Value.ref r.t with
  | none =>
    have := List.find?_eq_none.mp e r hr
    simp at this
  | some x =>
    have h1 := List.find?_some e
    have h2 := List.mem_of_find?_eq_some e
    have et : x.t = r.t := by
      have := eq_of_beq h1
      injection this
    obtain ⟨a1, a2⟩ := ho x h2
    obtain ⟨b1, b2⟩ := ho r hr
    rw [et, b1] at a1
    have e1 : r.p = x.p ∧ r.c = x.c := by
      have := Option.some.inj a1
      injection this with q
      injection q with q1 q2
      injection q1 with q1
      injection q2 with q2 _
      injection q2 with q2
      exact ⟨q1, q2⟩
    rw [← e1.1, b2] at a2
    have e2 : r.ns.map V.int = x.ns.map V.int := by
      have := Option.some.inj a2
      injection this
    have e3 : r.ns = x.ns := List.map_inj_right (fun a b h => by injection h) |>.mp e2
    simp [Trm.d, e3, e1.2]
def rSortedPT (K : PySem.W.Frag) : List V → Hp → VK → Prop := fun vs H Q => ∃ (a : Addr) (L : List Trm) (m : Nat), vs = [V.ref a] ∧ SqL K H a (L.map Trm.v) ∧ RowsOk H L ∧ (∀ r ∈ L, r.ns.length = m) ∧
  ∀ (L' : List Trm) (p : Addr), L'.Perm L → L'.Pairwise (fun x y => lexP y.d x.d = false) → H p = none → Q (.ref p) (upd H p (.lst (L'.map Trm.v)))
theorem hu2_of {A : Around} {k : Nat} (hr : Room k A) : A.units + 2 < cLine := Nat.lt_of_le_of_lt (Nat.add_le_add_left (by decide : 2 ≤ 64) _) hr.units
section
variable {X : Cx}
theorem rel_rows {H : Hp} : ∀ {L : List Trm} {us : List Value}, Vals (L.map Trm.v) us → us = L.map fun r => Value.ref r.t
  | [], _, .nil => rfl
  | r :: L, _, .cons h t => by
    cases h
    rw [rel_rows (H := H) t]
    rfl
theorem pti_raw {pins : List (Addr × Obj)} {σ : L2.St} {H : Hp} {s : Shared} (I : Inv X pins σ H s) {r : Trm} (h : RowOk H r) : PairTI s.heap (.ref r.t) r.d := by
  obtain ⟨h1, h2⟩ := h
  obtain ⟨its, rv, hT, _⟩ := I.tuple (.inl (.inl h1))
  cases rv with
  | cons r1 rr =>
    cases rr with
    | cons r2 rr =>
      cases rr
      cases r1
      obtain ⟨t, rfl⟩ := r2
      exact ⟨r.t, r.p, t, rfl, hT, tupI_raw I (.inl (.inl h2))⟩
theorem cr_sortedPT (hu : X.A.units + 2 < cLine) : CallR X (.builtin "sorted") (rSortedPT X.K) := by
  intro pins s σ H vs us Q I r h
  obtain ⟨a, L, m, rfl, hL, ho, hm, q⟩ := h
  obtain ⟨its, rv, hl, hz⟩ := I.list hL
  rw [Vals.ref1 r]
  have ei := rel_rows (H := H) rv
  subst ei
  have hz2 : L.length ≤ sizeLine := by simpa using hz
  refine SrtO.sorted_ord (ltv := fun v u => lexP (keyOf L v) (keyOf L u)) (swo_lexK (fun v => (keyOf L v).1 ++ [(keyOf L v).2])) hl.isList (by rw [List.length_map]; exact hz2) (fun h2 h₁ a' ha' kp => ?_) fun out hs hb => ?_
  · refine pti_sortable (m := m) (s := { s with heap := h₁ }) hu (by omega) (fun v hv => ?_) fun o e => ?_
    · obtain ⟨x, hx, rfl⟩ := List.mem_map.mp hv
      rw [keyOf_mem ho hx]
      exact ⟨(pti_raw I (ho x hx)).keeps fun b o e _ => (kp b o e).2, hm x hx⟩
    · have e' : some o = some (seqObj "list" (L.map fun r => Value.ref r.t).toArray 0) := e.symm.trans ha'
      cases e'
      intro c
      exact absurd (Value.type.inj c) (by decide)
  · obtain ⟨L', p1, e1⟩ := perm_lift (f := fun r : Trm => Value.ref r.t) hb.perm L rfl
    obtain ⟨ep, he'⟩ := PyProof.Rows.sortedAll_at s.heap (L.map fun r => Value.ref r.t) out.toArray
    have hlen : (L'.map Trm.v).length ≤ sizeLine := by rw [List.length_map, p1.length_eq]; exact hz2
    have hv : Vals (L'.map Trm.v) out := by
      rw [← e1]
      clear e1 p1 hlen he' ep
      induction L' with
      | nil => exact .nil
      | cons r L' ih => exact .cons rfl ih
    refine ⟨.ref _, upd H (s.heap.objs.size + 1) (.lst (L'.map Trm.v)), I.laid (t' := s.toks) (fun _ _ => PyProof.Rows.sortedAll_old) (Nat.le_succ _) ⟨hlen, out, ep, hv, he'⟩, rfl, q L' _ p1 ?_ (I.hok.fresh (Nat.le_succ _))⟩
    rw [← e1] at hs
    have hs2 := (List.pairwise_map (f := fun r : Trm => Value.ref r.t)).mp hs
    refine hs2.imp_of_mem fun {x y} hx hy h => ?_
    have h' : lexP (keyOf L (.ref y.t)) (keyOf L (.ref x.t)) = false := h
    rw [keyOf_mem ho (p1.mem_iff.mp hx), keyOf_mem ho (p1.mem_iff.mp hy)] at h'
    exact h'
end
end R1
set_option Elab.async false
set_option linter.all false
set_option maxRecDepth 100000
set_option maxHeartbeats 2000000
namespace R1
open PySem PySem.Spec PyProof.Rows L2
/-! ### min(t), t a tuple of ints -/
section
variable {prog : Program} {w : World} {A : Around} {E : Value → Shared → Prop} {s : Shared} {l : Addr} {xs : Array (Int × Tok)}
theorem iter_intTup {Q : Value → Shared → Prop} (hl : s.heap.IsTuple l (intItems xs))
    (h : ∀ s₂ : Shared, s₂ = { s with heap := s.heap.push { cls := .type "tuple_iterator", data := .fields #[.ref l, .int 0 0] } } →
      (s₂.heap.IsTupleIter s.heap.objs.size l 0 ∧ s₂.heap.IsTuple l (intItems xs)) → (∀ b ∈ [s.heap.objs.size, l], b < s₂.heap.objs.size) → l ≠ s.heap.objs.size → Q (.ref s.heap.objs.size) s₂) :
    wpAny (model prog w) A (pyIter (.ref l)) Q E s := by
  have hlt : l < s.heap.objs.size := by obtain ⟨_, e, _⟩ := hl; exact Heap.lt_size e
  refine wpAny_pyIter_tuple hl (h _ rfl ⟨⟨_, Heap.get?_push_size _ rfl, rfl, rfl⟩, hl.push _⟩ (fun b hb => ?_) (Nat.ne_of_lt hlt))
  show b < (s.heap.push _).objs.size
  rw [Heap.size_push]
  rcases List.mem_cons.mp hb with rfl | hb
  · exact Nat.lt_succ_self _
  · rcases List.mem_cons.mp hb with rfl | hb
    · exact Nat.lt_succ_of_lt hlt
    · cases hb
theorem old_keptT {h' : Heap} (hk : ∀ b o, b ∉ [s.heap.objs.size] → (s.heap.push { cls := .type "tuple_iterator", data := .fields #[.ref l, .int 0 0] }).get? b = some o → h'.get? b = some o) :
    ∀ b o, s.heap.get? b = some o → h'.get? b = some o := fun b o e => by
  refine hk b o (fun hm => ?_) (Heap.get?_push_of_some _ e)
  rcases List.mem_cons.mp hm with e1 | hm
  · exact absurd (e1 ▸ Heap.lt_size e) (Nat.lt_irrefl _)
  · cases hm
theorem min_intTup {Q : Value → Shared → Prop} (hh : A.handled = none) (hl : s.heap.IsTuple l (intItems xs)) (hne : 0 < xs.size)
    (h : ∀ v h' tk, (intItems xs)[argBest (fun i j => decide (numAt xs i < numAt xs j)) (xs.size - 1)]? = some v → (∀ b o, s.heap.get? b = some o → h'.get? b = some o) → Q v { s with heap := h', toks := tk }) :
    wpAny (model prog w) A (call (.builtin "min") [.ref l]) Q E s := by
  refine call_min_walk (iter_intTup hl fun s₂ e st hfp hlI => ?_)
  subst e
  refine ⟨_, _, _, _, _, _, _, rfl, Walks.tuple (A := A.in1) hh _ l hlI (intItems xs), st, hfp, by simpa [intItems] using hne, CmpOf.ints_lt (numAt xs) (fun _ _ => intItems_at), fun v h' tk hP hk => ?_⟩
  exact h v h' tk (by simpa [intItems] using hP) (old_keptT hk)
theorem min_rawT {its : List Value} {ns : List Int} {Q : Value → Shared → Prop} (hh : A.handled = none) (hl : s.heap.IsTuple l its.toArray) (hi : IntsAre its ns) (hne : 0 < ns.length)
    (h : ∀ h' tk M t', (∀ b o, s.heap.get? b = some o → h'.get? b = some o) → M ∈ ns → (∀ a, a ∈ ns → M ≤ a) → Q (.int M t') { s with heap := h', toks := tk }) : wpAny (model prog w) A (call (.builtin "min") [.ref l]) Q E s := by
  obtain ⟨xs, e⟩ := hi.allInts.items
  have hn : numsOf (intItems xs).toList = ns := by rw [← e]; exact hi.numsOf
  rw [nums_intItems] at hn
  subst hn
  rw [e] at hl
  have hsz : 0 < xs.size := by simpa using hne
  refine min_intTup hh hl hsz fun v h' tk hv hk => ?_
  obtain ⟨t, rfl⟩ := intItems_at hv
  obtain ⟨h1, h2⟩ := argBest_lt (numAt xs) (xs.size - 1)
  refine h h' tk _ t hk ?_ fun a ha => ?_
  · rw [numAt_eq]; exact PySem.getD_mem (by rw [List.length_map, Array.length_toList]; omega)
  · obtain ⟨j, hj, rfl⟩ := mem_getD ha
    rw [List.length_map, Array.length_toList] at hj
    rw [← numAt_eq]; exact h2 j (by omega)
end
def rMinT (K : PySem.W.Frag) : List V → Hp → VK → Prop := fun vs H Q => ∃ (a : Addr) (ns : List Int), vs = [V.ref a] ∧ SqT K H a (ns.map V.int) ∧ 0 < ns.length ∧ ∀ m, m ∈ ns → (∀ y, y ∈ ns → m ≤ y) → Q (.int m) H
theorem cr_minT {X : Cx} (hc : X.calm = true) : CallR X (.builtin "min") (rMinT X.K) := by
  intro pins s σ H vs us Q I r h
  obtain ⟨a, ns, rfl, hs, hne, q⟩ := h
  obtain ⟨its, rv, hl, _⟩ := I.tuple hs
  rw [Vals.ref1 r]
  exact min_rawT (I.ok.hd hc) hl rv.ints hne fun h' tk m t' hk h1 h2 => ⟨.int _, H, I.kept hk, ⟨_, rfl⟩, q m h1 h2⟩
/-! ### zip(t, l) -/
abbrev zH1 (h : Heap) (l1 : Addr) : Heap := h.push { cls := .type "tuple_iterator", data := .fields #[.ref l1, .int 0 0] }
abbrev zH2 (h : Heap) (l1 l2 : Addr) : Heap := (zH1 h l1).push { cls := .type "list_iterator", data := .fields #[.ref l2, .int 0 0] }
abbrev zH3 (h : Heap) (l1 l2 : Addr) : Heap := (zH2 h l1 l2).push { cls := .type "tuple", data := .seq #[.ref h.objs.size, .ref (zH1 h l1).objs.size] }
abbrev zH4 (h : Heap) (l1 l2 : Addr) : Heap := (zH3 h l1 l2).push { cls := .type "tuple", data := .seq #[.none, .none] }
abbrev zH5 (h : Heap) (l1 l2 : Addr) : Heap := (zH4 h l1 l2).push { cls := .type "zip", data := .fields #[.none, .bool false, .bool false, .ref (zH2 h l1 l2).objs.size, .ref (zH3 h l1 l2).objs.size] }
theorem meets_zipTL_new (l1 l2 : Addr) (xs ys : Array Value) :
    Meets (Builtin.«zip.__new__» ⟨[.type "zip", .ref l1, .ref l2], []⟩) (fun _ R s => s.heap.IsTuple l1 xs ∧ s.heap.IsList l2 ys ∧
      R (.ok (.ret (.ref (zH4 s.heap l1 l2).objs.size))) { s with heap := zH5 s.heap l1 l2 }) :=
  .of_wp fun prog w A R s h => by
    obtain ⟨hp, g, d, tk, os⟩ := s; obtain ⟨hl1, hl2, h⟩ := h
    have hsub := sub_zip
    have hL1 : Heap.IsTuple (Shared.heap ⟨hp, g, d, tk, os⟩) l1 xs := hl1
    have hL2 : Heap.IsList (Shared.heap ⟨hp.push { cls := .type "tuple_iterator", data := .fields #[.ref l1, .int 0 0] }, g, d, tk, os⟩) l2 ys := Heap.IsList.push hl2 _
    wp_walk using wpAny_pyIter_tuple hL1, wpAny_pyIter_list hL2
    exact ⟨_, rfl, h⟩
section
variable {prog : Program} {w : World} {A : Around} {E : Value → Shared → Prop} {s : Shared}
theorem call_zipTL {l1 l2 : Addr} {xs ys : Array Value} {Q : Value → Shared → Prop} (hl1 : s.heap.IsTuple l1 xs) (hl2 : s.heap.IsList l2 ys)
    (h : ∀ h', IsZip h' (s.heap.objs.size + 4) (s.heap.objs.size + 2) (s.heap.objs.size + 3) .none → IsPair h' (s.heap.objs.size + 2) (.ref s.heap.objs.size) (.ref (s.heap.objs.size + 1)) →
      IsPair h' (s.heap.objs.size + 3) .none .none → h'.IsTupleIter s.heap.objs.size l1 0 → h'.IsListIter (s.heap.objs.size + 1) l2 0 → h'.objs.size = s.heap.objs.size + 5 →
      (∀ c o, s.heap.get? c = some o → h'.get? c = some o) → Q (.ref (s.heap.objs.size + 4)) { s with heap := h' }) :
    wpAny (model prog w) A (call (.type "zip") [.ref l1, .ref l2]) Q E s := by
  refine callType_new F.called_zip (by decide) (F.typeCall_zip_2 _ _) (F.newCall_zip_2 _ _) (fun obj => F.args_object_init_3 obj _ _) F.entry_zip_new
    (meets_zipTL_new l1 l2 xs ys) ⟨hl1, hl2, ?_⟩
  have z1 : (zH1 s.heap l1).objs.size = s.heap.objs.size + 1 := Heap.size_push ..
  have z2 : (zH2 s.heap l1 l2).objs.size = s.heap.objs.size + 2 := by rw [Heap.size_push, z1]
  have z3 : (zH3 s.heap l1 l2).objs.size = s.heap.objs.size + 3 := by rw [Heap.size_push, z2]
  have z4 : (zH4 s.heap l1 l2).objs.size = s.heap.objs.size + 4 := by rw [Heap.size_push, z3]
  have z5 : (zH5 s.heap l1 l2).objs.size = s.heap.objs.size + 5 := by rw [Heap.size_push, z4]
  have g5 : (zH5 s.heap l1 l2).get? (zH4 s.heap l1 l2).objs.size = some _ := Heap.get?_push_size _ rfl
  have g4 : (zH5 s.heap l1 l2).get? (zH3 s.heap l1 l2).objs.size = some _ := Heap.get?_push_of_some _ (Heap.get?_push_size _ rfl)
  have g3 : (zH5 s.heap l1 l2).get? (zH2 s.heap l1 l2).objs.size = some _ := Heap.get?_push_of_some _ (Heap.get?_push_of_some _ (Heap.get?_push_size _ rfl))
  have g2 : (zH5 s.heap l1 l2).get? (zH1 s.heap l1).objs.size = some _ := Heap.get?_push_of_some _ (Heap.get?_push_of_some _ (Heap.get?_push_of_some _ (Heap.get?_push_size _ rfl)))
  have g1 : (zH5 s.heap l1 l2).get? s.heap.objs.size = some _ := Heap.get?_push_of_some _ (Heap.get?_push_of_some _ (Heap.get?_push_of_some _ (Heap.get?_push_of_some _ (Heap.get?_push_size _ rfl))))
  show _ ∧ _
  rw [z2, z3, z4] at g5
  rw [z1, z2] at g3
  rw [z3] at g4
  rw [z1] at g2
  rw [z4]
  exact ⟨⟨_, g5, rfl⟩, h _ g5 g3 g4 ⟨_, g1, rfl, rfl⟩ ⟨_, g2, rfl, rfl⟩ z5 fun c o x =>
    Heap.get?_push_of_some _ (Heap.get?_push_of_some _ (Heap.get?_push_of_some _ (Heap.get?_push_of_some _ (Heap.get?_push_of_some _ x))))⟩
end
/-- the tuple at a and the list at b, the items in new pairs -/
def ItzM (K : PySem.W.Frag) (a b : Addr) : It :=
  ⟨fun i H => ∃ (xs ys : List V) (x y : V), SqT K H a xs ∧ SqL K H b ys ∧ xs[i]? = some x ∧ ys[i]? = some y,
    fun i H v H' => ∃ T x y, v = .ref T ∧ H T = none ∧ H' = upd H T (.tup [x, y]) ∧ (∀ xs, SqT K H a xs → xs[i]? = some x) ∧ ∀ ys, SqL K H b ys → ys[i]? = some y,
    fun i H => ∃ xs ys : List V, SqT K H a xs ∧ SqL K H b ys ∧ xs.length = i ∧ ys.length = i⟩
theorem sep_of {h : Heap} {z TI TO i1 i2 a b : Addr} (D : ZipApart z TI TO i1 i2 a b) : ZipSep2 z TI TO i1 i2 [i1, a] [i2, b] where
  TIz := D.TIz
  TOz := D.TOz
  TITO := D.TITO
  TIi1 := D.TIi1
  mem1 := by simp
  zf1 := by simp [D.i1z.symm, D.l1z.symm]
  Tf1 := by simp [D.TOi1, D.l1TO.symm]
  TIi2 := D.TIi2
  mem2 := by simp
  zf2 := by simp [D.i2z.symm, D.l2z.symm]
  Tf2 := by simp [D.TOi2, D.l2TO.symm]
  sep1_2 := by simp [D.i12, D.l2i1.symm]
  sep2_1 := by simp [D.i12.symm, D.l1i2.symm]
theorem draws_tuple {prog : Program} {w : World} {A : Around} (hh : A.handled = none) (it l : Addr) (hne : l ≠ it) (items : Array Value) :
    Draws prog w A it [it, l] items.size (fun i v => items[i]? = some v) (fun i h => h.IsTupleIter it l i ∧ h.IsTuple l items) where
  live := fun _ _ st => let ⟨o, ho, _⟩ := st.1; ⟨o, ho⟩
  frame := fun _ _ _ st hk => ⟨st.1.at fun o e => hk it (by simp) o e, st.2.at fun o e => hk l (by simp) o e⟩
  item := fun i s Q E hi st hQ => by
    refine RZ.nextOf_tuple_item st.1 st.2 (x := items[i]) (by simp [hi]) fun h' hit' hs' => ?_
    exact hQ _ h' s.toks (by simp [hi]) ⟨hit', st.2.extBut hs'.extBut hne⟩ hs'
  done := fun s Q E st hE => RZ.nextOf_tuple_end hh st.1 st.2 (by simp) hE
theorem turn_zipM {P : Program} {w : World} {K : PySem.W.Frag} {elts : List Expr} {kk : Nat} {tpos : Pos} {a b z TI TO i1 i2 : Addr} (D : ZipApart z TI TO i1 i2 a b) :
    Turn P w K (.Tuple elts kk tpos) (ItzM K a b) [z, TI, TO, i1, i2] z (fun i h => IsZip h z TI TO .none ∧ IsPair h TI (.ref i1) (.ref i2) ∧ (∃ x y, IsPair h TO x y) ∧ h.IsTupleIter i1 a i ∧ h.IsListIter i2 b i) where
  mem := by simp
  obj := fun i h st c hc => by
    obtain ⟨hz, hTI, ⟨x, y, hTO⟩, ⟨o1, e1, _, d1⟩, ⟨o2, e2, _, d2⟩⟩ := st
    have e' : c = z ∨ c = TI ∨ c = TO ∨ c = i1 ∨ c = i2 := by simpa using hc
    rcases e' with q | q | q | q | q
    · rw [q]; exact ⟨_, hz, fun v q => nomatch q⟩
    · rw [q]; exact ⟨_, hTI, fun v q => nomatch q⟩
    · rw [q]; exact ⟨_, hTO, fun v q => nomatch q⟩
    · rw [q]; exact ⟨o1, e1, fun v q => by rw [d1] at q; cases q⟩
    · rw [q]; exact ⟨o2, e2, fun v q => by rw [d2] at q; cases q⟩
  keep := fun i h h' st k => by
    obtain ⟨hz, hTI, ⟨x, y, hTO⟩, h1, h2⟩ := st
    exact ⟨k z (by simp) _ hz, k TI (by simp) _ hTI, ⟨x, y, k TO (by simp) _ hTO⟩, h1.at fun o q => k i1 (by simp) o q, h2.at fun o q => k i2 (by simp) o q⟩
  item := by
    intro X hP hw hK hc i pins s σ H E I hf st hg
    subst hP hw hK
    obtain ⟨hz, hTI, ⟨x0, y0, hTO⟩, h1, h2⟩ := st
    obtain ⟨xs, ys, x, y, hqx, hqy, hx, hy⟩ := hg
    obtain ⟨its, rv, p, _⟩ := I.tuple hqx
    obtain ⟨its2, rv2, p2, _⟩ := I.list hqy
    obtain ⟨u, hu, ru⟩ := rv.get hx
    obtain ⟨u2, hu2, ru2⟩ := rv2.get hy
    have hzl : z < s.heap.objs.size := Heap.lt_size hz
    have lt1 : i < its.toArray.size := by
      rw [List.size_toArray]
      exact (List.getElem?_eq_some_iff.mp hu).1
    have lt2 : i < its2.toArray.size := by
      rw [List.size_toArray]
      exact (List.getElem?_eq_some_iff.mp hu2).1
    refine wpAny_pyNext_zipD2_item (sep_of (h := s.heap) D) (draws_tuple (A := X.A.in1) (I.ok.hd hc) i1 a D.l1i1 its.toArray) (Draws.list (A := X.A.in1) (I.ok.hd hc) i2 b D.l2i2 its2.toArray) hz hTI hTO ⟨h1, p⟩ ⟨h2, p2.isList⟩ lt1 lt2 fun w1 w2 h' tk e1 e2 z' TO' s1' s2' hT hsz hk => ?_
    have e1' : w1 = u := by
      have : its[i]? = some w1 := by simpa using e1
      rw [hu] at this
      exact (Option.some.inj this).symm
    have e2' : w2 = u2 := by
      have : its2[i]? = some w2 := by simpa using e2
      rw [hu2] at this
      exact (Option.some.inj this).symm
    subst e1' e2'
    refine ⟨_, rfl, wpAny_letOwnedTupleGo_zip (s := { s with heap := h', toks := tk }) z' fun h'' z'' sb => ?_⟩
    have hT2 : h''.get? s.heap.objs.size = some { cls := .type "tuple", data := .seq #[w1, w2] } := (sb.2 _ (Nat.ne_of_gt hzl)).trans hT
    have new : ObjOk X.prog X.w (upd H s.heap.objs.size (.tup [x, y])) h'' s.heap.objs.size (.tup [x, y]) :=
      ⟨by show 2 ≤ sizeLine; decide, [w1, w2], .cons ru (.cons ru2 .nil), ⟨_, hT2, rfl, _, rfl⟩⟩
    have I1 : Inv X pins σ (upd H s.heap.objs.size (.tup [x, y])) { s with heap := h'', toks := tk } :=
      I.turnedNew (t' := tk) (ch := [z, TI, TO, i1, i2]) (fun c o hb q => (sb.2 c (fun q' => hb (by simp [q']))).trans (hk c o (fun q' => hb (by simp [q'])) (fun q' => hb (by simp [q'])) (fun q' => hb (by simp [q'])) (fun q' => hb (by simp [q'])) q)) hf (Nat.le_refl _) new
    refine ⟨.ref s.heap.objs.size, _, I1, rfl, ⟨_, x, y, rfl, I.hok.fresh (Nat.le_refl _), rfl, fun l hl => by rw [I.tuple_inj hl hqx]; exact hx, fun l hl => by rw [I.list_inj hl hqy]; exact hy⟩, ⟨z'', ?_, ⟨w1, w2, ?_⟩, ?_, ?_⟩, fun c hcm => ?_⟩
    · exact (sb.2 _ D.TIz).trans (hk _ _ D.TIz D.TITO D.TIi1 D.TIi2 hTI)
    · exact (sb.2 _ D.TOz).trans TO'
    · exact s1'.1.at fun o q => (sb.2 _ D.i1z).trans q
    · exact s2'.1.at fun o q => (sb.2 _ D.i2z).trans q
    · have hlt : c < s.heap.objs.size := by
        have e' : c = z ∨ c = TI ∨ c = TO ∨ c = i1 ∨ c = i2 := by simpa using hcm
        rcases e' with q | q | q | q | q
        · rw [q]; exact hzl
        · rw [q]; exact Heap.lt_size hTI
        · rw [q]; exact Heap.lt_size hTO
        · rw [q]; obtain ⟨_, e1, _⟩ := h1; exact Heap.lt_size e1
        · rw [q]; obtain ⟨_, e2, _⟩ := h2; exact Heap.lt_size e2
      rw [upd_ne (Nat.ne_of_lt hlt)]
      exact (hf c hcm).1
  done := by
    intro X hP hw hK hc i pins s σ H E I hf st hg
    subst hP hw hK
    obtain ⟨hz, hTI, ⟨x0, y0, hTO⟩, h1, h2⟩ := st
    obtain ⟨xs, ys, hqx, hqy, he1, he2⟩ := hg
    obtain ⟨its, rv, p, _⟩ := I.tuple hqx
    obtain ⟨its2, rv2, p2, _⟩ := I.list hqy
    have l1 := rv.length
    have l2 := rv2.length
    refine wpAny_pyNext_zipD2_end (sep_of (h := s.heap) D) (draws_tuple (A := X.A.in1) (I.ok.hd hc) i1 a D.l1i1 its.toArray) (Draws.list (A := X.A.in1) (I.ok.hd hc) i2 b D.l2i2 its2.toArray) hz hTI hTO ⟨h1, p⟩ ⟨h2, p2.isList⟩ (by rw [List.size_toArray]; omega) (by rw [List.size_toArray]; omega) (.inl (by rw [List.size_toArray]; omega)) fun h' tk hk => ⟨rfl, I.turnedL (t' := tk) (ch := [z, TI, TO, i1, i2]) (fun c o hb q =>
      hk c o (fun q' => hb (by simp [q'])) (fun q' => hb (by simp [q'])) (fun q' => hb (by simp [q'])) (fun q' => hb (by simp [q'])) q) hf⟩
  self := fun A i s Q E st h => wpAny_pyIter_zip st.1 h
def iZipM (K : PySem.W.Frag) (ta : TA) : TI := fun σ H R => ta σ H fun vs H1 => ∃ a b xs ys, vs = [.ref a, .ref b] ∧ SqT K H1 a xs ∧ SqL K H1 b ys ∧ R (ItzM K a b) H1
theorem pi_zipM {X : Cx} {e e2 : Expr} {ta : TA} {p pos tpos : Pos} {elts : List Expr} {kk : Nat} (hg : Gl X "zip") (hm : X.mg "zip" = none) (ha : PA X [e, e2] ta)
    (hs : starEach [e, e2] X.env = (false, eval e X.env) :: starEach [e2] X.env := by rfl) (hpl : (backTo pos (starEach [e2] X.env)).any (·.1) = false := by rfl) :
    PI X (.Tuple elts kk tpos) (.Call (.Name "zip" p) [e, e2] [] pos) (iZipM X.K ta) := by
  refine ⟨fun pins s σ H R I h => ?_⟩
  refine Call_ (ld_blt I hg hm PyProof.Rows.boot_zip (PyProof.Rows.callWith_type1 (thn (ha.run pos pins s σ H _ I h) fun us s1 ⟨vs, H1, I1, r1, q1⟩ => ?_) hs hpl))
  obtain ⟨a, b, xs, ys, ex, hqx, hqy, q⟩ := q1
  subst ex
  cases r1 with
  | cons r rr =>
    cases rr with
    | cons r' rr =>
      cases rr
      cases r
      cases r'
      have fresh5 : ∀ c, c ∈ [s1.heap.objs.size + 4, s1.heap.objs.size + 2, s1.heap.objs.size + 3, s1.heap.objs.size, s1.heap.objs.size + 1] → FpOk X pins H1 c := fun c hcm => by
        have e' : c = s1.heap.objs.size + 4 ∨ c = s1.heap.objs.size + 2 ∨ c = s1.heap.objs.size + 3 ∨ c = s1.heap.objs.size ∨ c = s1.heap.objs.size + 1 := by simpa using hcm
        have hle : s1.heap.objs.size ≤ c := by
          rcases e' with z | z | z | z | z
          · rw [z]; exact Nat.le_add_right _ _
          · rw [z]; exact Nat.le_add_right _ _
          · rw [z]; exact Nat.le_add_right _ _
          · rw [z]; exact Nat.le_refl _
          · rw [z]; exact Nat.le_add_right _ _
        exact I1.fpOk hle (I1.hok.fresh hle)
      obtain ⟨its, rv, p1, _⟩ := I1.tuple hqx
      obtain ⟨its2, rv2, p2, _⟩ := I1.list hqy
      obtain ⟨o1, ho1, _⟩ := id p1
      refine call_zipTL (show s1.heap.IsTuple a its.toArray from p1) p2.isList fun h' hz hTI hTO h1 h2 hsz hk => wpAny_pyIter_zip hz ?_
      have I2 : Inv X pins σ H1 { s1 with heap := h' } := I1.kept (t' := s1.toks) hk
      exact ⟨s1.heap.objs.size + 4, [s1.heap.objs.size + 4, s1.heap.objs.size + 2, s1.heap.objs.size + 3, s1.heap.objs.size, s1.heap.objs.size + 1], _, _, H1, rfl, I2, turn_zipM (PySem.W.ktu_apart s1.heap.objs.size a b (Heap.lt_size ho1) p2.lt), ⟨hz, hTI, ⟨_, _, hTO⟩, h1, h2⟩, fresh5, q⟩
section
variable {K : PySem.W.Frag} {a b : Addr} {xs ys : List V}
theorem walk_zipM (hl : xs.length = ys.length) : Walk (ItzM K a b) xs.length (fun H => SqT K H a xs ∧ SqL K H b ys) (YPair (fun i => xs[i]?) (fun i => ys[i]?)) := by
  refine ⟨fun i _ hi q => ?_, fun _ q => ⟨xs, ys, q.1, q.2, rfl, hl.symm⟩, fun i H v H' _ q y => ?_⟩
  · have h2 : i < ys.length := by omega
    exact ⟨xs, ys, xs[i], ys[i], q.1, q.2, by simp [hi], by simp [h2]⟩
  · obtain ⟨T, x, z, h1, h2, h3, h4, h5⟩ := y
    exact ⟨T, x, z, h1, h2, h3, h4 xs q.1, h5 ys q.2⟩
theorem walk_zipT (hl : xs.length = ys.length) : Walk (RZ.ItzT K a b) xs.length (fun H => SqT K H a xs ∧ SqT K H b ys) (YPair (fun i => xs[i]?) (fun i => ys[i]?)) := by
  refine ⟨fun i _ hi q => ?_, fun _ q => ⟨xs, ys, q.1, q.2, .inl (Nat.le_refl _)⟩, fun i H v H' _ q y => ?_⟩
  · have h2 : i < ys.length := by omega
    exact ⟨xs, ys, xs[i], ys[i], q.1, q.2, by simp [hi], by simp [h2]⟩
  · obtain ⟨T, x, z, h1, h2, h3, h4, h5⟩ := y
    exact ⟨T, x, z, h1, h2, h3, h4 xs q.1, h5 ys q.2⟩
end
end R1
set_option Elab.async false
set_option linter.all false
set_option maxRecDepth 100000
namespace NH
open PySem PySem.Spec PyProof.Rows L2 R1
def okAt (m : Int) (L : List Trm) (k : Nat) : Prop := ∀ r, L[k]? = some r → (r.ns.length : Int) = m ∧ r.c ≠ 0 ∧ ∀ r', 0 < k → L[k - 1]? = some r' → HT.lexLt r'.ns r.ns = true
def Right (m : Int) (L : List Trm) : Prop := ∀ k, k < L.length → okAt m L k
abbrev nmIs : List Str := ["told", "many", "at", "powers", "coefficient"]
theorem scIs : FnScope nmIs ["told", "many"] (defScope sIs) := ⟨rfl, rfl, rfl, by decide +kernel, rfl, by decide +kernel, by decide +kernel⟩
theorem row_at {L : List Trm} {k : Nat} {r : Trm} (h : L[k]? = some r) : (L.map Trm.v)[k]? = some (V.ref r.t) := by
  rw [List.getElem?_map, h]
  rfl
/-! ### f(k = v, ..), nothing by position -/
section
variable {P : Program} {w : World} {K : PySem.W.Frag} {mg : Str → Option Value} {base : Heap}
/-! ### is_sum -/
def spIs (K : PySem.W.Frag) : Sp := fun vs H Q _ => ∃ (t : Addr) (m : Int) (L : List Trm), vs = [.ref t, .int m] ∧ SqT K H t (L.map Trm.v) ∧ RowsOk H L ∧ L.length ≤ 4000 ∧ ∀ (b : Bool) H', Same H H' → (b = true ↔ Right m L) → Q (.bl b) H'
theorem same_keepT {H H' : Hp} (s : Same H H') : KeepT H H' := fun b xs e => s b _ e
theorem ok_is {f : Addr} {fd : FuncData} {k : Nat} (F : Fun K "is_sum" "is_sum" sIs f fd) (mn : mg "enumerate" = none) (me : mg "len" = none) : FnOk P w K mg base CX0 (k + 1) f fd ["told", "many"] (spIs K) := by
  refine F.ok scIs (fun vs H Q E h => ?_) (fun cdv A outer s H vs Q E hr h => ?_)
  · obtain ⟨l, m, L, rfl, _⟩ := h
    rfl
  · obtain ⟨t, m, L, rfl, hl, ho, hL, q⟩ := h
    have hu := hu_of hr
    refine ⟨_, pss_cons (ps_for PassesOwn.never rfl (pi_enumT (by rfl) mn (pa_cons (pv 0) pa_nil)) (pg_tup rfl (pgs_cons (pg_name (i := 2) scIs.nd rfl (.inl rfl)) (pgs_cons (pg_tup rfl (pgs_cons (pg_name (i := 3) scIs.nd rfl (.inl rfl)) (pgs_cons (pg_name (i := 4) scIs.nd rfl (.inl rfl)) pgs_nil))) pgs_nil)))
        (Evl.pss_cut (ps_if (PW.pt (pw_or (pt_cmpR op_ne (pe_callB call_len_seq (by rfl) me PySem.boot_len (pa_cons (pv 3) pa_nil)) (pv 1) (nomark _)) (pw_or1 (pt_cmpR op_eq (pv 4) pe_int (nomark _)))))
          (pss_one (ps_ret pe_bl)) pss_nil)
        (pss_one (ps_if (PW.pt (pw_and (pt_truth (pv 2) (by intro _; rfl)) (pw_and1 (pt_cmpR (op_geT (Nat.lt_of_succ_lt hu)) (pe_ix ix_tup (pe_ix ix_tup (pv 0) (pe_op op_sub (pv 2) pe_int) (fun _ _ => rfl)) pe_int (fun _ _ => rfl)) (pv 3) (nomark _)))))
          (pss_one (ps_ret pe_bl)) pss_nil))))
      (pss_one (ps_ret pe_bl)), ?_⟩
    refine ⟨.ref t, rfl, t, _, rfl, hl, for_it (walk_enumT (K := K) (a := t) (xs := L.map Trm.v)) (fun i σ H' => ∃ y2 y3 y4, σ = [some (.ref t), some (.int m), y2, y3, y4] ∧ Same H H' ∧ ∀ k, k < i → okAt m L k)
      ⟨none, none, none, rfl, Same.refl _, fun k h => by omega⟩ (fun i σ H' _ h => ?_) (fun i x σ H0 H' hi h hy => ?_) (fun σ H' h => ?_)⟩
    · obtain ⟨y2, y3, y4, rfl, sm, _⟩ := h
      exact sqt_same sm hl
    · obtain ⟨y2, y3, y4, rfl, sm0, hk⟩ := h
      obtain ⟨T, z1, z2, rfl, nT, rfl, e1, e2⟩ := hy
      cases e1
      rw [List.length_map] at hi
      obtain ⟨r, hr1⟩ : ∃ r, L[i]? = some r := ⟨L[i], List.getElem?_eq_getElem hi⟩
      cases (row_at hr1).symm.trans e2
      have sm : Same H (upd H0 T (.tup [.int (i : Nat), .ref r.t])) := sm0.trans (same_new nT)
      obtain ⟨o1, o2⟩ := (ho.keep (same_keepT sm)) r (List.mem_of_getElem? hr1)
      have hl' := sqt_same sm hl
      have bad : ¬ okAt m L i → Q (.bl false) (upd H0 T (.tup [.int (i : Nat), .ref r.t])) := fun hb => q false _ sm ⟨(fun h => by cases h), fun h => absurd (h i hi) hb⟩
      refine ⟨T, _, rfl, .inl (.inl upd_same), rfl, _, _, rfl, _, _, rfl, r.t, _, rfl, .inl (.inl o1), rfl, _, _, rfl, _, _, rfl, rfl, rfl, ?_⟩
      refine ⟨fun σ' H'' => σ' = [some (.ref t), some (.int m), some (.int (i : Nat)), some (.ref r.p), some (.int r.c)] ∧ H'' = upd H0 T (.tup [.int (i : Nat), .ref r.t]) ∧ (r.ns.length : Int) = m ∧ r.c ≠ 0, ?_, ?_⟩
      · refine ⟨.ref r.p, rfl, r.p, _, rfl, .inr (.inl (.inl o2)), .int m, rfl, rfl, _, rfl, ?_⟩
        rw [List.length_map]
        by_cases hm : (r.ns.length : Int) = m
        · refine ite2 (fun e => ?_) (fun _ => ?_)
          · exact absurd e (by simp [hm])
          · refine ⟨.int r.c, rfl, rfl, _, rfl, ?_⟩
            by_cases hc : r.c = 0
            · refine ite2 (fun _ => ?_) (fun e => absurd (decide_eq_true (by rw [hc])) e)
              exact bad fun h => (h r hr1).2.1 hc
            · refine ite2 (fun e => absurd (V.int.inj (of_decide_eq_true e)) hc) (fun _ => ?_)
              exact ⟨rfl, rfl, hm, hc⟩
        · refine ite2 (fun _ => ?_) (fun e => ?_)
          · exact bad fun h => hm (h r hr1).1
          · exact absurd (by simp [hm]) e
      · rintro σ' H'' ⟨rfl, rfl, hm, hc⟩
        refine ⟨.int (i : Nat), rfl, _, rfl, ite2 (fun e => ?_) (fun e => iteF ?_)⟩
        · have hi0 : 0 < i := by
            have : (i : Int) ≠ 0 := by simpa using e
            omega
          obtain ⟨r', hr2⟩ : ∃ r', L[i - 1]? = some r' := ⟨L[i - 1], List.getElem?_eq_getElem (by omega)⟩
          obtain ⟨p1, p2⟩ := (ho.keep (same_keepT sm)) r' (List.mem_of_getElem? hr2)
          have ei2 : (i : Int) - 1 = ((i - 1 : Nat) : Int) := by omega
          refine ⟨.ref t, rfl, .int (i : Nat), rfl, i, 1, rfl, rfl, t, _, _, .ref r'.t, rfl, rfl, hl', (by rw [ei2]; exact atI_nat (row_at hr2)), r'.t, _, 0, .ref r'.p, rfl, rfl, .inl (.inl p1), atI_nat (j := 0) rfl,
            .ref r.p, rfl, r'.p, r.p, r'.ns, r.ns, rfl, rfl, .inl (.inl p2), .inl (.inl o2), _, rfl, ?_⟩
          cases hlt : HT.lexLt r'.ns r.ns with
          | true =>
            refine iteF ⟨_, _, _, rfl, sm, fun k hk2 => ?_⟩
            rcases Nat.lt_succ_iff_lt_or_eq.mp hk2 with h | rfl
            · exact hk k h
            · intro r2 e2
              cases hr1.symm.trans e2
              exact ⟨hm, hc, fun r3 _ e3 => by cases hr2.symm.trans e3; exact hlt⟩
          | false =>
            refine iteT ?_
            refine bad fun h => ?_
            have := (h r hr1).2.2 r' hi0 hr2
            rw [hlt] at this
            cases this
        · have hi0 : i = 0 := by
            by_cases h : i = 0
            · exact h
            · exact absurd (by simpa using h) e
          refine ⟨_, _, _, rfl, sm, fun k hk2 => ?_⟩
          rcases Nat.lt_succ_iff_lt_or_eq.mp hk2 with h | rfl
          · exact hk k h
          · intro r2 e2
            cases hr1.symm.trans e2
            exact ⟨hm, hc, fun r3 h3 _ => by omega⟩
    · obtain ⟨y2, y3, y4, rfl, sm, hk⟩ := h
      rw [List.length_map] at hk
      exact q true _ sm ⟨fun _ => hk, fun _ => rfl⟩

/-! ### sums as data -/
/-- what is a sum of m letters -/
def Good (m : Nat) (D : List (List Int × Int)) : Prop := (∀ q ∈ D, q.1.length = m ∧ q.2 ≠ 0) ∧ D.Pairwise fun x y => HT.lexLt x.1 y.1 = true
theorem good_right {m : Nat} {L : List Trm} (h : Good m (L.map Trm.d)) : Right m L := fun k hk r hr => by
  obtain ⟨h1, h2⟩ := h
  obtain ⟨a1, a2⟩ := h1 r.d (List.mem_map_of_mem (List.mem_of_getElem? hr))
  refine ⟨by show ((r.d.1.length : Nat) : Int) = m; rw [a1], a2, fun r' h0 hr' => ?_⟩
  rw [List.pairwise_map] at h2
  obtain ⟨i1, e1⟩ := List.getElem?_eq_some_iff.mp hr
  obtain ⟨i2, e2⟩ := List.getElem?_eq_some_iff.mp hr'
  have := List.pairwise_iff_getElem.mp h2 (k - 1) k i2 i1 (by omega)
  rw [e1, e2] at this
  exact this
/-- a sum at an address -/
structure SumAt (H : Hp) (t : Addr) (L : List Trm) : Prop where
  at_ : H t = some (.tup (L.map Trm.v))
  rows : RowsOk H L
theorem SumAt.same {H H' : Hp} {t : Addr} {L : List Trm} (h : SumAt H t L) (s : Same H H') : SumAt H' t L := ⟨s _ _ h.at_, h.rows.keep (same_keepT s)⟩
theorem SumAt.sq {K : PySem.W.Frag} {H : Hp} {t : Addr} {L : List Trm} (h : SumAt H t L) : SqT K H t (L.map Trm.v) := .inl (.inl h.at_)
/-! ### check_sum -/
def spCheck : Sp := fun vs H Q _ => ∃ (t : Addr) (m : Int) (L : List Trm), vs = [.ref t, .int m] ∧ SumAt H t L ∧ L.length ≤ 4000 ∧ Right m L ∧ ∀ H', Same H H' → Q .non H'
abbrev nmCheck : List Str := ["told", "many"]
theorem scCheck : FnScope nmCheck ["told", "many"] (defScope sCheck) := ⟨rfl, rfl, rfl, by decide +kernel, rfl, by decide +kernel, by decide +kernel⟩
theorem ok_check {f fI : Addr} {fd fdI : FuncData} {k : Nat} (F : Fun K "check_sum" "check_sum" sCheck f fd) (FI : Fun K "is_sum" "is_sum" sIs fI fdI) (bI : Binds K fdI ["told", "many"] []) (gI : mg "is_sum" = some (.ref fI)) (mn : mg "enumerate" = none) (me : mg "len" = none) : FnOk P w K mg base CX0 (k + 2) f fd ["told", "many"] spCheck := by
  have GI : FnOk P w K mg base CX0 (k + 1) fI fdI ["told", "many"] (spIs K) := ok_is FI mn me
  refine F.ok scCheck (fun vs H Q E h => ?_) (fun cdv A outer s H vs Q E hr h => ?_)
  · obtain ⟨l, m, L, rfl, _⟩ := h
    rfl
  · obtain ⟨t, m, L, rfl, hS, hL, hR, q⟩ := h
    refine ⟨_, pss_one (ps_if (pt_not (pt_val (pe_call GI hr (by rfl) gI FI.kp bI .nil pass0 (pa_cons (pv 0) (pa_cons (pv 1) pa_nil))))) pss_never pss_nil), ?_⟩
    refine ⟨.ref t, rfl, .int m, rfl, t, m, L, rfl, hS.sq, hS.rows, hL, fun b H' s' hb => ?_⟩
    have : b = true := hb.mpr hR
    subst this
    exact ⟨true, rfl, iteF (q _ s')⟩
/-! ### letters_of -/
def spLettersOf (K : PySem.W.Frag) : Sp := fun vs H Q _ => ∃ (l t : Addr) (m : Nat) (L : List Trm), vs = [.ref l] ∧ SqL K H l [.ref t] ∧ SumAt H t L ∧ L.length ≤ 4000 ∧ 0 < m ∧ Good m (L.map Trm.d) ∧ ∀ H', Same H H' → Q (.int (if L.isEmpty then 0 else (m : Int))) H'
abbrev nmLettersOf : List Str := ["sums", "many", "told"]
theorem scLettersOf : FnScope nmLettersOf ["sums"] (defScope sLettersOf) := ⟨rfl, rfl, rfl, by decide +kernel, rfl, by decide +kernel, by decide +kernel⟩
theorem ok_lettersOf {f fC fI : Addr} {fd fdC fdI : FuncData} {k : Nat} (F : Fun K "letters_of" "letters_of" sLettersOf f fd) (FC : Fun K "check_sum" "check_sum" sCheck fC fdC) (bC : Binds K fdC ["told", "many"] []) (gC : mg "check_sum" = some (.ref fC))
    (FI : Fun K "is_sum" "is_sum" sIs fI fdI) (bI : Binds K fdI ["told", "many"] []) (gI : mg "is_sum" = some (.ref fI)) (mn : mg "enumerate" = none) (me : mg "len" = none) : FnOk P w K mg base CX0 (k + 3) f fd ["sums"] (spLettersOf K) := by
  have GC : FnOk P w K mg base CX0 (k + 2) fC fdC ["told", "many"] spCheck := ok_check FC FI bI gI mn me
  refine F.ok scLettersOf (fun vs H Q E h => ?_) (fun cdv A outer s H vs Q E hr h => ?_)
  · obtain ⟨l, t, m, L, rfl, _⟩ := h
    rfl
  · obtain ⟨l, t, m, L, rfl, hl, hS, hL, hm, hG, q⟩ := h
    refine ⟨_, pss_cons (ps_set (i := 1) scLettersOf.nd rfl (.inl rfl) pe_int)
      (pss_cons (ps_for PassesOwn.never rfl (pi_list (pv 0)) (pg_name (i := 2) scLettersOf.nd rfl (.inl rfl))
        (Evl.pss_cut (ps_if (PW.pt (pw_and (pt_truth (pv 2) (by intro _; rfl)) (pw_and1 (pt_not (pt_truth (pv 1) (by intro _; rfl))))))
          (pss_cons (ps_set (i := 1) scLettersOf.nd rfl (.inl rfl) (pe_callB call_len_seq (by rfl) me PySem.boot_len (pa_cons (pe_ix ix_tup (pe_ix ix_tup (pv 2) pe_int (fun _ _ => rfl)) pe_int (fun _ _ => rfl)) pa_nil)))
          (pss_one (ps_if (pt_not (pt_truth (pv 1) (by intro _; rfl))) pss_never pss_nil))) pss_nil)
        (pss_one (ps_expr (pe_call GC hr (by rfl) gC FC.kp bC .nil pass0 (pa_cons (pv 2) (pa_cons (pv 1) pa_nil)))))))
      (pss_one (ps_ret (pv 1)))), ?_⟩
    refine ⟨.ref l, rfl, l, rfl, ⟨_, hl⟩, for_list (xs := [V.ref t]) (fun i σ H' => ∃ y2, σ = [some (.ref l), some (.int (if i = 0 then 0 else if L.isEmpty then 0 else (m : Int))), y2] ∧ Same H H') ⟨none, rfl, Same.refl _⟩ (fun i σ H' _ h => ?_) (fun i x σ H' hx h => ?_) (fun σ H' h => ?_)⟩
    · obtain ⟨y2, rfl, sm⟩ := h
      exact sm.seq hl
    · obtain ⟨y2, rfl, sm⟩ := h
      have hi : i = 0 := by
        have := (List.getElem?_eq_some_iff.mp hx).1
        simp at this
        exact this
      subst hi
      cases (Option.some.inj hx : V.ref t = x)
      have hS' := hS.same sm
      refine ⟨fun σ' H'' => σ' = [some (.ref l), some (.int (if L.isEmpty then 0 else (m : Int))), some (.ref t)] ∧ H'' = H', ?_, ?_⟩
      · refine ⟨.ref t, rfl, !(L.map Trm.v).isEmpty, .inr (.inl ⟨_, hS'.sq, rfl⟩), ?_⟩
        cases L with
        | nil => exact iteF ⟨rfl, rfl⟩
        | cons r L =>
          refine iteT ⟨.int 0, rfl, false, rfl, ?_⟩
          obtain ⟨o1, o2⟩ := hS'.rows r List.mem_cons_self
          have hlen : r.ns.length = m := (hG.1 r.d List.mem_cons_self).1
          refine iteT ⟨.ref t, rfl, t, _, 0, .ref r.t, rfl, rfl, hS'.sq, atI_nat (j := 0) rfl, r.t, _, 0, .ref r.p, rfl, rfl, .inl (.inl o1), atI_nat (j := 0) rfl, r.p, _, rfl, .inr (.inl (.inl o2)), ?_⟩
          refine ⟨_, rfl, true, ?_, iteF ⟨?_, rfl⟩⟩
          · show true = (((r.ns.map V.int).length : Int) != 0)
            rw [List.length_map, hlen]
            simp
            omega
          · rw [List.length_map, hlen]
            rfl
      · rintro σ' H'' ⟨rfl, rfl⟩
        refine ⟨.ref t, rfl, _, rfl, t, _, L, rfl, hS', hL, ?_, fun H2 s2 => ⟨_, rfl, sm.trans s2⟩⟩
        cases L with
        | nil => exact fun k hk => absurd hk (Nat.not_lt_zero _)
        | cons r L => exact good_right hG
    · obtain ⟨y2, rfl, sm⟩ := h
      exact ⟨_, rfl, q _ sm⟩
end
end NH
set_option Elab.async false
set_option linter.all false
set_option maxRecDepth 100000
namespace NH
open PySem PySem.Spec PyProof.Rows L2 R1 ZN
/-- how many letters stand in a sum: 0 in the sum 0 -/
def cnt (m : Nat) (L : List Trm) : Nat := if L.isEmpty then 0 else m
/-- the j-th powers of the terms -/
def col (D : List (List Int × Int)) (j : Nat) : List Int := D.map fun q => q.1.getD j 0
section
variable {P : Program} {w : World} {K : PySem.W.Frag} {mg : Str → Option Value} {base : Heap}
/-! ### lines_of -/
def spLines : Sp := fun vs H Q _ => ∃ (t : Addr) (m : Nat) (L : List Trm), vs = [.ref t] ∧ SumAt H t L ∧ L.length ≤ 4000 ∧ 0 < m ∧ m ≤ 4000 ∧ (∀ r ∈ L, r.ns.length = m) ∧
  ∀ H' (l : Addr) (as : List Addr), Same H H' → H' l = some (.lst (as.map V.ref)) → as.length = cnt m L → (∀ (j : Nat) (a : Addr), as[j]? = some a → H' a = some (.tup ((col (L.map Trm.d) j).map V.int))) → Q (.ref l) H'
abbrev nmLines : List Str := ["told", "rows", "powers", "_"]
theorem scLines : FnScope nmLines ["told"] (defScope sLines) := ⟨rfl, rfl, rfl, by decide +kernel, rfl, by decide +kernel, by decide +kernel⟩
theorem paired_rows {H : Hp} {m : Nat} : ∀ {L : List Trm}, RowsOk H L → (∀ r ∈ L, r.ns.length = m) → Paired (fun (r : Addr) (row : List V) => SqT K H r row ∧ row.length = m) (L.map Trm.p) (L.map fun r => r.ns.map V.int)
  | [], _, _ => .nil
  | r :: L, ho, hm => .cons ⟨.inl (.inl (ho r List.mem_cons_self).2), by rw [List.length_map]; exact hm r List.mem_cons_self⟩ (paired_rows (fun x hx => ho x (List.mem_cons_of_mem _ hx)) fun x hx => hm x (List.mem_cons_of_mem _ hx))
theorem ok_lines {f : Addr} {fd : FuncData} {k : Nat} (F : Fun K "lines_of" "lines_of" sLines f fd) (ml : mg "list" = none) (mz : mg "zip" = none) : FnOk P w K mg base CX0 (k + 1) f fd ["told"] spLines := by
  refine F.ok scLines (fun vs H Q E h => ?_) (fun cdv A outer s H vs Q E hr h => ?_)
  · obtain ⟨t, m, L, rfl, _⟩ := h
    rfl
  · obtain ⟨t, m, L, rfl, hS, hL, hm0, hm1, hm, q⟩ := h
    refine ⟨_, pss_cons (ps_setLc (i := 1) (own := [("powers", 2), ("_", 3)]) (g := gTup K 2 (gCons (gName 2) (gCons (gName 3) gNil))) (by rfl) scLines.nd rfl rfl (sw_true rfl rfl rfl (by decide +kernel)) (pi_tup (pv 0)) (blkOk_by (own := [("powers", 2), ("_", 3)]) (N := nmLines) (sc := defScope sLines) (by decide +kernel))
          (fun _ _ _ _ _ => pg_tup rfl (pgs_cons (pg_name (i := 2) scLines.nd rfl (.inl rfl)) (pgs_cons (pg_name (i := 3) scLines.nd rfl (.inl rfl)) pgs_nil))) (fun _ _ _ _ _ => pts_nil) (fun _ _ _ _ _ => pv 2))
      (pss_one (ps_ret (pe_listZip (by rfl) (pv 1) (by rfl) ml (by decide +kernel) (by rfl) mz (by decide +kernel)))), ?_⟩
    refine ⟨.ref t, rfl, t, rfl, ⟨_, hS.sq⟩, fun D nD => ?_⟩
    refine lc_tup (xs := L.map Trm.v) (fun j H' => H' D = some (.lst ((L.take j).map fun r => V.ref r.p)) ∧ ∀ b o, b ≠ D → H b = some o → H' b = some o) ⟨upd_same, fun b o hb e => by rw [upd_ne hb]; exact e⟩ (fun i H' _ h => ?_) (fun i x H' hx h => ?_) (fun H' h => ?_)
    · exact .inl (.inl (h.2 t _ (ne_of_none hS.at_ nD) hS.at_))
    · obtain ⟨hD, kp⟩ := h
      rw [List.getElem?_map] at hx
      obtain ⟨r, hr1, rfl⟩ := Option.map_eq_some_iff.mp hx
      obtain ⟨o1, o2⟩ := hS.rows r (List.mem_of_getElem? hr1)
      have hlt := (List.getElem?_eq_some_iff.mp hr1).1
      refine ⟨r.t, _, rfl, .inl (.inl (kp _ _ (ne_of_none o1 nD) o1)), rfl, _, _, rfl, _, _, rfl, rfl, rfl, .ref r.p, rfl, _, hD, ?_, ?_, fun b o hb e => ?_⟩
      · rw [List.length_map, List.length_take, sizeLine_eq]
        omega
      · rw [upd_same, List.take_add_one, hr1, List.map_append]
        rfl
      · rw [upd_ne hb]
        exact kp b o hb e
    · obtain ⟨hD, kp⟩ := h
      rw [List.length_map, List.take_length] at hD
      have sm : Same H H' := fun b o e => kp b o (ne_of_none e nD) e
      refine ⟨.ref D, rfl, D, L.map Trm.p, _, cnt m L, rfl, .inr (.inl (.inl (by rw [hD, List.map_map]; rfl))), paired_rows (m := cnt m L) (hS.rows.keep (same_keepT sm)) (fun r hr => ?_), ?_, ?_, ?_, fun H2 l as k1 k2 k3 k4 k5 k6 k7 k8 => ?_⟩
      · rw [hm r hr]
        unfold cnt
        cases L with
        | nil => cases hr
        | cons _ _ => rfl
      · unfold cnt
        cases L with
        | nil => exact .inl ⟨rfl, rfl⟩
        | cons _ _ => exact .inr ⟨by simp, hm0⟩
      · unfold cnt
        split
        · exact Nat.zero_le _
        · exact small4k hm1
      · rw [List.length_map]
        exact small4k hL
      · refine q H2 l as (fun b o e => k1 b o (sm b o e)) k6 k7 fun j a ha => ?_
        rw [k8 j a ha]
        congr 2
        rw [List.map_map, col, List.map_map, List.map_map]
        refine List.map_congr_left fun r hr => ?_
        have hj : j < r.ns.length := by
          have h1 := (List.getElem?_eq_some_iff.mp ha).1
          rw [k7] at h1
          rw [hm r hr]
          unfold cnt at h1
          split at h1 <;> omega
        show (r.ns.map V.int).getD j .non = V.int (r.ns.getD j 0)
        rw [List.getD_eq_getElem?_getD, List.getD_eq_getElem?_getD, List.getElem?_map, List.getElem?_eq_getElem hj]
        rfl
/-! ### least_of -/
def IsLeast (D : List (List Int × Int)) (n : Nat) (ms : List Int) : Prop := ms.length = n ∧ ∀ j, j < n → ∃ v, ms[j]? = some v ∧ v ∈ col D j ∧ ∀ y ∈ col D j, v ≤ y
theorem IsLeast.unique {D : List (List Int × Int)} {n : Nat} {ms ns : List Int} (x : IsLeast D n ms) (y : IsLeast D n ns) : ms = ns := by
  obtain ⟨l1, h1⟩ := x
  obtain ⟨l2, h2⟩ := y
  apply List.ext_getElem?
  intro j
  by_cases hj : j < n
  · obtain ⟨v, e1, m1, b1⟩ := h1 j hj
    obtain ⟨u, e2, m2, b2⟩ := h2 j hj
    have := b1 u m2
    have := b2 v m1
    rw [e1, e2]
    congr 1
    omega
  · rw [List.getElem?_eq_none (by omega), List.getElem?_eq_none (by omega)]
def spLeast : Sp := fun vs H Q _ => ∃ (t : Addr) (m : Nat) (L : List Trm), vs = [.ref t] ∧ SumAt H t L ∧ L.length ≤ 4000 ∧ 0 < m ∧ m ≤ 4000 ∧ (∀ r ∈ L, r.ns.length = m) ∧
  ∀ H' (p : Addr) (ms : List Int), Same H H' → H p = none → H' p = some (.tup (ms.map V.int)) → IsLeast (L.map Trm.d) (cnt m L) ms → Q (.ref p) H'
abbrev nmLeast : List Str := ["told", "line"]
theorem scLeast : FnScope nmLeast ["told"] (defScope sLeast) := ⟨rfl, rfl, rfl, by decide +kernel, rfl, by decide +kernel, by decide +kernel⟩
theorem ok_least {f fL : Addr} {fd fdL : FuncData} {k : Nat} (F : Fun K "least_of" "least_of" sLeast f fd) (FL : Fun K "lines_of" "lines_of" sLines fL fdL) (bL : Binds K fdL ["told"] []) (gL : mg "lines_of" = some (.ref fL)) (ml : mg "list" = none) (mz : mg "zip" = none) (mn : mg "min" = none) (mt : mg "tuple" = none) :
    FnOk P w K mg base CX0 (k + 2) f fd ["told"] spLeast := by
  have GL : FnOk P w K mg base CX0 (k + 1) fL fdL ["told"] spLines := ok_lines FL ml mz
  refine F.ok scLeast (fun vs H Q E h => ?_) (fun cdv A outer s H vs Q E hr h => ?_)
  · obtain ⟨t, m, L, rfl, _⟩ := h
    rfl
  · obtain ⟨t, m, L, rfl, hS, hL, hm0, hm1, hm, q⟩ := h
    refine ⟨_, pss_one (ps_ret (pe_callTy call_tuple_of (by rfl) mt (by decide +kernel) (pa_cons (pe_lc (own := [("line", 1)]) (g := gName 1) (by rfl) scLeast.nd (pi_list (pe_call GL hr (by rfl) gL FL.kp bL .nil pass0 (pa_cons (pv 0) pa_nil))) (blkOk_by (own := [("line", 1)]) (N := nmLeast) (sc := defScope sLeast) (by decide +kernel))
          (fun _ _ _ _ _ => pg_name (i := 1) scLeast.nd rfl (.inl rfl)) (fun _ _ _ _ _ => pts_nil) (fun _ _ _ _ _ => pe_callB (r := rMinT K) (cr_minT (by rfl)) (by rfl) mn (by decide +kernel) (pa_cons (pv 1) pa_nil))) pa_nil))), ?_⟩
    refine ⟨.ref t, rfl, t, m, L, rfl, hS, hL, hm0, hm1, hm, fun H1 l as s1 hl hn hc => ?_⟩
    refine ⟨l, rfl, ⟨_, sqlOf hl⟩, fun D nD => ?_⟩
    have lD : l ≠ D := ne_of_none hl nD
    refine lc_list (xs := as.map V.ref) (fun j H' => ∃ ms : List Int, H' D = some (.lst (ms.map V.int)) ∧ IsLeast (L.map Trm.d) j ms ∧ ∀ b o, b ≠ D → H1 b = some o → H' b = some o) ⟨[], upd_same, ⟨rfl, fun j hj => absurd hj (Nat.not_lt_zero _)⟩, fun b o hb e => by rw [upd_ne hb]; exact e⟩ (fun i H' _ h => ?_) (fun i x H' hx h => ?_) (fun H' h => ?_)
    · obtain ⟨ms, _, _, kp⟩ := h
      exact sqlOf (kp l _ lD hl)
    · obtain ⟨ms, hD, ⟨e1, e2⟩, kp⟩ := h
      rw [List.getElem?_map] at hx
      obtain ⟨a, ha, rfl⟩ := Option.map_eq_some_iff.mp hx
      have hi := (List.getElem?_eq_some_iff.mp ha).1
      have hne : 0 < L.length := by
        cases L with
        | nil =>
          rw [hn] at hi
          exact absurd hi (Nat.not_lt_zero _)
        | cons _ _ => simp
      have hca := hc i a ha
      refine ⟨rfl, .ref a, rfl, a, _, rfl, .inl (.inl (kp a _ (ne_of_none hca nD) hca)), (by simpa [col] using hne), fun v h1 h2 => ?_⟩
      have hms : ms.length ≤ 4000 := by
        rw [e1]
        rw [hn] at hi
        unfold cnt at hi
        split at hi <;> omega
      refine ⟨_, hD, (by rw [List.length_map, sizeLine_eq]; omega), ms ++ [v], (by rw [upd_same, List.map_append]; rfl), ⟨by rw [List.length_append, e1]; rfl, fun j hj => ?_⟩, fun b o hb e => by rw [upd_ne hb]; exact kp b o hb e⟩
      rcases Nat.lt_succ_iff_lt_or_eq.mp hj with hj | rfl
      · obtain ⟨u, f1, f2⟩ := e2 j hj
        exact ⟨u, by rw [List.getElem?_append_left (by omega)]; exact f1, f2⟩
      · exact ⟨v, by rw [List.getElem?_append_right (by omega), e1]; simp, h1, h2⟩
    · obtain ⟨ms, hD, hI, kp⟩ := h
      rw [List.length_map, hn] at hI
      have sm : Same H1 H' := fun b o e => kp b o (ne_of_none e nD) e
      refine ⟨D, _, rfl, .inl ⟨sqlOf hD, fun p np => ?_⟩⟩
      exact q _ p ms ((s1.trans sm).trans (same_new np)) ((s1.trans sm).free np) upd_same hI
/-! ### least_powers -/
theorem Good.len {m : Nat} {L : List Trm} (h : Good m (L.map Trm.d)) : ∀ r ∈ L, r.ns.length = m := fun r hr => (h.1 r.d (List.mem_map_of_mem hr)).1
theorem one1 {a : V} : [a].length ≤ sizeLine := by
  rw [sizeLine_eq]
  show 1 ≤ 16777216
  decide
/-- where the program's defs stand -/
structure Prog (K : PySem.W.Frag) (mg : Str → Option Value) (fI fC fO fN fL : Addr) (dI dC dO dN dL : FuncData) : Prop where
  Is : Fun K "is_sum" "is_sum" sIs fI dI
  Ch : Fun K "check_sum" "check_sum" sCheck fC dC
  Lo : Fun K "letters_of" "letters_of" sLettersOf fO dO
  Li : Fun K "lines_of" "lines_of" sLines fN dN
  Le : Fun K "least_of" "least_of" sLeast fL dL
  bIs : Binds K dI ["told", "many"] []
  bCh : Binds K dC ["told", "many"] []
  bLo : Binds K dO ["sums"] []
  bLi : Binds K dN ["told"] []
  bLe : Binds K dL ["told"] []
  gIs : mg "is_sum" = some (.ref fI)
  gCh : mg "check_sum" = some (.ref fC)
  gLo : mg "letters_of" = some (.ref fO)
  gLi : mg "lines_of" = some (.ref fN)
  gLe : mg "least_of" = some (.ref fL)
  enumerate : mg "enumerate" = none
  len : mg "len" = none
  list : mg "list" = none
  zip : mg "zip" = none
  min : mg "min" = none
  tuple : mg "tuple" = none
section
variable {fI fC fO fN fL : Addr} {dI dC dO dN dL : FuncData}
theorem Prog.lo {k : Nat} (D : Prog K mg fI fC fO fN fL dI dC dO dN dL) : FnOk P w K mg base CX0 (k + 3) fO dO ["sums"] (spLettersOf K) := ok_lettersOf D.Lo D.Ch D.bCh D.gCh D.Is D.bIs D.gIs D.enumerate D.len
theorem Prog.le {k : Nat} (D : Prog K mg fI fC fO fN fL dI dC dO dN dL) : FnOk P w K mg base CX0 (k + 2) fL dL ["told"] spLeast := ok_least D.Le D.Li D.bLi D.gLi D.list D.zip D.min D.tuple
end
end
end NH
set_option Elab.async false
set_option linter.all false
set_option maxRecDepth 100000
namespace NH
open PySem PySem.Spec PyProof.Rows L2 R1 ZN
/-- a term with ms taken from its powers -/
def less (ms : List Int) (q : List Int × Int) : List Int × Int := (List.zipWith (fun a b => a + -1 * b) q.1 ms, q.2)
theorem rows_app {H : Hp} {L M : List Trm} (h : RowsOk H L) (h' : RowsOk H M) : RowsOk H (L ++ M) := fun r hr => by
  rcases List.mem_append.mp hr with hr | hr
  · exact h r hr
  · exact h' r hr
theorem zip_take {f : Int → Int → Int} {xs ys : List Int} {i : Nat} {x y : Int} (hx : xs[i]? = some x) (hy : ys[i]? = some y) : (List.zipWith f xs ys).take (i + 1) = (List.zipWith f xs ys).take i ++ [f x y] := by
  rw [List.take_add_one, List.getElem?_zipWith, hx, hy]
  rfl
theorem size2' {a b : V} : [a, b].length ≤ sizeLine := by
  rw [sizeLine_eq]
  show 2 ≤ 16777216
  decide
/-- a row of a comprehension's list, one more -/
theorem rows_step {H4 : Hp} {D t p : Addr} {ns : List Int} {c : Int} {L : List Trm} (hD : H4 D = some (.lst (L.map Trm.v))) (ho : RowsOk H4 L) (h1 : H4 t = some (.tup [.ref p, .int c])) (h2 : H4 p = some (.tup (ns.map V.int))) :
    upd H4 D (.lst (L.map Trm.v ++ [.ref t])) D = some (.lst ((L ++ [(⟨t, p, ns, c⟩ : Trm)]).map Trm.v)) ∧ RowsOk (upd H4 D (.lst (L.map Trm.v ++ [.ref t]))) (L ++ [(⟨t, p, ns, c⟩ : Trm)]) := by
  have kt : KeepT H4 (upd H4 D (.lst (L.map Trm.v ++ [.ref t]))) := fun b xs e => by
    rw [upd_ne (ne_of e hD (by intro z; cases z))]
    exact e
  refine ⟨by rw [upd_same, List.map_append]; rfl, rows_app (ho.keep kt) fun r hr => ?_⟩
  rw [List.mem_singleton.mp hr]
  exact ⟨kt _ _ h1, kt _ _ h2⟩
section
variable {P : Program} {w : World} {K : PySem.W.Frag} {mg : Str → Option Value} {base : Heap}
def spMoved : Sp := fun vs H Q _ => ∃ (t p : Addr) (ms : List Int) (L : List Trm), vs = [.ref t, .ref p, .int (-1)] ∧ SumAt H t L ∧ L.length ≤ 4000 ∧ H p = some (.tup (ms.map V.int)) ∧ ms.length ≤ 4000 ∧ (∀ r ∈ L, r.ns.length = ms.length) ∧
  ∀ H' (t' : Addr) (L' : List Trm), Same H H' → H t' = none → SumAt H' t' L' → L'.map Trm.d = (L.map Trm.d).map (less ms) → Q (.ref t') H'
abbrev nmMoved : List Str := ["told", "powers", "sign", "own", "coefficient", "one", "other"]
theorem scMoved : FnScope nmMoved ["told", "powers", "sign"] (defScope sMoved) := ⟨rfl, rfl, rfl, by decide +kernel, rfl, by decide +kernel, by decide +kernel⟩
theorem ok_moved {f : Addr} {fd : FuncData} {k : Nat} (F : Fun K "moved" "moved" sMoved f fd) (mt : mg "tuple" = none) (mz : mg "zip" = none) : FnOk P w K mg base CX0 (k + 1) f fd ["told", "powers", "sign"] spMoved := by
  refine F.ok scMoved (fun vs H Q E h => ?_) (fun cdv A outer s H vs Q E hr h => ?_)
  · obtain ⟨t, m, L, _, rfl, _⟩ := h
    rfl
  · obtain ⟨t, p, ms, L, rfl, hS, hL, hp, hms, hlen, q⟩ := h
    refine ⟨_, pss_one (ps_ret (pe_callTy call_tuple_of (by rfl) mt (by decide +kernel) (pa_cons (pe_lc (own := [("own", 3), ("coefficient", 4)]) (g := gTup K 2 (gCons (gName 3) (gCons (gName 4) gNil))) (by rfl) scMoved.nd (pi_tup (pv 0)) (blkOk_by (own := [("own", 3), ("coefficient", 4)]) (N := nmMoved) (sc := defScope sMoved) (by decide +kernel))
          (fun _ _ _ _ _ => pg_tup rfl (pgs_cons (pg_name (i := 3) scMoved.nd rfl (.inl rfl)) (pgs_cons (pg_name (i := 4) scMoved.nd rfl (.inl rfl)) pgs_nil))) (fun _ _ _ _ _ => pts_nil)
          (fun _ _ _ _ _ => pe_tup (pa_cons (pe_callTy (r := fun xs H Q => ∃ p ys, xs = [.ref p] ∧ ((SqL K H p ys ∧ ∀ l, H l = none → Q (.ref l) (upd H l (.tup ys))) ∨ (SqT K H p ys ∧ Q (.ref p) H))) call_tuple_of (by rfl) mt (by decide +kernel) (pa_cons (pe_lc (wi := RZ.iZipA K (tCons (tVar 3) (tCons (tVar 1) tNil))) (own := [("one", 5), ("other", 6)]) (g := gTup K 2 (gCons (gName 5) (gCons (gName 6) gNil))) (by rfl) scMoved.nd (RZ.pi_zipA (by rfl) mz (pa_cons (pv 3) (pa_cons (pv 1) pa_nil))) (blkOk_by (own := [("one", 5), ("other", 6)]) (N := nmMoved) (by rfl))
              (fun _ _ _ _ _ => pg_tup rfl (pgs_cons (pg_name (i := 5) scMoved.nd rfl (.inl rfl)) (pgs_cons (pg_name (i := 6) scMoved.nd rfl (.inl rfl)) pgs_nil))) (fun _ _ _ _ _ => pts_nil)
              (fun _ _ _ _ _ => pe_op op_add (pv 5) (pe_op op_mul (pv 2) (pv 6)))) pa_nil)) (pa_cons (pv 4) pa_nil)))) pa_nil))), ?_⟩
    refine ⟨.ref t, rfl, t, rfl, ⟨_, hS.sq⟩, fun D nD => ?_⟩
    refine lc_tup (xs := L.map Trm.v) (fun j H' => ∃ L' : List Trm, H' D = some (.lst (L'.map Trm.v)) ∧ RowsOk H' L' ∧ L'.map Trm.d = ((L.take j).map Trm.d).map (less ms) ∧ ∀ b o, b ≠ D → H b = some o → H' b = some o) ⟨[], upd_same, (fun r h => by cases h), by simp, fun b o hb e => by rw [upd_ne hb]; exact e⟩ (fun i H' _ h => ?_) (fun i x H1 hx h => ?_) (fun H1 h => ?_)
    · obtain ⟨_, _, _, _, kp⟩ := h
      exact .inl (.inl (kp t _ (ne_of_none hS.at_ nD) hS.at_))
    · obtain ⟨L', hD, ho, ed, kp⟩ := h
      rw [List.getElem?_map] at hx
      obtain ⟨r, hr1, rfl⟩ := Option.map_eq_some_iff.mp hx
      obtain ⟨o1, o2⟩ := hS.rows r (List.mem_of_getElem? hr1)
      have hlt := (List.getElem?_eq_some_iff.mp hr1).1
      have hrl := hlen r (List.mem_of_getElem? hr1)
      have up : ∀ {b o}, H b = some o → H1 b = some o := fun {b o} e => kp b o (ne_of_none e nD) e
      refine ⟨r.t, _, rfl, .inl (.inl (up o1)), rfl, _, _, rfl, _, _, rfl, rfl, rfl, .ref r.p, rfl, .ref p, rfl, r.p, p, _, _, rfl, .inr ⟨.inl (.inl (up o2)), .inl (.inl (up hp)), fun D2 nD2 => ?_⟩⟩
      refine lc_it (walk_zipT (xs := r.ns.map V.int) (ys := ms.map V.int) (by rw [List.length_map, List.length_map, hrl])) (fun j H' => H' D2 = some (.lst (((List.zipWith (fun a b => a + -1 * b) r.ns ms).take j).map V.int)) ∧ ∀ b o, b ≠ D2 → H1 b = some o → H' b = some o) ⟨upd_same, fun b o hb e => by rw [upd_ne hb]; exact e⟩ (fun j H' _ h => ?_) (fun j x H2 H' hj h hy => ?_) (fun H2 h => ?_)
      · exact ⟨.inl (.inl (h.2 _ _ (ne_of_none (up o2) nD2) (up o2))), .inl (.inl (h.2 _ _ (ne_of_none (up hp) nD2) (up hp)))⟩
      · obtain ⟨hD2, kp2⟩ := h
        obtain ⟨T, x1, x2, rfl, nT, rfl, e1, e2⟩ := hy
        dsimp only at e1 e2
        rw [List.getElem?_map] at e1 e2
        obtain ⟨n1, f1, rfl⟩ := Option.map_eq_some_iff.mp e1
        obtain ⟨n2, f2, rfl⟩ := Option.map_eq_some_iff.mp e2
        have hj1 := (List.getElem?_eq_some_iff.mp f1).1
        have TD : D2 ≠ T := ne_of_none hD2 nT
        refine ⟨T, _, rfl, .inl (.inl upd_same), rfl, _, _, rfl, _, _, rfl, rfl, rfl, .int n1, rfl, .int (-1), rfl, .int n2, rfl, -1, n2, rfl, rfl, .inl ⟨by decide, by decide⟩, n1, -1 * n2, rfl, rfl, _, (by rw [upd_ne TD]; exact hD2), ?_, ?_, fun b o hb e => ?_⟩
        · rw [List.length_map, List.length_take, List.length_zipWith, sizeLine_eq]
          omega
        · rw [upd_same, zip_take f1 f2, List.map_append]
          rfl
        · rw [upd_ne hb]
          exact same_new nT _ _ (kp2 b o hb e)
      · obtain ⟨hD2, kp2⟩ := h
        rw [List.length_map, List.take_of_length_le (by rw [List.length_zipWith]; omega)] at hD2
        have up2 : ∀ {b o}, H1 b = some o → H2 b = some o := fun {b o} e => kp2 b o (ne_of_none e nD2) e
        refine ⟨D2, _, rfl, .inl ⟨sqlOf hD2, fun p2 np2 => ?_⟩⟩
        refine ⟨.int r.c, rfl, size2', fun t2 nt2 => ?_⟩
        have h4 : ∀ {b o}, H1 b = some o → upd (upd H2 p2 (.tup ((List.zipWith (fun a b => a + -1 * b) r.ns ms).map V.int))) t2 (.tup [.ref p2, .int r.c]) b = some o := fun {b o} e => same_new nt2 _ _ (same_new np2 _ _ (up2 e))
        obtain ⟨g1, g2⟩ := rows_step (D := D) (t := t2) (p := p2) (ns := List.zipWith (fun a b => a + -1 * b) r.ns ms) (c := r.c) (h4 hD) (ho.keep fun b xs e => h4 e) upd_same (same_new nt2 _ _ upd_same)
        have ll : L'.length = i := by
          have := congrArg List.length ed
          simp at this
          omega
        refine ⟨_, h4 hD, (by rw [List.length_map, sizeLine_eq]; omega), _, g1, g2, ?_, fun b o hb e => ?_⟩
        · rw [List.map_append, ed, List.take_add_one, hr1, List.map_append, List.map_append]
          rfl
        · rw [upd_ne hb]
          exact h4 (kp b o hb e)
    · obtain ⟨L', hD, ho, ed, kp⟩ := h
      rw [List.length_map, List.take_length] at ed
      have sm : Same H H1 := fun b o e => kp b o (ne_of_none e nD) e
      refine ⟨D, _, rfl, .inl ⟨sqlOf hD, fun t' nt' => ?_⟩⟩
      exact q _ t' L' (sm.trans (same_new nt')) (sm.free nt') ⟨upd_same, ho.keep (same_keepT (same_new nt'))⟩ ed
/-! ### freed -/
theorem less_len {ms : List Int} {q : List Int × Int} (h : q.1.length = ms.length) : (less ms q).1.length = ms.length := by
  show (List.zipWith _ _ _).length = _
  rw [List.length_zipWith]
  omega
theorem less_lex : ∀ {ms xs ys : List Int}, xs.length = ms.length → ys.length = ms.length → HT.lexLt (List.zipWith (fun a b => a + -1 * b) xs ms) (List.zipWith (fun a b => a + -1 * b) ys ms) = HT.lexLt xs ys
  | [], [], [], _, _ => rfl
  | [], _ :: _, _, h, _ => by cases h
  | [], [], _ :: _, _, h => by cases h
  | _ :: _, [], _, h, _ => by cases h
  | _ :: _, _ :: _, [], _, h => by cases h
  | m :: ms, x :: xs, y :: ys, h1, h2 => by
    show (if x + -1 * m = y + -1 * m then HT.lexLt (List.zipWith (fun a b => a + -1 * b) xs ms) (List.zipWith (fun a b => a + -1 * b) ys ms) else decide (x + -1 * m < y + -1 * m)) = (if x = y then HT.lexLt xs ys else decide (x < y))
    rw [less_lex (Nat.succ.inj h1) (Nat.succ.inj h2)]
    by_cases e : x = y
    · subst e
      rw [if_pos rfl, if_pos rfl]
    · rw [if_neg (by omega), if_neg e]
      by_cases e2 : x < y
      · rw [decide_eq_true e2, decide_eq_true (by omega)]
      · rw [decide_eq_false e2, decide_eq_false (by omega)]
theorem Good.less {m : Nat} {D : List (List Int × Int)} {ms : List Int} (h : Good m D) (hm : ms.length = m) : Good m (D.map (less ms)) := by
  refine ⟨fun q hq => ?_, ?_⟩
  · obtain ⟨p, hp, rfl⟩ := List.mem_map.mp hq
    obtain ⟨h1, h2⟩ := h.1 p hp
    exact ⟨by rw [less_len (by omega)]; exact hm, h2⟩
  · rw [List.pairwise_map]
    refine h.2.imp_of_mem fun {x y} hx hy e => ?_
    show HT.lexLt (List.zipWith _ _ _) (List.zipWith _ _ _) = true
    rw [less_lex (by rw [(h.1 x hx).1, hm]) (by rw [(h.1 y hy).1, hm])]
    exact e

end
end NH
set_option Elab.async false
set_option linter.all false
set_option maxRecDepth 100000
namespace NH
open PySem PySem.Spec PyProof.Rows L2 R1 ZN
/-! ### dicts of terms, as data -/
abbrev Ts := List (List Int × Int)
def enc (q : List Int × Int) : List Key × V := (q.1.map Sum.inl, V.int q.2)
abbrev dZ (D : Ts) : HO := .dT (D.map enc)
def getO (D : Ts) (k : List Int) : Option Int := (D.find? fun q => decide (q.1 = k)).map (·.2)
def setD (D : Ts) (k : List Int) (v : Int) : Ts := if (D.any fun q => decide (q.1 = k)) = true then D.map (fun q => if q.1 = k then (q.1, v) else q) else D ++ [(k, v)]
theorem inl_inj {a b : List Int} : (a.map Sum.inl : List Key) = b.map Sum.inl ↔ a = b := by
  constructor
  · exact fun h => (List.map_inj_right (fun x y h => by injection h)).mp h
  · exact fun h => by rw [h]
theorem valV_enc (k : List Int) : ∀ D : Ts, valV (D.map enc) (k.map Sum.inl) = (getO D k).map V.int
  | [] => rfl
  | q :: D => by
    by_cases e : q.1 = k
    · rw [List.map_cons, valV_pos (show (enc q).1 = k.map Sum.inl by rw [← e]; rfl)]
      simp [getO, List.find?_cons, e, enc]
    · rw [List.map_cons, valV_neg (show ¬ (enc q).1 = k.map Sum.inl from fun z => e (inl_inj.mp z)), valV_enc k D]
      simp [getO, List.find?_cons, e]
theorem putK_enc (k : List Int) (v : Int) (D : Ts) : putK (D.map enc) (k.map Sum.inl) (.int v) = (setD D k v).map enc := by
  have h1 : ((D.map enc).any fun kv => decide (kv.1 = k.map Sum.inl)) = (D.any fun q => decide (q.1 = k)) := by
    rw [List.any_map]
    congr 1
    funext q
    show decide ((q.1.map Sum.inl : List Key) = k.map Sum.inl) = decide (q.1 = k)
    exact decide_eq_decide.mpr inl_inj
  unfold putK setD
  rw [h1]
  split
  · rw [List.map_map, List.map_map]
    refine List.map_congr_left fun q _ => ?_
    show (if (q.1.map Sum.inl : List Key) = k.map Sum.inl then ((q.1.map Sum.inl : List Key), V.int v) else enc q) = enc (if q.1 = k then (q.1, v) else q)
    by_cases e : q.1 = k
    · rw [if_pos (inl_inj.mpr e), if_pos e]
      rfl
    · rw [if_neg (fun z => e (inl_inj.mp z)), if_neg e]
  · rw [List.map_append]
    rfl
theorem setD_mem {D : Ts} {k : List Int} {v : Int} {q : List Int × Int} (h : q ∈ setD D k v) : (q ∈ D ∧ q.1 ≠ k) ∨ q = (k, v) := by
  unfold setD at h
  split at h
  · obtain ⟨p, hp, e⟩ := List.mem_map.mp h
    split at e
    · rename_i e2
      exact .inr (by rw [← e, e2])
    · rename_i e2
      exact .inl (e ▸ ⟨hp, e2⟩)
  · rename_i hn
    rcases List.mem_append.mp h with h | h
    · refine .inl ⟨h, fun e => hn ?_⟩
      exact List.any_eq_true.mpr ⟨q, h, decide_eq_true e⟩
    · exact .inr (List.mem_singleton.mp h)
theorem setD_len (D : Ts) (k : List Int) (v : Int) : (setD D k v).length ≤ D.length + 1 := by
  unfold setD
  split
  · rw [List.length_map]
    omega
  · rw [List.length_append]
    exact Nat.le_refl _
def NodupK (D : Ts) : Prop := (D.map (·.1)).Nodup
theorem setD_nodup {D : Ts} (k : List Int) (v : Int) (h : NodupK D) : NodupK (setD D k v) := by
  unfold NodupK setD
  split
  · rw [List.map_map]
    have : ((·.1) ∘ fun q : List Int × Int => if q.1 = k then (q.1, v) else q) = (·.1) := by
      funext q
      show (if q.1 = k then (q.1, v) else q).1 = q.1
      split <;> rfl
    rw [this]
    exact h
  · rename_i hn
    rw [List.map_append, List.nodup_append]
    refine ⟨h, by simp, fun a ha b hb e => hn ?_⟩
    obtain ⟨q, hq, rfl⟩ := List.mem_map.mp ha
    have : b = k := by simpa using hb
    exact List.any_eq_true.mpr ⟨q, hq, decide_eq_true (by rw [e, this])⟩
theorem getO_mem {k : List Int} {v : Int} : ∀ {D : Ts}, NodupK D → (getO D k = some v ↔ (k, v) ∈ D)
  | [], _ => by simp [getO]
  | q :: D, h => by
    have h' := List.nodup_cons.mp h
    by_cases e : q.1 = k
    · have : getO (q :: D) k = some q.2 := by simp [getO, List.find?_cons, e]
      rw [this]
      constructor
      · intro z
        have z := Option.some.inj z
        have : q = (k, v) := by rw [← e, ← z]
        rw [this]
        exact List.mem_cons_self
      · intro z
        rcases List.mem_cons.mp z with z | z
        · rw [← z]
        · exact absurd (List.mem_map.mpr ⟨_, z, e.symm⟩) h'.1
    · have : getO (q :: D) k = getO D k := by simp [getO, List.find?_cons, e]
      rw [this, getO_mem h'.2]
      constructor
      · exact fun z => List.mem_cons_of_mem _ z
      · intro z
        rcases List.mem_cons.mp z with z | z
        · exact absurd (by rw [← z]) e
        · exact z
theorem getO_any (k : List Int) : ∀ D : Ts, (D.any fun q => decide (q.1 = k)) = (getO D k).isSome
  | [] => rfl
  | q :: D => by
    rw [List.any_cons]
    by_cases e : q.1 = k
    · simp [getO, List.find?_cons, e]
    · rw [decide_eq_false e, Bool.false_or, getO_any k D]
      simp [getO, List.find?_cons, e]
theorem getO_set (D : Ts) (k j : List Int) (v : Int) : getO (setD D k v) j = if j = k then some v else getO D j := by
  have h := valV_put (D.map enc) (k.map Sum.inl) (j.map Sum.inl) (.int v)
  rw [putK_enc, valV_enc, valV_enc] at h
  by_cases e : j = k
  · rw [if_pos (inl_inj.mpr e)] at h
    rw [if_pos e]
    cases q : getO (setD D k v) j with
    | none => rw [q] at h; cases h
    | some x =>
      rw [q] at h
      have := Option.some.inj h
      injection this with this
      rw [this]
  · rw [if_neg (fun z => e (inl_inj.mp z))] at h
    rw [if_neg e]
    cases q : getO (setD D k v) j with
    | none =>
      rw [q] at h
      cases q2 : getO D j with
      | none => rfl
      | some x => rw [q2] at h; cases h
    | some x =>
      rw [q] at h
      cases q2 : getO D j with
      | none => rw [q2] at h; cases h
      | some y =>
        rw [q2] at h
        have := Option.some.inj h
        injection this with this
        rw [this]
/-- the coefficient at powers, 0 where none stands -/
def val (D : Ts) (k : List Int) : Int := (getO D k).getD 0
def addD (D : Ts) (k : List Int) (c : Int) : Ts := setD D k (val D k + c)
theorem val_add (D : Ts) (k j : List Int) (c : Int) : val (addD D k c) j = val D j + if j = k then c else 0 := by
  unfold val addD
  rw [getO_set]
  by_cases e : j = k
  · subst e
    simp [val]
  · simp [e]
/-- all terms of W, their powers by z, added -/
def gather (z : List Int → List Int) : Ts → Ts → Ts
  | A, [] => A
  | A, q :: W => gather z (addD A (z q.1) q.2) W
def tot (z : List Int → List Int) (j : List Int) : Ts → Int
  | [] => 0
  | q :: W => (if j = z q.1 then q.2 else 0) + tot z j W
theorem val_gather (z : List Int → List Int) (j : List Int) : ∀ (W A : Ts), val (gather z A W) j = val A j + tot z j W
  | [], A => by simp [gather, tot]
  | q :: W, A => by
    rw [gather, val_gather z j W, val_add, tot]
    omega
theorem tot_perm (z : List Int → List Int) (j : List Int) {V W : Ts} (h : V.Perm W) : tot z j V = tot z j W := by
  induction h with
  | nil => rfl
  | cons x _ ih => simp only [tot, ih]
  | swap x y l => simp only [tot]; omega
  | trans _ _ h1 h2 => rw [h1, h2]
theorem gather_snoc (z : List Int → List Int) (q : List Int × Int) : ∀ (W A : Ts), gather z A (W ++ [q]) = addD (gather z A W) (z q.1) q.2
  | [], A => rfl
  | p :: W, A => by
    show gather z (addD A (z p.1) p.2) (W ++ [q]) = _
    rw [gather_snoc z q W]
    rfl
theorem gather_nodup (z : List Int → List Int) : ∀ (W A : Ts), NodupK A → NodupK (gather z A W)
  | [], _, h => h
  | q :: W, A, h => gather_nodup z W _ (setD_nodup _ _ h)
theorem gather_len (z : List Int → List Int) : ∀ (W A : Ts), (gather z A W).length ≤ A.length + W.length
  | [], _ => Nat.le_refl _
  | q :: W, A => by
    have := gather_len z W (addD A (z q.1) q.2)
    have h2 := setD_len A (z q.1) (val A (z q.1) + q.2)
    rw [gather]
    show _ ≤ A.length + (W.length + 1)
    unfold addD at this
    unfold addD
    omega
theorem gather_keys {z : List Int → List Int} {m : Nat} : ∀ (W A : Ts), (∀ q ∈ A, q.1.length = m) → (∀ q ∈ W, (z q.1).length = m) → ∀ q ∈ gather z A W, q.1.length = m
  | [], _, h, _ => h
  | p :: W, A, h, h2 => gather_keys W _ (fun q hq => by
      rcases setD_mem hq with ⟨hq, _⟩ | rfl
      · exact h q hq
      · exact h2 p List.mem_cons_self) fun q hq => h2 q (List.mem_cons_of_mem _ hq)
/-! ### the sum that a dict stands for -/
structure Norm (D E : Ts) : Prop where
  sorted : E.Pairwise fun x y => HT.lexLt x.1 y.1 = true
  mem : ∀ q, q ∈ E ↔ q ∈ D ∧ q.2 ≠ 0
theorem lex_ne {a b : List Int} (h : HT.lexLt a b = true) : a ≠ b := fun e => by
  subst e
  rw [lex_irrefl] at h
  cases h
theorem sorted_ext : ∀ {E F : Ts}, E.Pairwise (fun x y => HT.lexLt x.1 y.1 = true) → F.Pairwise (fun x y => HT.lexLt x.1 y.1 = true) → (∀ q, q ∈ E ↔ q ∈ F) → E = F
  | [], [], _, _, _ => rfl
  | [], q :: F, _, _, h => absurd ((h q).mpr List.mem_cons_self) (by simp)
  | q :: E, [], _, _, h => absurd ((h q).mp List.mem_cons_self) (by simp)
  | p :: E, q :: F, h1, h2, h => by
    obtain ⟨a1, a2⟩ := List.pairwise_cons.mp h1
    obtain ⟨b1, b2⟩ := List.pairwise_cons.mp h2
    have e : p = q := by
      rcases List.mem_cons.mp ((h p).mp List.mem_cons_self) with e | hp
      · exact e
      · rcases List.mem_cons.mp ((h q).mpr List.mem_cons_self) with e | hq
        · exact e.symm
        · have x1 := b1 p hp
          have x2 := lex_asym _ _ (a1 q hq)
          rw [x1] at x2
          cases x2
    subst e
    congr 1
    refine sorted_ext a2 b2 fun r => ⟨fun hr => ?_, fun hr => ?_⟩
    · rcases List.mem_cons.mp ((h r).mp (List.mem_cons_of_mem _ hr)) with e | hr'
      · exact absurd (by rw [e]) (lex_ne (a1 r hr))
      · exact hr'
    · rcases List.mem_cons.mp ((h r).mpr (List.mem_cons_of_mem _ hr)) with e | hr'
      · exact absurd (by rw [e]) (lex_ne (b1 r hr))
      · exact hr'
theorem val_mem {D : Ts} (h : NodupK D) (q : List Int × Int) : (q ∈ D ∧ q.2 ≠ 0) ↔ (val D q.1 = q.2 ∧ q.2 ≠ 0) := by
  unfold val
  constructor
  · rintro ⟨h1, h2⟩
    rw [(getO_mem h).mpr h1]
    exact ⟨rfl, h2⟩
  · rintro ⟨h1, h2⟩
    cases e : getO D q.1 with
    | none =>
      rw [e] at h1
      exact absurd h1.symm h2
    | some x =>
      rw [e] at h1
      have h1 : x = q.2 := h1
      subst h1
      exact ⟨(getO_mem h).mp e, h2⟩
theorem Norm.unique {A B E F : Ts} (hA : NodupK A) (hB : NodupK B) (h : ∀ k, val A k = val B k) (x : Norm A E) (y : Norm B F) : E = F :=
  sorted_ext x.sorted y.sorted fun q => by rw [x.mem, y.mem, val_mem hA, val_mem hB, h]
theorem lex_total : ∀ {a b : List Int}, a.length = b.length → HT.lexLt a b = false → HT.lexLt b a = false → a = b
  | [], [], _, _, _ => rfl
  | [], _ :: _, h, _, _ => by cases h
  | _ :: _, [], h, _, _ => by cases h
  | x :: a, y :: b, h, h1, h2 => by
    rw [HT.lexLt_cons] at h1 h2
    by_cases e : x = y
    · subst e
      rw [if_pos rfl] at h1 h2
      rw [lex_total (Nat.succ.inj h) h1 h2]
    · rw [if_neg e] at h1
      rw [if_neg (fun z => e z.symm)] at h2
      have h1 := of_decide_eq_false h1
      have h2 := of_decide_eq_false h2
      omega
theorem Norm.good {D E : Ts} {m : Nat} (x : Norm D E) (h : ∀ q ∈ D, q.1.length = m) : Good m E := ⟨fun q hq => by
  obtain ⟨a, b⟩ := (x.mem q).mp hq
  exact ⟨h q a, b⟩, x.sorted⟩
/-- the terms of a dict, those of 0 left out, sorted -/
theorem norm_of {D E : Ts} {m : Nat} (hD : NodupK D) (hm : ∀ q ∈ D, q.1.length = m) (hp : E.Perm (D.filter fun q => decide (q.2 ≠ 0))) (hs : E.Pairwise fun x y => HT.lexLt y.1 x.1 = false) : Norm D E := by
  have mem : ∀ q, q ∈ E ↔ q ∈ D ∧ q.2 ≠ 0 := fun q => by
    rw [hp.mem_iff, List.mem_filter, decide_eq_true_eq]
  have nd : (E.map (·.1)).Nodup := (hp.map _).nodup_iff.mpr (List.Nodup.sublist (List.Sublist.map _ List.filter_sublist) hD)
  refine ⟨?_, mem⟩
  have nd2 : E.Pairwise fun x y => x.1 ≠ y.1 := List.pairwise_map.mp nd
  refine (hs.and nd2).imp_of_mem fun {x y} hx hy h => ?_
  cases e : HT.lexLt x.1 y.1 with
  | true => rfl
  | false => exact absurd (lex_total (by rw [hm x ((mem x).mp hx).1, hm y ((mem y).mp hy).1]) e h.1) h.2
end NH
set_option Elab.async false
set_option linter.all false
set_option maxRecDepth 100000
namespace NH
open PySem PySem.Spec PyProof.Rows L2 R1 ZN
def nz (q : List Int × Int) : Bool := decide (q.2 ≠ 0)
theorem filter_step {D : Ts} {i : Nat} {q : List Int × Int} (h : D[i]? = some q) : (D.take (i + 1)).filter nz = (D.take i).filter nz ++ if q.2 = 0 then [] else [q] := by
  rw [List.take_add_one, h, List.filter_append]
  congr 1
  show List.filter nz [q] = _
  by_cases e : q.2 = 0
  · rw [if_pos e]
    simp [nz, e]
  · rw [if_neg e]
    simp [nz, e]
theorem lexP_lt {p q : List Int × Int} (hl : p.1.length = q.1.length) (h : lexP p q = false) : HT.lexLt p.1 q.1 = false := by
  unfold lexP at h
  rw [lex_app _ _ hl] at h
  by_cases e : p.1 = q.1
  · rw [e, lex_irrefl]
  · rw [if_neg e] at h
    exact h
theorem rows_len {L : List Trm} {D : Ts} (h : L.map Trm.d = D) : L.length = D.length := by rw [← h, List.length_map]
section
variable {P : Program} {w : World} {K : PySem.W.Frag} {mg : Str → Option Value} {base : Heap}
/-- a dict of terms of m letters at d -/
structure DictAt (H : Hp) (d : Addr) (m : Nat) (D : Ts) : Prop where
  at_ : H d = some (dZ D)
  nodup : NodupK D
  len : ∀ q ∈ D, q.1.length = m
theorem DictAt.same {H H' : Hp} {d : Addr} {m : Nat} {D : Ts} (h : DictAt H d m D) (s : Same H H') : DictAt H' d m D := ⟨s _ _ h.at_, h.nodup, h.len⟩
theorem DictAt.get {H : Hp} {d b : Addr} {m : Nat} {D : Ts} {k : List Int} (h : Rd H d (dZ D)) (hb : H b = some (.tup (k.map V.int))) : DGet H d (.ref b) ((getO D k).map V.int) :=
  .inr ⟨D.map enc, k.map Sum.inl, b, h, rfl, by rw [map_kV]; exact hb, (valV_enc k D).symm⟩
end
end NH
set_option Elab.async false
set_option linter.all false
set_option maxRecDepth 100000
namespace NH
open PySem PySem.Spec PyProof.Rows L2 R1 ZN
/-- the same data at both, up to so many levels -/
inductive Sm (H : Hp) : Nat → V → V → Prop
  | int {n : Nat} (i : Int) : Sm H n (.int i) (.int i)
  | tup {n : Nat} {a b : Addr} {xs ys : List V} (h1 : H a = some (.tup xs)) (h2 : H b = some (.tup ys)) (hl : xs.length = ys.length) (hz : xs.length ≤ 4000) (h : ∀ (j : Nat) (x y : V), xs[j]? = some x → ys[j]? = some y → Sm H n x y) : Sm H (n + 1) (.ref a) (.ref b)
  | lst {n : Nat} {a b : Addr} {xs ys : List V} (h1 : H a = some (.lst xs)) (h2 : H b = some (.lst ys)) (hl : xs.length = ys.length) (hz : xs.length ≤ 4000) (h : ∀ (j : Nat) (x y : V), xs[j]? = some x → ys[j]? = some y → Sm H n x y) : Sm H (n + 1) (.ref a) (.ref b)
theorem Sm.same {H H' : Hp} {n : Nat} {x y : V} (h : Sm H n x y) (s : Same H H') : Sm H' n x y := by
  induction h with
  | int i => exact .int i
  | tup h1 h2 hl hz _ ih => exact .tup (s _ _ h1) (s _ _ h2) hl hz ih
  | lst h1 h2 hl hz _ ih => exact .lst (s _ _ h1) (s _ _ h2) hl hz ih
theorem isi {K : PySem.W.Frag} {H : Hp} {x : V} {T : String} {b : Bool} {Q : VK} (ty : TyOf K H x (.type T)) (C : String) (e : kitB T C = some b) (q : Q (.bl b) H) : rIsi K [x, .ty C] H Q := ⟨x, .ty C, _, _, b, rfl, .ty C, .base ty, kit_ty e, q⟩
def spSame : Nat → Sp
  | 0 => fun _ _ _ _ => False
  | n + 1 => fun vs H Q _ => ∃ x y, vs = [x, y] ∧ Sm H n x y ∧ ∀ H', Same H H' → Q (.bl true) H'
abbrev nmSame : List Str := ["_law_told", "_law_due", "_law_one", "_law_other"]
theorem scSame : FnScope nmSame ["_law_told", "_law_due"] (defScope sSame) := ⟨rfl, rfl, rfl, by decide +kernel, rfl, by decide +kernel, by decide +kernel⟩
section
variable {P : Program} {w : World} {K : PySem.W.Frag} {mg : Str → Option Value} {base : Heap}
theorem ok_same {f : Addr} {fd : FuncData} {k : Nat} (F : Fun K "_law_same" "_law_same" sSame f fd) (bF : Binds K fd ["_law_told", "_law_due"] []) (gF : mg "_law_same" = some (.ref f)) (ms : mg "isinstance" = none) (mb : mg "bool" = none) (mi : mg "int" = none) (mst : mg "str" = none) (ml : mg "list" = none) (mt : mg "tuple" = none) (me : mg "len" = none) (mz : mg "zip" = none) :
    ∀ n, FnOk P w K mg base CX0 (k + 1 + n) f fd ["_law_told", "_law_due"] (spSame n)
  | 0 => F.ok scSame (fun vs H Q E h => h.elim) (fun cdv A outer s H vs Q E hr h => h.elim)
  | n + 1 => by
    have G : FnOk P w K mg base CX0 (k + 1 + n) f fd ["_law_told", "_law_due"] (spSame n) := ok_same F bF gF ms mb mi mst ml mt me mz n
    refine F.ok scSame (fun vs H Q E h => ?_) (fun cdv A outer s H vs Q E hr h => ?_)
    · obtain ⟨x, y, rfl, _⟩ := h
      rfl
    · obtain ⟨x, y, rfl, hS, q⟩ := h
      refine ⟨_, pss_cons (ps_if (pt_cmp (pc_isN (pv 1))) pss_never pss_nil)
        (pss_cons (ps_if (pt_val (pe_callB call_isi (by rfl) ms (by decide +kernel) (pa_cons (pv 1) (pa_cons (pe_bltn (v := .ty "bool") (by rfl) mb (by decide +kernel) rfl) pa_nil)))) pss_never pss_nil)
        (pss_cons (ps_if (pt_val (pe_callB call_isi (by rfl) ms (by decide +kernel) (pa_cons (pv 1) (pa_cons (pe_bltn (v := .ty "int") (by rfl) mi (by decide +kernel) rfl) pa_nil))))
          (pss_one (ps_ret (pe_and (pe_callB call_isi (by rfl) ms (by decide +kernel) (pa_cons (pv 0) (pa_cons (pe_bltn (v := .ty "int") (by rfl) mi (by decide +kernel) rfl) pa_nil)))
            (pe_and (pe_not (pe_callB call_isi (by rfl) ms (by decide +kernel) (pa_cons (pv 0) (pa_cons (pe_bltn (v := .ty "bool") (by rfl) mb (by decide +kernel) rfl) pa_nil)))) (pe_one (pe_cmpR op_eq (pv 0) (pv 1) (nomark _))))))) pss_nil)
        (pss_cons (ps_if (pt_val (pe_callB call_isi (by rfl) ms (by decide +kernel) (pa_cons (pv 1) (pa_cons (pe_bltn (v := .ty "str") (by rfl) mst (by decide +kernel) rfl) pa_nil)))) pss_never pss_nil)
        (pss_cons (ps_if (PW.pt (pw_or (pt_cmpR op_ne (pe_callB call_isi (by rfl) ms (by decide +kernel) (pa_cons (pv 1) (pa_cons (pe_bltn (v := .ty "list") (by rfl) ml (by decide +kernel) rfl) pa_nil))) (pe_callB call_isi (by rfl) ms (by decide +kernel) (pa_cons (pv 0) (pa_cons (pe_bltn (v := .ty "list") (by rfl) ml (by decide +kernel) rfl) pa_nil))) (nomark _))
            (pw_or1 (pt_cmpR op_ne (pe_callB call_isi (by rfl) ms (by decide +kernel) (pa_cons (pv 1) (pa_cons (pe_bltn (v := .ty "tuple") (by rfl) mt (by decide +kernel) rfl) pa_nil))) (pe_callB call_isi (by rfl) ms (by decide +kernel) (pa_cons (pv 0) (pa_cons (pe_bltn (v := .ty "tuple") (by rfl) mt (by decide +kernel) rfl) pa_nil))) (nomark _))))) pss_never pss_nil)
        (pss_cons (ps_if (PW.pt (pw_or (pt_not (pt_val (pe_callB call_isiT (by rfl) ms (by decide +kernel) (pa_cons (pv 0) (pa_cons (pe_tup (pa_cons (pe_bltn (v := .ty "list") (by rfl) ml (by decide +kernel) rfl) (pa_cons (pe_bltn (v := .ty "tuple") (by rfl) mt (by decide +kernel) rfl) pa_nil))) pa_nil)))))
            (pw_or1 (pt_cmpR op_ne (pe_callB call_len_seq (by rfl) me PySem.boot_len (pa_cons (pv 0) pa_nil)) (pe_callB call_len_seq (by rfl) me PySem.boot_len (pa_cons (pv 1) pa_nil)) (nomark _))))) pss_never pss_nil)
        (pss_cons (ps_for PassesOwn.never rfl (RZ.pi_zipA (by rfl) mz (pa_cons (pv 0) (pa_cons (pv 1) pa_nil))) (pg_tup rfl (pgs_cons (pg_name (i := 2) scSame.nd rfl (.inl rfl)) (pgs_cons (pg_name (i := 3) scSame.nd rfl (.inl rfl)) pgs_nil)))
          (pss_one (ps_if (pt_not (pt_val (pe_call G hr (by rfl) gF F.kp bF .nil pass0 (pa_cons (pv 2) (pa_cons (pv 3) pa_nil))))) pss_never pss_nil)))
        (pss_one (ps_ret pe_bl)))))))), ?_⟩
      cases hS with
      | int i =>
        refine ⟨.int i, rfl, _, rfl, ite2 (fun e => absurd (of_decide_eq_true e) (by simp)) (fun _ => ?_)⟩
        refine ⟨.int i, rfl, .int i, .ty "bool", _, _, false, rfl, .ty "bool", .base (.int i), kit_ty (by decide +kernel), _, rfl, iteF ?_⟩
        refine ⟨.int i, rfl, .int i, .ty "int", _, _, true, rfl, .ty "int", .base (.int i), kit_ty (by decide +kernel), _, rfl, iteT ?_⟩
        refine ⟨.int i, rfl, .int i, .ty "int", _, _, true, rfl, .ty "int", .base (.int i), kit_ty (by decide +kernel), _, rfl, iteT ?_⟩
        refine ⟨.int i, rfl, .int i, .ty "bool", _, _, false, rfl, .ty "bool", .base (.int i), kit_ty (by decide +kernel), _, rfl, _, rfl, iteT ?_⟩
        refine ⟨.int i, rfl, .int i, rfl, rfl, ?_⟩
        rw [decide_eq_true rfl]
        exact q _ (Same.refl _)
      | @tup n' a b xs ys h1 h2 hl hz h =>
        refine ⟨.ref b, rfl, _, rfl, ite2 (fun e => absurd (of_decide_eq_true e) (by simp)) (fun _ => ?_)⟩
        refine ⟨.ref b, rfl, .ref b, .ty "bool", _, _, false, rfl, .ty "bool", .base (.tup h2), kit_ty (by decide +kernel), _, rfl, iteF ?_⟩
        refine ⟨.ref b, rfl, .ref b, .ty "int", _, _, false, rfl, .ty "int", .base (.tup h2), kit_ty (by decide +kernel), _, rfl, iteF ?_⟩
        refine ⟨.ref b, rfl, .ref b, .ty "str", _, _, false, rfl, .ty "str", .base (.tup h2), kit_ty (by decide +kernel), _, rfl, iteF ?_⟩
        refine ⟨.ref b, rfl, .ref b, .ty "list", _, _, false, rfl, .ty "list", .base (.tup h2), kit_ty (by decide +kernel), .ref a, rfl, .ref a, .ty "list", _, _, false, rfl, .ty "list", .base (.tup h1), kit_ty (by decide +kernel), rfl, _, rfl, ite2 (fun e => absurd e (by decide)) (fun _ => ?_)⟩
        refine ⟨.ref b, rfl, .ref b, .ty "tuple", _, _, true, rfl, .ty "tuple", .base (.tup h2), kit_ty (by decide +kernel), .ref a, rfl, .ref a, .ty "tuple", _, _, true, rfl, .ty "tuple", .base (.tup h1), kit_ty (by decide +kernel), rfl, _, rfl, ite2 (fun e => absurd e (by decide)) (fun _ => ?_)⟩
        refine ⟨.ref a, rfl, size2', fun p np => ?_⟩
        have s1 : Same H (upd H p (.tup [.ty "list", .ty "tuple"])) := same_new np
        refine ⟨.ref a, p, _, _, _, true, rfl, upd_same, .cons (.ty "list") (.cons (.ty "tuple") .nil), .base (.tup (s1 _ _ h1)), kitAny_cons (b := false) (kit_ty (by decide +kernel)) (fun _ => kitAny_cons (b := true) (kit_ty (by decide +kernel)) (fun h => by cases h) (fun _ => rfl)) (fun h => by cases h), _, rfl, iteF ?_⟩
        refine ⟨.ref a, rfl, a, _, rfl, .inr (.inl (.inl (s1 _ _ h1))), .ref b, rfl, b, _, rfl, .inr (.inl (.inl (s1 _ _ h2))), rfl, _, rfl, ite2 (fun e => ?_) (fun _ => ?_)⟩
        · rw [hl] at e
          simp at e
        refine ⟨.ref a, rfl, .ref b, rfl, a, b, xs, ys, rfl, .inr ⟨(.inl (.inl (s1 _ _ h1))), (.inl (.inl (s1 _ _ h2))), for_it (walk_zipT (K := K) (a := a) (b := b) (xs := xs) (ys := ys) hl) (fun i σ H' => ∃ y2 y3, σ = [some (.ref a), some (.ref b), y2, y3] ∧ Same H H') ⟨none, none, rfl, s1⟩ (fun i σ H' _ h' => ?_) (fun i x σ H1 H' hi h' hy => ?_) (fun σ H' h' => ?_)⟩⟩
        · obtain ⟨y2, y3, rfl, sm⟩ := h'
          exact ⟨(.inl (.inl (sm _ _ h1))), (.inl (.inl (sm _ _ h2)))⟩
        · obtain ⟨y2, y3, rfl, sm⟩ := h'
          obtain ⟨T, x1, x2, rfl, nT, rfl, e1, e2⟩ := hy
          have sm2 := sm.trans (same_new (o := .tup [x1, x2]) nT)
          refine ⟨T, _, rfl, .inl (.inl upd_same), rfl, _, _, rfl, _, _, rfl, rfl, x1, rfl, x2, rfl, x1, x2, rfl, (h i x1 x2 e1 e2).same sm2, fun H3 s3 => ⟨true, rfl, iteF ⟨_, _, rfl, sm2.trans s3⟩⟩⟩
        · obtain ⟨y2, y3, rfl, sm⟩ := h'
          exact q _ sm
      | @lst n' a b xs ys h1 h2 hl hz h =>
        refine ⟨.ref b, rfl, _, rfl, ite2 (fun e => absurd (of_decide_eq_true e) (by simp)) (fun _ => ?_)⟩
        refine ⟨.ref b, rfl, .ref b, .ty "bool", _, _, false, rfl, .ty "bool", .base (.lst h2), kit_ty (by decide +kernel), _, rfl, iteF ?_⟩
        refine ⟨.ref b, rfl, .ref b, .ty "int", _, _, false, rfl, .ty "int", .base (.lst h2), kit_ty (by decide +kernel), _, rfl, iteF ?_⟩
        refine ⟨.ref b, rfl, .ref b, .ty "str", _, _, false, rfl, .ty "str", .base (.lst h2), kit_ty (by decide +kernel), _, rfl, iteF ?_⟩
        refine ⟨.ref b, rfl, .ref b, .ty "list", _, _, true, rfl, .ty "list", .base (.lst h2), kit_ty (by decide +kernel), .ref a, rfl, .ref a, .ty "list", _, _, true, rfl, .ty "list", .base (.lst h1), kit_ty (by decide +kernel), rfl, _, rfl, ite2 (fun e => absurd e (by decide)) (fun _ => ?_)⟩
        refine ⟨.ref b, rfl, .ref b, .ty "tuple", _, _, false, rfl, .ty "tuple", .base (.lst h2), kit_ty (by decide +kernel), .ref a, rfl, .ref a, .ty "tuple", _, _, false, rfl, .ty "tuple", .base (.lst h1), kit_ty (by decide +kernel), rfl, _, rfl, ite2 (fun e => absurd e (by decide)) (fun _ => ?_)⟩
        refine ⟨.ref a, rfl, size2', fun p np => ?_⟩
        have s1 : Same H (upd H p (.tup [.ty "list", .ty "tuple"])) := same_new np
        refine ⟨.ref a, p, _, _, _, true, rfl, upd_same, .cons (.ty "list") (.cons (.ty "tuple") .nil), .base (.lst (s1 _ _ h1)), kitAny_cons (b := true) (kit_ty (by decide +kernel)) (fun h => by cases h) (fun _ => rfl), _, rfl, iteF ?_⟩
        refine ⟨.ref a, rfl, a, _, rfl, .inl (sqlOf (s1 _ _ h1)), .ref b, rfl, b, _, rfl, .inl (sqlOf (s1 _ _ h2)), rfl, _, rfl, ite2 (fun e => ?_) (fun _ => ?_)⟩
        · rw [hl] at e
          simp at e
        refine ⟨.ref a, rfl, .ref b, rfl, a, b, xs, ys, rfl, .inl ⟨(sqlOf (s1 _ _ h1)), (sqlOf (s1 _ _ h2)), for_it (walk_zip (K := K) (a := a) (b := b) (xs := xs) (ys := ys) (n := xs.length) (by omega)) (fun i σ H' => ∃ y2 y3, σ = [some (.ref a), some (.ref b), y2, y3] ∧ Same H H') ⟨none, none, rfl, s1⟩ (fun i σ H' _ h' => ?_) (fun i x σ H1 H' hi h' hy => ?_) (fun σ H' h' => ?_)⟩⟩
        · obtain ⟨y2, y3, rfl, sm⟩ := h'
          exact ⟨(sqlOf (sm _ _ h1)), (sqlOf (sm _ _ h2))⟩
        · obtain ⟨y2, y3, rfl, sm⟩ := h'
          obtain ⟨T, x1, x2, rfl, nT, rfl, e1, e2⟩ := hy
          have sm2 := sm.trans (same_new (o := .tup [x1, x2]) nT)
          refine ⟨T, _, rfl, .inl (.inl upd_same), rfl, _, _, rfl, _, _, rfl, rfl, x1, rfl, x2, rfl, x1, x2, rfl, (h i x1 x2 e1 e2).same sm2, fun H3 s3 => ⟨true, rfl, iteF ⟨_, _, rfl, sm2.trans s3⟩⟩⟩
        · obtain ⟨y2, y3, rfl, sm⟩ := h'
          exact q _ sm
end
end NH
set_option Elab.async false
set_option linter.all false
set_option maxRecDepth 100000
namespace NH
open PySem PySem.Spec PyProof.Rows L2 R1 ZN
theorem dI_dZ (D : Ts) : dI (D.map fun q => (q.1, V.int q.2)) = dZ D := by
  show HO.dT _ = HO.dT _
  rw [List.map_map]
  rfl
section
variable {P : Program} {w : World} {K : PySem.W.Frag} {mg : Str → Option Value} {base : Heap}
/-! ### written -/
def spWritten : Sp := fun vs H Q _ => ∃ (d : Addr) (m : Nat) (D : Ts), vs = [.ref d] ∧ DictAt H d m D ∧ 0 < m ∧ D.length ≤ 4000 ∧
  ∀ H' (t : Addr) (L : List Trm), Same H H' → H t = none → SumAt H' t L → Norm D (L.map Trm.d) → L.length ≤ D.length → Q (.ref t) H'
abbrev nmWritten : List Str := ["_law_terms_here", "_law_powers"]
theorem scWritten : FnScope nmWritten ["_law_terms_here"] (defScope sWritten) := ⟨rfl, rfl, rfl, by decide +kernel, rfl, by decide +kernel, by decide +kernel⟩
theorem ok_written {f : Addr} {fd : FuncData} {k : Nat} (F : Fun K "_law_written" "_law_written" sWritten f fd) (mt : mg "tuple" = none) (mo : mg "sorted" = none) : FnOk P w K mg base CX0 (k + 1) f fd ["_law_terms_here"] spWritten := by
  refine F.ok scWritten (fun vs H Q E h => ?_) (fun cdv A outer s H vs Q E hr h => ?_)
  · obtain ⟨d, m, D, rfl, _⟩ := h
    rfl
  · obtain ⟨d, m, T, rfl, hT, hm0, hTl, q⟩ := h
    have hu := hu_of hr
    refine ⟨_, pss_one (ps_ret (pe_callTy call_tuple_of (by rfl) mt (by decide +kernel) (pa_cons (pe_lc (own := [("_law_powers", 1)]) (g := gName 1) (tt := tTest (tOp rNe (tDGet (tVar 0) (tVar 1)) (tC (.int 0)))) (by rfl) scWritten.nd (pi_list (pe_callB (cr_sortedDT rfl) (by rfl) mo (by decide +kernel) (pa_cons (pv 0) pa_nil))) (blkOk_by (own := [("_law_powers", 1)]) (N := nmWritten) (sc := defScope sWritten) (by decide +kernel))
        (fun _ _ _ _ _ => pg_name (i := 1) scWritten.nd rfl (.inl rfl)) (fun _ _ _ _ _ => pts_one (pt_cmpR op_ne (pe_dget hu (pv 0) (pv 1) (fun _ _ => rfl)) pe_int (nomark _)))
        (fun _ _ _ _ _ => pe_tup (pa_cons (pv 1) (pa_cons (pe_dget hu (pv 0) (pv 1) (fun _ _ => rfl)) pa_nil)))) pa_nil))), ?_⟩
    refine ⟨.ref d, rfl, d, T.map fun q => (q.1, V.int q.2), rfl, .inl (by rw [dI_dZ]; exact hT.at_), (fun p hp => ?_), fun ks p perm srt kt np => ?_⟩
    · obtain ⟨q1, hq, rfl⟩ := List.mem_map.mp hp
      intro z
      have := hT.len q1 hq
      have z : q1.1 = [] := z
      rw [z] at this
      simp at this
      omega
    have perm2 : (ks.map (·.2)).Perm (T.map (·.1)) := by
      rw [List.map_map] at perm
      exact perm
    have s1 : Same H (upd H p (.lst (ks.map fun q => V.ref q.1))) := same_new np
    refine ⟨p, rfl, ⟨_, sqlOf upd_same⟩, fun E nE => ?_⟩
    have hp1 : upd H p (.lst (ks.map fun q => V.ref q.1)) p = some (.lst (ks.map fun q => V.ref q.1)) := upd_same
    have pE : p ≠ E := ne_of_none hp1 nE
    have kl : ks.length = T.length := by
      have := perm2.length_eq
      rw [List.length_map, List.length_map] at this
      exact this
    -- a key with its coefficient
    let tk : Addr × List Int → List Int × Int := fun g => (g.2, val T g.2)
    have htk : ∀ g ∈ ks, (g.2, val T g.2) ∈ T := fun g hg => by
      have : g.2 ∈ T.map (·.1) := perm2.mem_iff.mp (List.mem_map_of_mem hg)
      obtain ⟨q1, hq, e⟩ := List.mem_map.mp this
      have : getO T g.2 = some q1.2 := (getO_mem hT.nodup).mpr (by rw [← e]; exact hq)
      have e2 : (g.2, val T g.2) = q1 := by
        unfold val
        rw [this, ← e]
        rfl
      rw [e2]
      exact hq
    refine lc_list (xs := ks.map fun q => V.ref q.1) (fun i H' => ∃ L : List Trm, H' E = some (.lst (L.map Trm.v)) ∧ RowsOk H' L ∧ L.map Trm.d = ((ks.map tk).take i).filter nz ∧ But E (upd H p (.lst (ks.map fun q => V.ref q.1))) H') ⟨[], upd_same, (fun r h => by cases h), by simp, But.start⟩ (fun i H' _ h => ?_) (fun i x H1 hx h => ?_) (fun H1 h => ?_)
    · obtain ⟨_, _, _, _, kp⟩ := h
      exact sqlOf (kp p _ pE hp1)
    · obtain ⟨L, hE, ho, ed, kp⟩ := h
      rw [List.getElem?_map] at hx
      obtain ⟨g, hg, rfl⟩ := Option.map_eq_some_iff.mp hx
      have hgm := List.mem_of_getElem? hg
      have up : ∀ {b o}, H b = some o → H1 b = some o := fun {b o} e => kp.at_ nE (s1 _ _ e)
      have hgk : H1 g.1 = some (.tup (g.2.map V.int)) := up (kt g hgm)
      have hf1 : (ks.map tk)[i]? = some (g.2, val T g.2) := by
        rw [List.getElem?_map, hg]
        rfl
      have hget : DGet H1 d (.ref g.1) (some (.int (val T g.2))) := by
        have := DictAt.get (D := T) (k := g.2) (m := m) (.inl (up hT.at_)) hgk
        rw [(getO_mem hT.nodup).mpr (htk g hgm)] at this
        exact this
      refine ⟨rfl, .ref d, rfl, .ref g.1, rfl, d, .int (val T g.2), rfl, hget, rfl, _, rfl, ?_⟩
      by_cases hz : val T g.2 = 0
      · rw [hz]
        exact iteF ⟨L, hE, ho, by rw [filter_step hf1, if_pos hz, List.append_nil]; exact ed, kp⟩
      · have : (!decide (V.int (val T g.2) = V.int 0)) = true := by simp [hz]
        rw [this]
        refine iteT ⟨.ref g.1, rfl, .ref d, rfl, .ref g.1, rfl, d, .int (val T g.2), rfl, hget, size2', fun t nt => ?_⟩
        have sm : Same H1 (upd H1 t (.tup [.ref g.1, .int (val T g.2)])) := same_new nt
        obtain ⟨g1, g2⟩ := rows_step (D := E) (t := t) (p := g.1) (ns := g.2) (c := val T g.2) (sm _ _ hE) (ho.keep (same_keepT sm)) upd_same (sm _ _ hgk)
        refine ⟨_, sm _ _ hE, ?_, _, g1, g2, ?_, kp.step sm⟩
        · have := rows_len ed
          have h2 := List.length_filter_le nz ((ks.map tk).take i)
          rw [List.length_take, List.length_map] at h2
          rw [List.length_map, sizeLine_eq]
          omega
        · rw [filter_step hf1, if_neg hz, List.map_append, ed]
          rfl
    · obtain ⟨L, hE, ho, ed, kp⟩ := h
      rw [List.take_of_length_le (by rw [List.length_map, List.length_map]; exact Nat.le_refl _)] at ed
      have sm : Same H H1 := fun b o e => kp.at_ nE (s1 _ _ e)
      refine ⟨E, _, rfl, .inl ⟨sqlOf hE, fun t nt => ?_⟩⟩
      have sm2 := sm.trans (same_new (o := .tup (L.map Trm.v)) nt)
      refine q _ t L sm2 (sm.free nt) ⟨upd_same, ho.keep (same_keepT (same_new nt))⟩ ?_ ?_
      · refine norm_of (m := m) hT.nodup hT.len ?_ ?_
        · have e0 : (ks.map tk).Perm T := by
            have nd1 : (ks.map tk).Nodup := by
              have : ((ks.map tk).map (·.1)).Nodup := by
                rw [List.map_map]
                exact perm2.nodup_iff.mpr hT.nodup
              exact List.Pairwise.imp (fun {a b} h e => h (by rw [e])) (List.pairwise_map.mp this)
            have nd2 : T.Nodup := List.Pairwise.imp (fun {a b} h e => h (by rw [e])) (List.pairwise_map.mp hT.nodup)
            refine (List.perm_ext_iff_of_nodup nd1 nd2).mpr fun q1 => ⟨fun h => ?_, fun h => ?_⟩
            · obtain ⟨g, hg, rfl⟩ := List.mem_map.mp h
              exact htk g hg
            · have : q1.1 ∈ ks.map (·.2) := perm2.mem_iff.mpr (List.mem_map_of_mem h)
              obtain ⟨g, hg, e⟩ := List.mem_map.mp this
              refine List.mem_map.mpr ⟨g, hg, ?_⟩
              show (g.2, val T g.2) = q1
              unfold val
              rw [e, (getO_mem (k := q1.1) (v := q1.2) hT.nodup).mpr h]
              rfl
          rw [ed]
          exact e0.filter _
        · rw [ed]
          refine List.Pairwise.sublist List.filter_sublist ?_
          rw [List.pairwise_map]
          exact srt
      · have h1 := rows_len ed
        have h2 := List.length_filter_le nz (ks.map tk)
        rw [List.length_map] at h2
        omega
end
end NH
set_option Elab.async false
set_option linter.all false
set_option maxRecDepth 100000
set_option maxHeartbeats 1000000
set_option exponentiation.threshold 100000
namespace NH
open PySem PySem.Spec PyProof.Rows L2 R1 ZN
theorem pow_bits {b : Int} {E : Nat} (h : b.natAbs < 2 ^ E) (r : Nat) : (b ^ r).natAbs < 2 ^ (E * r + 1) := by
  rw [Int.natAbs_pow]
  have h1 : b.natAbs ^ r ≤ (2 ^ E) ^ r := Nat.pow_le_pow_left (Nat.le_of_lt h) r
  rw [← Nat.pow_mul] at h1
  exact Nat.lt_of_le_of_lt h1 (Nat.pow_lt_pow_right (by decide) (Nat.lt_succ_self _))
def slotN (i : Nat) (σ : L2.St) : Nat := match σ[i]? with | some (some (V.int y)) => y.toNat | _ => 0
section
variable {P : Program} {w : World} {K : PySem.W.Frag} {mg : Str → Option Value} {base : Heap} {f : Nat → Addr} {d : Nat → FuncData}
def spWP : Sp := fun vs H Q _ => ∃ (b : Int) (n E : Nat), vs = [.int b, .int (n : Nat)] ∧ b.natAbs < 2 ^ E ∧ E ≤ 200 ∧ n ≤ 100 ∧ Q (.int (b ^ n)) H
theorem ok_wp {k : Nat} (D : Defs K mg f d) : FnOk P w K mg base CX0 (k + 1) (f i_whole_power) (d i_whole_power) ["base", "times"] spWP := by
  refine D.F_whole_power.ok sc_whole_power (fun vs H Q E h => ?_) (fun cdv A outer s H vs Q E hr h => ?_)
  · obtain ⟨b, n, E, rfl, _⟩ := h
    rfl
  · obtain ⟨b, n, E, rfl, hb, hE, hn, q⟩ := h
    have nd := sc_whole_power.nd
    refine ⟨_, pss_cons (ps_set (i := 2) nd rfl (.inl rfl) (pe_int))
      (pss_cons (ps_while PassesOwn.never (pt_truth (pv 1) (by intro _; rfl))
        (Evl.pss_cut (ps_if (pt_truth (pe_op op_andM (pv 1) pe_int) (by intro _; rfl))
            (pss_one (ps_set (i := 2) nd rfl (.inl rfl) (pe_op op_mulX (pv 2) (pv 0))))
            pss_nil)
          (pss_cons (ps_set (i := 0) nd rfl (.inl rfl) (pe_op op_mulX (pv 0) (pv 0)))
          (pss_one (ps_set (i := 1) nd rfl (.inl rfl) (pe_op op_shr (pv 1) pe_int))))))
      (pss_one (ps_ret (pv 2)))), ?_⟩
    dsimp only [gName, tSeq, tAsg]
    have bits : ∀ {i : Nat}, i ≤ 200 → (b ^ i).natAbs < 2 ^ 40001 := fun {i} hi => Nat.lt_of_lt_of_le (pow_bits hb i) (Nat.pow_le_pow_right (by decide) (by
      have : E * i ≤ 200 * 200 := Nat.mul_le_mul hE hi
      omega))
    have mok : ∀ {i j : Nat}, i ≤ 200 → j ≤ 200 → CMulX (b ^ i) (b ^ j) := fun {i j} hi hj => mulx (bits hi) (bits hj) (by decide)
    rw [show tC = fun v σ H Q => Q v H from rfl]
    refine while_by (fun σ H' => ∃ r s m : Nat, σ = [some (.int (b ^ s)), some (.int (m : Nat)), some (.int (b ^ r))] ∧ H' = H ∧ r + s * m = n ∧ r ≤ n ∧ (m = 0 ∨ s ≤ n)) (fun σ _ => slotN 1 σ) ⟨0, 1, n, by rw [Int.pow_zero, Int.pow_one]; rfl, rfl, by omega, by omega, by omega⟩ (fun σ H' h => ?_) (fun σ H Q Q' hq h => ?_)
    · obtain ⟨r, s, m, rfl, rfl, e, hrn, hs⟩ := h
      refine ⟨.int (m : Nat), rfl, _, rfl, ite2 (fun e0 => ?_) (fun e0 => ?_)⟩
      · have hm : m ≠ 0 := fun z => by subst z; exact absurd e0 (by decide)
        have hs' : s ≤ n := by omega
        have odd : (((m : Nat) : Int) % 2 ^ 1) = ((m % 2 : Nat) : Int) := by omega
        have half : (((m : Nat) : Int) / 2 ^ (1 : Int).toNat) = ((m / 2 : Nat) : Int) := by
          show ((m : Nat) : Int) / 2 = _
          omega
        refine ⟨fun σ' H2 => ∃ r' : Nat, σ' = [some (.int (b ^ s)), some (.int (m : Nat)), some (.int (b ^ r'))] ∧ H2 = H' ∧ r' + 2 * s * (m / 2) = n ∧ r' ≤ n, ?_, ?_⟩
        · refine ⟨.int (m : Nat), rfl, _, 1, rfl, rfl, _, rfl, ite2 (fun e1 => ?_) (fun e1 => ?_)⟩
          · rw [odd] at e1
            have h1 : m % 2 = 1 := by
              have : m % 2 ≠ 0 := fun z => by rw [z] at e1; exact absurd e1 (by decide)
              omega
            have hmm : m = 2 * (m / 2) + 1 := by omega
            have hx : r + s + 2 * s * (m / 2) = n := by
              have : s * m = s * (2 * (m / 2) + 1) := by rw [← hmm]
              rw [Nat.mul_add, Nat.mul_one, ← Nat.mul_assoc, Nat.mul_comm s 2] at this
              omega
            refine ⟨_, rfl, _, rfl, _, _, rfl, rfl, mok (by omega) (by omega), r + s, ?_, rfl, hx, ?_⟩
            · rw [Int.pow_add]
              rfl
            · exact Nat.le_trans (Nat.le_add_right _ _) (Nat.le_of_eq hx)
          · rw [odd] at e1
            have h0 : m % 2 = 0 := by
              have : ¬ (m % 2 = 1) := fun z => e1 (by rw [z]; rfl)
              omega
            have hmm : m = 2 * (m / 2) := by omega
            refine ⟨r, rfl, rfl, ?_, hrn⟩
            have : s * m = s * (2 * (m / 2)) := by rw [← hmm]
            rw [← Nat.mul_assoc, Nat.mul_comm s 2] at this
            omega
        · rintro σ' H2 ⟨r', rfl, rfl, e2, hr'⟩
          refine ⟨_, rfl, _, rfl, _, _, rfl, rfl, mok (by omega) (by omega), ?_⟩
          refine ⟨_, rfl, _, _, rfl, rfl, (by show (0 : Int) ≤ 1; decide), ?_⟩
          dsimp only [gName]
          rw [half]
          refine ⟨⟨r', 2 * s, m / 2, ?_, rfl, e2, hr', ?_⟩, ?_⟩
          · rw [Nat.two_mul, Int.pow_add]
            rfl
          · by_cases z : m / 2 = 0
            · exact .inl z
            · right
              have : 2 * s * 1 ≤ 2 * s * (m / 2) := Nat.mul_le_mul_left _ (by omega)
              omega
          · show (((m / 2 : Nat) : Int)).toNat < (((m : Nat) : Int)).toNat
            omega
      · have hm : m = 0 := by
          by_cases z : m = 0
          · exact z
          · exact absurd (by simp; omega) e0
        subst hm
        have : r = n := by omega
        subst this
        exact ⟨_, rfl, q⟩
    · obtain ⟨v, e, kk, hk, q⟩ := h
      exact ⟨v, e, kk, hk, hq _ _ q⟩
end
end NH
set_option Elab.async false
set_option linter.all false
set_option maxRecDepth 100000
set_option maxHeartbeats 1000000
namespace RS
open PySem PySem.Spec PyProof.Rows L2
theorem getD_ints {ns : List Int} {i : Nat} (h : i < ns.length) : ns.getD i 0 = ns[i] := by rw [List.getD_eq_getElem?_getD, List.getElem?_eq_getElem h] <;> rfl
/-- max(d) of a dict with keys of ints -/
def rMaxK : List V → Hp → VK → Prop := fun xs H Q => ∃ (a : Addr) (kvs : List (Key × V)) (ns : List Int), xs = [.ref a] ∧ Rd H a (.dK kvs) ∧ kvs.map (·.1) = ns.map Sum.inl ∧ 0 < ns.length ∧ ∀ m, m ∈ ns → (∀ y, y ∈ ns → y ≤ m) → Q (.int m) H
theorem cr_maxK {X : Cx} (hc : X.calm = true) : CallR X (.builtin "max") rMaxK := by
  intro pins s σ H xs us Q I rx h
  obtain ⟨a, kvs, ns, rfl, hd, hks, hne, q⟩ := h
  rw [Vals.ref1 rx]
  obtain ⟨z, lo, vs, rel, dd⟩ := dk_rd I.hok hd
  obtain ⟨ep, hat⟩ := dd.dictAt
  have hkeys : vs.map (·.1) = ns.map Sum.inl := rel.keys.symm.trans hks
  have hl : vs.length = ns.length := by
    have e := congrArg List.length hkeys
    rw [List.length_map, List.length_map] at e
    exact e
  have src := PySem.W.kdl_dict (prog := X.prog) (w := X.w) (knd := mixKind X.prog X.w) (kvs := vs) (ep := ep) lo
  obtain ⟨oI, St, it, W, st⟩ := src.iter X.A.in1 s (show X.A.in1.handled = none from I.ok.hd hc) hat
  have ha : a < s.heap.objs.size := hat.lt_size
  have hval : ∀ i v, (∃ k x, vs[i]? = some (k, x) ∧ (mixKind X.prog X.w).is k v = true) → ∃ t, v = .int (ns.getD i 0) t := fun i v ⟨k, x, e1, e2⟩ => by
    have hi : i < vs.length := (List.getElem?_eq_some_iff.mp e1).1
    have e3 : (vs.map (·.1))[i]? = some k := by rw [List.getElem?_map, e1] <;> rfl
    rw [hkeys, List.getElem?_map, List.getElem?_eq_getElem (by omega)] at e3
    have e4 : (Sum.inl ns[i] : Key) = k := Option.some.inj e3
    subst e4
    rcases keyIs_shape (show keyIs (Sum.inl ns[i]) v = true from e2) with ⟨j, t, ek, ev⟩ | ⟨j, t, ek, ev⟩
    · cases ek
      exact ⟨t, by rw [getD_ints (by omega)]; exact ev⟩
    · cases ek
  refine call_max_walk (it _ _ ?_)
  refine ⟨s.heap.objs.size, [s.heap.objs.size, a], [s.heap.objs.size], vs.length, _, St, fun i j => decide (ns.getD i 0 > ns.getD j 0), rfl, W, st, fun b hb => ?_, by omega, CmpOf.ints_gt (fun i => ns.getD i 0) hval, fun v h' tk hv' hk => ?_⟩
  · show b < (s.heap.push _).objs.size
    rw [size_push']
    rcases List.mem_cons.mp hb with z | z
    · rw [z]
      exact Nat.lt_succ_self _
    · rw [List.mem_singleton.mp z]
      exact Nat.lt_succ_of_lt ha
  · obtain ⟨t, rfl⟩ := hval _ _ hv'
    obtain ⟨m1', m2'⟩ := argBest_gt (fun i => ns.getD i 0) (vs.length - 1)
    have m1 : argBest (fun i j => decide (ns.getD i 0 > ns.getD j 0)) (vs.length - 1) ≤ vs.length - 1 := m1'
    have m2 : ∀ j, j ≤ vs.length - 1 → ns.getD j 0 ≤ ns.getD (argBest (fun i j => decide (ns.getD i 0 > ns.getD j 0)) (vs.length - 1)) 0 := m2'
    have hk2 : ∀ b o, s.heap.get? b = some o → h'.get? b = some o := fun b o e => hk b o (fun z => by rw [List.mem_singleton.mp z] at e; exact absurd (Heap.lt_size e) (Nat.lt_irrefl _)) (Heap.get?_push_of_some _ e)
    refine ⟨.int _, H, I.kept (t' := tk) hk2, ⟨t, rfl⟩, q _ (PySem.getD_mem (by omega)) fun y hy => ?_⟩
    obtain ⟨j, hj, e⟩ := List.mem_iff_getElem.mp hy
    have z := m2 j (by omega)
    rw [getD_ints hj, e] at z
    exact z
/-- sorted(d, reverse=True) of a dict with keys of ints -/
def rSortedRevK : List V → List V → Hp → VK → Prop := fun vs zs H Q => ∃ (a : Addr) (kvs : List (Key × V)) (ns : List Int), vs = [.ref a] ∧ zs = [.bl true] ∧ Rd H a (.dK kvs) ∧ kvs.map (·.1) = ns.map Sum.inl ∧
  ∀ (ys : List Int) (p : Addr), ys.Perm ns → ys.Pairwise (· ≥ ·) → H p = none → Q (.ref p) (upd H p (.lst (ys.map V.int)))
theorem cr_sortedRevK {X : Cx} (hcalm : X.calm = true) : CallRK X (.builtin "sorted") [Str.ofString "reverse"] rSortedRevK := by
  intro pins s σ H xs zs us ws Q I r rz q
  obtain ⟨a, kvs, ks, rfl, rfl, hd, hks, q⟩ := q
  rw [Vals.ref1 r]
  obtain ⟨w1, rfl, e1⟩ := vals1 rz
  obtain rfl : w1 = Value.bool true := e1
  obtain ⟨z, lo, vs, rel, dd⟩ := dk_rd I.hok hd
  obtain ⟨ep, hat⟩ := dd.dictAt
  have hkeys : vs.map (·.1) = ks.map Sum.inl := rel.keys.symm.trans hks
  have hl : vs.length = ks.length := by
    have e := congrArg List.length hkeys
    rw [List.length_map, List.length_map] at e
    exact e
  have h16 : vs.length ≤ sizeLine := by
    have : kvs.length = vs.length := Paired.length rel
    omega
  refine call_function_entry_kw kind_sorted plain_sorted entry_sorted (PyProof.Rows.args_sorted_rev _ _) ?_
  unfold Builtin.«sorted»
  refine wpAny_bind (m := checkCount "sorted" 1 1 _) (wpAny_pure ?_)
  refine wpAny_bind (PySem.W.kdu_collect (A := X.A.in1) (PySem.W.kdl_dict (knd := mixKind X.prog X.w) (kvs := vs) (ep := ep) lo) (I.ok.hd hcalm) hat h16 fun h' tk acc hk hacc => ?_)
  have hal : acc.toList.length = ks.length := by rw [Array.length_toList, hacc.1, hl]
  have hS : IntsAre acc.toList ks := ints_each hal fun j v e => by
    obtain ⟨k, x, e1, e2⟩ := hacc.2 j v (by rw [← Array.getElem?_toList]; exact e)
    have e3 : (vs.map (·.1))[j]? = some k := by rw [List.getElem?_map, e1]; rfl
    rw [hkeys, List.getElem?_map] at e3
    cases e4 : ks[j]? with
    | none => rw [e4] at e3; cases e3
    | some y =>
      rw [e4] at e3
      have e5 : Sum.inl y = k := Option.some.inj e3
      subst e5
      rcases keyIs_shape (show keyIs (Sum.inl y) v = true from e2) with ⟨i, t, ek, ev⟩ | ⟨z, t, ek, ev⟩
      · cases ek
        exact ⟨y, t, rfl, ev⟩
      · cases ek
  have I1 : Inv X pins σ H { s with heap := h', toks := tk } := I.kept hk
  have hz : acc.toList.length ≤ sizeLine := by omega
  refine wpAny_bind (wpAny_newList ?_ hz)
  have hoL : (h'.push (seqObj "list" acc.toList.toArray 0)).get? h'.objs.size = some (seqObj "list" acc.toList.toArray 0) := Heap.get?_push_size _ rfl
  show wpAny _ _ _ _ _ { s with heap := h'.push (seqObj "list" acc.toList.toArray 0), toks := tk }
  refine wpAny_bind (wpAny_holding (wpAny_call_entry_kw slot_list_sort ⟨_, hoL, rfl⟩ entry_list_sort ?_ (PyProof.Rows.args_list_sort_rev _ _)))
  refine SrtR.list_sort_ordR (b := true) SrtO.swo_int hoL hz (fun h2 => SrtO.ints_sortable hS h2) fun out hs hb => ⟨_, rfl, ?_⟩
  obtain ⟨ns', k1, k2, k3⟩ := SrtR.ints_outR hS hs hb
  obtain ⟨e', he'⟩ := PyProof.Rows.sortedHeap_at (vs := acc.toList) (out := if true = true then out.toArray.reverse else out.toArray) hoL
  have hlen : (ns'.map V.int).length ≤ sizeLine := by
    rw [List.length_map, k2.length_eq]
    omega
  refine wpAny_pure ⟨_, rfl, .ref h'.objs.size, upd H h'.objs.size (.lst (ns'.map V.int)), I1.laid (t' := tk) (fun b u e => ?_) (Nat.le_refl _)
    (show ObjOk X.prog X.w _ _ _ (.lst (ns'.map V.int)) from ⟨hlen, _, e', vals_of_ints k1, by rw [Array.toArray_toList]; exact he'⟩), rfl, q ns' _ k2 k3 (I1.hok.fresh (Nat.le_refl _))⟩
  have hb : b < h'.objs.size := Heap.lt_size e
  rw [PyProof.Rows.sortedHeap_old (Nat.ne_of_lt hb) (by rw [size_push']; exact Nat.lt_succ_of_lt hb)]
  exact Heap.get?_push_of_some _ e
section
variable {J : It} {n : Nat} {G : Hp → Prop} {Y : Nat → Hp → V → Hp → Prop}
/-- a dict comprehension over it: Pv by the turn and the heap (the new dict at D within) -/
theorem dc_it (w : Walk J n G Y) {g : TG} {tt : TT} {tk tv : TE} {vs : List Nat} {σ : L2.St} {H1 : Hp} {D : Addr} {Qd : Hp → Prop} (Pv : Nat → Hp → Prop) (h0 : Pv 0 (upd H1 D (.dK []))) (hG : ∀ i H, i ≤ n → Pv i H → G H)
    (hs : ∀ i x H H', i < n → Pv i H → Y i H x H' → g x (wipe σ vs) H' fun σ2 H2 => wipe σ2 vs = wipe σ vs ∧ tt σ2 H2 fun b H3 =>
      if b = true then tk σ2 H3 fun y H4 => tv σ2 H4 fun z H5 => ∃ kvs k, y = kV k ∧ H5 D = some (.dK kvs) ∧ kvs.length < sizeLine ∧ Pv (i + 1) (upd H5 D (.dK (putK kvs k z))) else Pv (i + 1) H3) (hd : ∀ H, Pv n H → Qd H) :
    ∃ W : Nat → Nat → Hp → Prop, (∃ m, W 0 m (upd H1 D (.dK []))) ∧ ∀ i m H, W i m H →
      (J.stop i H ∧ Qd H) ∨ (J.go i H ∧ ∃ Nx : Hp → Prop, (∀ H', Nx H' → ∃ m', m' < m ∧ W (i + 1) m' H') ∧ ∀ x H', J.yld i H x H' → g x (wipe σ vs) H' fun σ2 H2 => wipe σ2 vs = wipe σ vs ∧ tt σ2 H2 fun b H3 =>
        if b = true then tk σ2 H3 fun y H4 => tv σ2 H4 fun z H5 => ∃ kvs k, y = kV k ∧ H5 D = some (.dK kvs) ∧ kvs.length < sizeLine ∧ Nx (upd H5 D (.dK (putK kvs k z))) else Nx H3) := by
  refine ⟨fun i m H => m = n - i ∧ i ≤ n ∧ Pv i H, ⟨n, by simp, Nat.zero_le _, h0⟩, ?_⟩
  rintro i m H ⟨rfl, hi, p⟩
  have q := hG i H hi p
  by_cases hlt : i < n
  · exact .inr ⟨w.goes i H hlt q, Pv (i + 1), fun H' p' => ⟨n - (i + 1), by omega, rfl, hlt, p'⟩, fun x H' y => hs i x H H' hlt p (w.yields i H x H' hlt q y)⟩
  · have e : i = n := by omega
    subst e
    exact .inl ⟨w.stops H q, hd H p⟩
end
end RS
set_option Elab.async false
set_option linter.all false
set_option maxRecDepth 100000
namespace PK
open PySem PySem.Spec PyProof.Rows L2
/-! ### dicts of ints by ints, as data -/
abbrev Is := List (Int × Int)
def encI (q : Int × Int) : Key × V := (Sum.inl q.1, V.int q.2)
def getI (D : Is) (k : Int) : Option Int := (D.find? fun q => decide (q.1 = k)).map (·.2)
def setI (D : Is) (k : Int) (v : Int) : Is := if (D.any fun q => decide (q.1 = k)) = true then D.map (fun q => if q.1 = k then (q.1, v) else q) else D ++ [(k, v)]
theorem inl_inj {a b : Int} : (Sum.inl a : Key) = Sum.inl b ↔ a = b := ⟨fun h => by injection h, fun h => by rw [h]⟩
theorem valV_enc (k : Int) : ∀ D : Is, valV (D.map encI) (Sum.inl k) = (getI D k).map V.int
  | [] => rfl
  | q :: D => by
    by_cases e : q.1 = k
    · rw [List.map_cons, valV_pos (show (encI q).1 = Sum.inl k by rw [← e]; rfl)]
      simp [getI, List.find?_cons, e, encI]
    · rw [List.map_cons, valV_neg (show ¬ (encI q).1 = Sum.inl k from fun z => e (inl_inj.mp z)), valV_enc k D]
      simp [getI, List.find?_cons, e]
theorem putK_enc (k : Int) (v : Int) (D : Is) : putK (D.map encI) (Sum.inl k) (.int v) = (setI D k v).map encI := by
  have h1 : ((D.map encI).any fun kv => decide (kv.1 = (Sum.inl k : Key))) = (D.any fun q => decide (q.1 = k)) := by
    rw [List.any_map]
    congr 1
    funext q
    show decide ((Sum.inl q.1 : Key) = Sum.inl k) = decide (q.1 = k)
    exact decide_eq_decide.mpr inl_inj
  unfold putK setI
  rw [h1]
  split
  · rw [List.map_map, List.map_map]
    refine List.map_congr_left fun q _ => ?_
    show (if (Sum.inl q.1 : Key) = Sum.inl k then ((Sum.inl q.1 : Key), V.int v) else encI q) = encI (if q.1 = k then (q.1, v) else q)
    by_cases e : q.1 = k
    · rw [if_pos (inl_inj.mpr e), if_pos e]
      rfl
    · rw [if_neg (fun z => e (inl_inj.mp z)), if_neg e]
  · rw [List.map_append]
    rfl
theorem setI_mem {D : Is} {k : Int} {v : Int} {q : Int × Int} (h : q ∈ setI D k v) : (q ∈ D ∧ q.1 ≠ k) ∨ q = (k, v) := by
  unfold setI at h
  split at h
  · obtain ⟨p, hp, e⟩ := List.mem_map.mp h
    split at e
    · rename_i e2
      exact .inr (by rw [← e, e2])
    · rename_i e2
      exact .inl (e ▸ ⟨hp, e2⟩)
  · rename_i hn
    rcases List.mem_append.mp h with h | h
    · refine .inl ⟨h, fun e => hn ?_⟩
      exact List.any_eq_true.mpr ⟨q, h, decide_eq_true e⟩
    · exact .inr (List.mem_singleton.mp h)
theorem setI_len (D : Is) (k : Int) (v : Int) : (setI D k v).length ≤ D.length + 1 := by
  unfold setI
  split
  · rw [List.length_map]
    omega
  · rw [List.length_append]
    exact Nat.le_refl _
def NodI (D : Is) : Prop := (D.map (·.1)).Nodup
theorem setI_nodup {D : Is} (k : Int) (v : Int) (h : NodI D) : NodI (setI D k v) := by
  unfold NodI setI
  split
  · rw [List.map_map]
    have : ((·.1) ∘ fun q : Int × Int => if q.1 = k then (q.1, v) else q) = (·.1) := by
      funext q
      show (if q.1 = k then (q.1, v) else q).1 = q.1
      split <;> rfl
    rw [this]
    exact h
  · rename_i hn
    rw [List.map_append, List.nodup_append]
    refine ⟨h, by simp, fun a ha b hb e => hn ?_⟩
    obtain ⟨q, hq, rfl⟩ := List.mem_map.mp ha
    have : b = k := by simpa using hb
    exact List.any_eq_true.mpr ⟨q, hq, decide_eq_true (by rw [e, this])⟩
/-- a key that is new goes behind the others -/
theorem setI_new {D : Is} {k v : Int} (h : k ∉ D.map (·.1)) : setI D k v = D ++ [(k, v)] := by
  unfold setI
  rw [if_neg]
  intro z
  obtain ⟨q, hq, e⟩ := List.any_eq_true.mp z
  exact h (List.mem_map.mpr ⟨q, hq, of_decide_eq_true e⟩)
theorem getI_none {D : Is} {k : Int} (h : k ∉ D.map (·.1)) : getI D k = none := by
  unfold getI
  rw [List.find?_eq_none.mpr]
  · rfl
  · intro q hq e
    exact h (List.mem_map.mpr ⟨q, hq, of_decide_eq_true e⟩)
theorem getI_mem {k : Int} {v : Int} : ∀ {D : Is}, NodI D → (getI D k = some v ↔ (k, v) ∈ D)
  | [], _ => by simp [getI]
  | q :: D, h => by
    have h' := List.nodup_cons.mp h
    by_cases e : q.1 = k
    · have : getI (q :: D) k = some q.2 := by simp [getI, List.find?_cons, e]
      rw [this]
      constructor
      · intro z
        have z := Option.some.inj z
        have : q = (k, v) := by rw [← e, ← z]
        rw [this]
        exact List.mem_cons_self
      · intro z
        rcases List.mem_cons.mp z with z | z
        · rw [← z]
        · exact absurd (List.mem_map.mpr ⟨_, z, e.symm⟩) h'.1
    · have : getI (q :: D) k = getI D k := by simp [getI, List.find?_cons, e]
      rw [this, getI_mem h'.2]
      constructor
      · exact fun z => List.mem_cons_of_mem _ z
      · intro z
        rcases List.mem_cons.mp z with z | z
        · exact absurd (by rw [← z]) e
        · exact z
theorem getI_set (D : Is) (k j : Int) (v : Int) : getI (setI D k v) j = if j = k then some v else getI D j := by
  have h := valV_put (D.map encI) (Sum.inl k) (Sum.inl j) (.int v)
  rw [putK_enc, valV_enc, valV_enc] at h
  by_cases e : j = k
  · rw [if_pos (inl_inj.mpr e)] at h
    rw [if_pos e]
    cases q : getI (setI D k v) j with
    | none => rw [q] at h; cases h
    | some x =>
      rw [q] at h
      have := Option.some.inj h
      injection this with this
      rw [this]
  · rw [if_neg (fun z => e (inl_inj.mp z))] at h
    rw [if_neg e]
    cases q : getI (setI D k v) j with
    | none =>
      rw [q] at h
      cases q2 : getI D j with
      | none => rfl
      | some x => rw [q2] at h; cases h
    | some x =>
      rw [q] at h
      cases q2 : getI D j with
      | none => rw [q2] at h; cases h
      | some y =>
        rw [q2] at h
        have := Option.some.inj h
        injection this with this
        rw [this]
/-- the coefficient at a key, 0 where none stands -/
def vI (D : Is) (k : Int) : Int := (getI D k).getD 0
def addI (D : Is) (k : Int) (c : Int) : Is := setI D k (vI D k + c)
theorem vI_add (D : Is) (k j : Int) (c : Int) : vI (addI D k c) j = vI D j + if j = k then c else 0 := by
  unfold vI addI
  rw [getI_set]
  by_cases e : j = k
  · subst e
    simp [vI]
  · simp [e]
/-- all pairs of W added -/
def gath : Is → Is → Is
  | A, [] => A
  | A, q :: W => gath (addI A q.1 q.2) W
def totI (j : Int) : Is → Int
  | [] => 0
  | q :: W => (if j = q.1 then q.2 else 0) + totI j W
theorem vI_gath (j : Int) : ∀ (W A : Is), vI (gath A W) j = vI A j + totI j W
  | [], A => by simp [gath, totI]
  | q :: W, A => by
    rw [gath, vI_gath j W, vI_add, totI]
    omega
theorem gath_app : ∀ (V W A : Is), gath A (V ++ W) = gath (gath A V) W
  | [], _, _ => rfl
  | q :: V, W, A => gath_app V W (addI A q.1 q.2)
theorem gath_snoc (q : Int × Int) (W A : Is) : gath A (W ++ [q]) = addI (gath A W) q.1 q.2 := by
  rw [gath_app]
  rfl
theorem gath_nodup : ∀ (W A : Is), NodI A → NodI (gath A W)
  | [], _, h => h
  | q :: W, A, h => gath_nodup W _ (setI_nodup _ _ h)
theorem gath_len : ∀ (W A : Is), (gath A W).length ≤ A.length + W.length
  | [], _ => Nat.le_refl _
  | q :: W, A => by
    have := gath_len W (addI A q.1 q.2)
    have h2 := setI_len A q.1 (vI A q.1 + q.2)
    rw [gath]
    show _ ≤ A.length + (W.length + 1)
    unfold addI at this
    unfold addI
    omega
theorem totI_app (j : Int) : ∀ V W : Is, totI j (V ++ W) = totI j V + totI j W
  | [], W => by simp [totI]
  | q :: V, W => by
    rw [List.cons_append, totI, totI, totI_app j V W]
    omega
theorem vI_tot : ∀ {D : Is}, NodI D → ∀ j, vI D j = totI j D
  | [], _, _ => rfl
  | q :: D, h, j => by
    have h' := List.nodup_cons.mp h
    rw [totI, ← vI_tot h'.2]
    unfold vI
    by_cases e : q.1 = j
    · rw [if_pos e.symm]
      have n : getI D j = none := getI_none (by rw [← e]; exact h'.1)
      rw [n]
      simp [getI, List.find?_cons, e]
    · rw [if_neg (fun z => e z.symm)]
      simp [getI, List.find?_cons, e]
def nzI (q : Int × Int) : Bool := decide (q.2 ≠ 0)
theorem nodI_filter {D : Is} (h : NodI D) : NodI (D.filter nzI) := by
  unfold NodI at h ⊢
  exact h.sublist (List.filter_sublist.map _)
theorem vI_filter {D : Is} (h : NodI D) (j : Int) : vI (D.filter nzI) j = vI D j := by
  rw [vI_tot (nodI_filter h), vI_tot h]
  clear h
  induction D with
  | nil => rfl
  | cons q D ih =>
    by_cases e : q.2 = 0
    · have : nzI q = false := by simp [nzI, e]
      rw [List.filter_cons, this, totI, e]
      simp [ih]
    · have : nzI q = true := by simp [nzI, e]
      rw [List.filter_cons, this]
      simp [totI, ih]
theorem filter_stepI {D : Is} {i : Nat} {q : Int × Int} (h : D[i]? = some q) : (D.take (i + 1)).filter nzI = (D.take i).filter nzI ++ if q.2 = 0 then [] else [q] := by
  rw [List.take_add_one, h, List.filter_append]
  congr 1
  show List.filter nzI [q] = _
  by_cases e : q.2 = 0
  · rw [if_pos e]
    simp [nzI, e]
  · rw [if_neg e]
    simp [nzI, e]
theorem nodup_at {D : Is} (h : NodI D) {i : Nat} {q : Int × Int} (e : D[i]? = some q) : q.1 ∉ (D.take i).map (·.1) := by
  intro z
  have hi : i < D.length := (List.getElem?_eq_some_iff.mp e).1
  have e2 : D = D.take i ++ q :: D.drop (i + 1) := by
    rw [← List.take_append_drop i D]
    congr 1
    · rw [List.take_append_drop]
    · rw [List.take_append_drop, List.drop_eq_getElem_cons hi, (List.getElem?_eq_some_iff.mp e).2]
  unfold NodI at h
  rw [e2, List.map_append, List.map_cons] at h
  have h3 := (List.nodup_append.mp h).2.2
  exact h3 _ z _ List.mem_cons_self rfl
theorem at_get {D : Is} (h : NodI D) {i : Nat} {q : Int × Int} (e : D[i]? = some q) : getI D q.1 = some q.2 := (getI_mem h).mpr (List.mem_of_getElem? e)
/-- a dict of ints by ints at d -/
structure IdAt (H : Hp) (d : Addr) (D : Is) : Prop where
  at_ : H d = some (.dK (D.map encI))
  nd : NodI D
theorem IdAt.same {H H' : Hp} {d : Addr} {D : Is} (h : IdAt H d D) (s : ∀ b o, H b = some o → H' b = some o) : IdAt H' d D := ⟨s _ _ h.at_, h.nd⟩
theorem dget {H : Hp} {d : Addr} {D : Is} {k : Int} (h : Rd H d (.dK (D.map encI))) : DGet H d (.int k) ((getI D k).map V.int) := .inl ⟨D.map encI, Sum.inl k, h, rfl, (valV_enc k D).symm⟩
theorem getD_int (o : Option Int) : (o.map V.int).getD (.int 0) = V.int (o.getD 0) := by cases o <;> rfl
end PK
set_option Elab.async false
set_option linter.all false
set_option maxRecDepth 100000
set_option maxHeartbeats 1000000
set_option exponentiation.threshold 100000
namespace NH
open PySem PySem.Spec PyProof.Rows L2 R1 ZN PK RS
theorem rdF {H : Hp} {d : Addr} {o : Obj} {kvs : List (Key × V)} (h : H d = some (.frz o (.dK kvs))) : Rd H d (.dK kvs) := .inr ⟨o, h⟩
theorem upd_id' {H : Hp} {d : Addr} {o : HO} (h : H d = some o) : upd H d o = H := by
  funext b
  by_cases e : b = d
  · rw [e, upd_same, h]
  · rw [upd_ne e]
theorem upd_upd' {H : Hp} {d : Addr} {o o' : HO} : upd (upd H d o) d o' = upd H d o' := by
  funext b
  by_cases e : b = d
  · rw [e, upd_same, upd_same]
  · rw [upd_ne e, upd_ne e, upd_ne e]
section
variable {P : Program} {w : World} {K : PySem.W.Frag} {mg : Str → Option Value} {base : Heap} {f : Nat → Addr} {d : Nat → FuncData}
def spPP : Sp := fun vs H Q _ => ∃ (a b : Addr) (A B : Is), vs = [.ref a, .ref b] ∧ IdAt H a A ∧ IdAt H b B ∧ A.length + B.length ≤ 10000 ∧
  ∀ H' (e : Addr), Same H H' → H e = none → IdAt H' e ((gath A B).filter nzI) → Q (.ref e) H'
theorem ok_pp {k : Nat} (D : Defs K mg f d) : FnOk P w K mg base CX0 (k + 1) (f i_packed_plus) (d i_packed_plus) ["one", "other"] spPP := by
  refine D.F_packed_plus.ok sc_packed_plus (fun vs H Q E h => ?_) (fun cdv A outer s H vs Q E hr h => ?_)
  · obtain ⟨a, b, A, B, rfl, _⟩ := h
    rfl
  · obtain ⟨a, b, A, B, rfl, hA, hB, hl, q⟩ := h
    have nd := sc_packed_plus.nd
    have hu := hu_of hr
    refine ⟨_, pss_cons (ps_set (i := 3) nd rfl (.inr rfl) (pe_lock (pe_dc (wi := iKeys (tVar 0)) (own := [("key", 2)]) (g := gName 2) (by rfl) nd (pi_keys (pv 0)) (blkOk_by (own := [("key", 2)]) (N := N_packed_plus) (sc := defScope s_packed_plus) (by decide +kernel))
          (fun _ _ _ _ _ => pg_name (i := 2) nd rfl (.inl rfl)) (fun _ _ _ _ _ => pts_nil) (fun _ _ _ _ _ => pv 2) (fun _ _ _ _ _ => pe_dget hu (pv 0) (pv 2) (fun _ _ => rfl)))))
      (pss_cons (ps_lock (ps_for PassesOwn.never rfl (pi_items (pv 1)) (pg_tup rfl (pgs_cons (pg_name (i := 2) nd rfl (.inl rfl)) (pgs_cons (pg_name (i := 4) nd rfl (.inl rfl)) pgs_nil)))
        (pss_one (ps_dput hu (pv 3) (pv 2) (pe_op op_add (pe_dget2 hu (pv 3) (pv 2) pe_int ⟨rfl, rfl, rfl, rfl⟩) (pv 4)) rfl))))
      (pss_one (ps_ret (pe_lock (pe_dc (wi := iKeys (tVar 3)) (own := [("key", 2)]) (g := gName 2) (tt := tTru K (tDGet (tVar 3) (tVar 2))) (by rfl) nd (pi_keys (pv 3)) (blkOk_by (own := [("key", 2)]) (N := N_packed_plus) (sc := defScope s_packed_plus) (by decide +kernel))
          (fun _ _ _ _ _ => pg_name (i := 2) nd rfl (.inl rfl)) (fun _ _ _ _ _ => pts_one (pt_truth (pe_dget hu (pv 3) (pv 2) (fun _ _ => rfl)) (by intro _; rfl))) (fun _ _ _ _ _ => pv 2) (fun _ _ _ _ _ => pe_dget hu (pv 3) (pv 2) (fun _ _ => rfl))))))), ?_⟩
    refine ⟨a, _, hA.at_, trivial, fun od => ?_⟩
    refine ⟨.ref a, rfl, a, od, rfl, .inl ⟨_, upd_same, fun e ne => ?_⟩⟩
    have ha0 : upd H a (.frz od (.dK (A.map encI))) a = some (.frz od (.dK (A.map encI))) := upd_same
    have ae : a ≠ e := ne_of_none ha0 ne
    refine dc_it (walk_keys (d := a) (o := od) (kvs := A.map encI)) (fun i H' => H' e = some (.dK ((A.take i).map encI)) ∧ But e (upd H a (.frz od (.dK (A.map encI)))) H') ⟨upd_same, But.start⟩ (fun i H' _ h => h.2 _ _ ae ha0) (fun i x H1 H2 hi h hy => ?_) (fun H1 h => ?_)
    · obtain ⟨rfl, k, v, e1, rfl⟩ := hy
      obtain ⟨p, hp, ep⟩ := Option.map_eq_some_iff.mp (by rw [List.getElem?_map] at e1; exact e1)
      cases ep
      have hAF := h.2 _ _ ae ha0
      refine ⟨rfl, .int p.1, rfl, .ref a, rfl, .int p.1, rfl, a, .int p.2, rfl, ?_, A.take i |>.map encI, Sum.inl p.1, rfl, h.1, ?_, ?_, h.2.step (Same.refl _)⟩
      · rw [show some (V.int p.2) = (getI A p.1).map V.int by rw [at_get hA.nd hp]; rfl]
        exact dget (rdF hAF)
      · rw [List.length_map, List.length_take, sizeLine_eq]
        omega
      · rw [upd_same, PK.putK_enc, setI_new (nodup_at hA.nd hp), List.take_add_one, hp]
        rfl
    · obtain ⟨hT, kp⟩ := h
      rw [List.length_map, List.take_length] at hT
      refine ⟨kp _ _ ae ha0, ?_⟩
      have ne0 : H e = none := by rw [upd_ne ae.symm] at ne; exact ne
      have s1 : Same H (upd H1 a (.dK (A.map encI))) := fun c o ec => by
        by_cases z : c = a
        · rw [z] at ec ⊢
          rw [upd_same, ← hA.at_, ec]
        · rw [upd_ne z]
          exact kp c o (ne_of_none ec ne0) (by rw [upd_ne z]; exact ec)
      have hT2 : upd H1 a (.dK (A.map encI)) e = some (.dK (A.map encI)) := by rw [upd_ne ae.symm]; exact hT
      generalize upd H1 a (.dK (A.map encI)) = H2 at s1 hT2
      have hB2 := hB.same s1
      have be : b ≠ e := ne_of_none hB.at_ ne0
      -- the other one
      refine ⟨b, _, hB2.at_, trivial, fun od2 => ?_⟩
      have hb0 : upd H2 b (.frz od2 (.dK (B.map encI))) b = some (.frz od2 (.dK (B.map encI))) := upd_same
      have he0 : upd H2 b (.frz od2 (.dK (B.map encI))) e = some (.dK (A.map encI)) := by rw [upd_ne be.symm]; exact hT2
      refine ⟨.ref b, rfl, b, od2, _, rfl, upd_same, for_it (walk_items (d := b) (o := od2) (kvs := B.map encI)) (fun i σ H' => ∃ y2 y4, σ = [some (.ref a), some (.ref b), y2, some (.ref e), y4] ∧ H' e = some (.dK ((gath A (B.take i)).map encI)) ∧ But e (upd H2 b (.frz od2 (.dK (B.map encI)))) H')
        ⟨none, none, rfl, he0, fun _ _ _ x => x⟩ (fun i σ H' _ h => ?_) (fun i x σ H0 H' hi h hy => ?_) (fun σ H' h => ?_)⟩
      · obtain ⟨_, _, _, _, kp⟩ := h
        exact kp _ _ be hb0
      · obtain ⟨y2, y4, rfl, hG, kp2⟩ := h
        obtain ⟨T, kx, vx, rfl, nT, rfl, e1, e2⟩ := hy
        dsimp only at e1 e2
        obtain ⟨kv, hkv, rfl⟩ := Option.map_eq_some_iff.mp e1
        rw [hkv] at e2
        cases e2
        rw [List.getElem?_map] at hkv
        obtain ⟨p, hp, rfl⟩ := Option.map_eq_some_iff.mp hkv
        have sT := same_new (o := .tup [kV (encI p).1, (encI p).2]) nT
        have hT := sT _ _ hG
        refine ⟨T, _, rfl, sqtOf upd_same, rfl, _, _, rfl, _, _, rfl, rfl, ?_⟩
        refine ⟨.ref e, rfl, e, rfl, .inl ⟨_, .inl hT⟩, .int p.1, rfl, (getI (gath A (B.take i)) p.1).map V.int, dget (.inl hT), ?_⟩
        rw [getD_int]
        refine ⟨.int p.2, rfl, _, _, rfl, rfl, .ref e, rfl, .int p.1, rfl, e, _, rfl, DPut.k (k := Sum.inl p.1) hT ?_, some (.int p.1), some (.int p.2), rfl, ?_, kp2.step sT⟩
        · have := gath_len (B.take i) A
          rw [List.length_take] at this
          rw [List.length_map, sizeLine_eq]
          omega
        · rw [upd_same, PK.putK_enc, List.take_add_one, hp]
          show _ = some (HO.dK ((gath A (B.take i ++ [p])).map encI))
          rw [gath_snoc]
          rfl
      · obtain ⟨y2, y4, rfl, hG, kp2⟩ := h
        rw [List.length_map, List.take_length] at hG
        refine ⟨kp2 _ _ be hb0, ?_⟩
        have hG2 : upd H' b (.dK (B.map encI)) e = some (.dK ((gath A B).map encI)) := by rw [upd_ne be.symm]; exact hG
        have k2 : But e H2 (upd H' b (.dK (B.map encI))) := fun c o hc ec => by
          by_cases z : c = b
          · rw [z] at ec ⊢
            rw [upd_same, ← hB2.at_, ec]
          · rw [upd_ne z]
            exact kp2 c o hc (by rw [upd_ne z]; exact ec)
        have k1 : Same H (upd H' b (.dK (B.map encI))) := fun c o ec => k2 c o (ne_of_none ec ne0) (s1 c o ec)
        generalize upd H' b (.dK (B.map encI)) = H3 at hG2 k1
        have nT := gath_nodup B A hA.nd
        have lT := gath_len B A
        generalize gath A B = T at hG2 nT lT q
        refine ⟨e, _, hG2, trivial, fun od3 => ?_⟩
        have he3 : upd H3 e (.frz od3 (.dK (T.map encI))) e = some (.frz od3 (.dK (T.map encI))) := upd_same
        refine ⟨.ref e, rfl, e, od3, rfl, .inl ⟨_, upd_same, fun r nr => ?_⟩⟩
        have er : e ≠ r := ne_of_none he3 nr
        refine dc_it (walk_keys (d := e) (o := od3) (kvs := T.map encI)) (fun i H' => H' r = some (.dK (((T.take i).filter nzI).map encI)) ∧ But r (upd H3 e (.frz od3 (.dK (T.map encI)))) H') ⟨upd_same, But.start⟩ (fun i H' _ h => h.2 _ _ er he3) (fun i x H1 H2 hi h hy => ?_) (fun H1 h => ?_)
        · obtain ⟨rfl, k, v, e1, rfl⟩ := hy
          obtain ⟨p, hp, ep⟩ := Option.map_eq_some_iff.mp (by rw [List.getElem?_map] at e1; exact e1)
          cases ep
          have hTF := h.2 _ _ er he3
          have g1 : DGet H2 e (.int p.1) (some (.int p.2)) := by
            rw [show some (V.int p.2) = (getI T p.1).map V.int by rw [at_get nT hp]; rfl]
            exact dget (rdF hTF)
          refine ⟨rfl, .ref e, rfl, .int p.1, rfl, e, .int p.2, rfl, g1, _, rfl, ite2 (fun e0 => ?_) (fun e0 => ?_)⟩
          · have hp0 : p.2 ≠ 0 := fun z => by rw [z] at e0; exact absurd e0 (by decide)
            refine ⟨.int p.1, rfl, .ref e, rfl, .int p.1, rfl, e, .int p.2, rfl, g1, _, Sum.inl p.1, rfl, h.1, ?_, ?_, h.2.step (Same.refl _)⟩
            · have := List.length_filter_le nzI (T.take i)
              rw [List.length_take] at this
              rw [List.length_map, sizeLine_eq]
              omega
            · rw [upd_same, PK.putK_enc, setI_new, filter_stepI hp, if_neg hp0]
              intro z
              obtain ⟨x, hx, ex⟩ := List.mem_map.mp z
              exact nodup_at nT hp (by rw [← ex]; exact List.mem_map_of_mem (List.mem_filter.mp hx).1)
          · have hp0 : p.2 = 0 := by
              by_cases z : p.2 = 0
              · exact z
              · exact absurd (by simpa using z) e0
            refine ⟨?_, h.2⟩
            rw [filter_stepI hp, if_pos hp0, List.append_nil]
            exact h.1
        · obtain ⟨hR, kp3⟩ := h
          rw [List.length_map, List.take_length] at hR
          refine ⟨kp3 _ _ er he3, ?_⟩
          have nr0 : H3 r = none := by rw [upd_ne er.symm] at nr; exact nr
          have s3 : Same H3 (upd H1 e (.dK (T.map encI))) := fun c o ec => by
            by_cases z : c = e
            · rw [z] at ec ⊢
              rw [upd_same, ← hG2, ec]
            · rw [upd_ne z]
              exact kp3 c o (ne_of_none ec nr0) (by rw [upd_ne z]; exact ec)
          refine q _ r (k1.trans s3) (k1.free nr0) ⟨by rw [upd_ne er.symm]; exact hR, nodI_filter nT⟩
end
end NH
set_option Elab.async false
set_option linter.all false
set_option maxRecDepth 100000
set_option maxHeartbeats 1000000
set_option exponentiation.threshold 100000
namespace NH
open PySem PySem.Spec PyProof.Rows L2 R1 ZN PK RS
def prods (A B : Is) : Is := A.flatMap fun p => B.map fun q => (p.1 + q.1, p.2 * q.2)
theorem prods_step {A B : Is} {i : Nat} {p : Int × Int} (h : A[i]? = some p) : prods (A.take (i + 1)) B = prods (A.take i) B ++ B.map fun q => (p.1 + q.1, p.2 * q.2) := by
  unfold prods
  rw [List.take_add_one, h, List.flatMap_append]
  simp
theorem prods_len (A B : Is) : (prods A B).length = A.length * B.length := by
  unfold prods
  induction A with
  | nil => simp
  | cons p A ih =>
    rw [List.flatMap_cons, List.length_append, ih, List.length_map, List.length_cons, Nat.succ_mul]
    omega
theorem paired_at {α β : Type} {R : α → β → Prop} {xs : List α} {ys : List β} (h : Paired R xs ys) : ∀ {j : Nat} {x : α}, xs[j]? = some x → ∃ y, ys[j]? = some y ∧ R x y := by
  induction h with
  | nil => intro j x e; simp at e
  | cons h t ih =>
    intro j x e
    cases j with
    | zero =>
      cases e
      exact ⟨_, rfl, h⟩
    | succ j => exact ih e
section
variable {P : Program} {w : World} {K : PySem.W.Frag} {mg : Str → Option Value} {base : Heap} {f : Nat → Addr} {d : Nat → FuncData}
def spPT : Sp := fun vs H Q _ => ∃ (a b : Addr) (A B : Is), vs = [.ref a, .ref b] ∧ IdAt H a A ∧ IdAt H b B ∧ A.length ≤ 1000 ∧ B.length ≤ 1000 ∧ (∀ p ∈ A, p.2.natAbs < 2 ^ 40000) ∧ (∀ p ∈ B, p.2.natAbs < 2 ^ 40000) ∧
  ∀ H' (e : Addr) (X Y : Is), Same H H' → H e = none → ((X = A ∧ Y = B) ∨ (X = B ∧ Y = A)) → IdAt H' e ((gath [] (prods X Y)).filter nzI) → Q (.ref e) H'
theorem ok_pt {k : Nat} (D : Defs K mg f d) : FnOk P w K mg base CX0 (k + 1) (f i_packed_times) (d i_packed_times) ["one", "other"] spPT := by
  refine D.F_packed_times.ok sc_packed_times (fun vs H Q E h => ?_) (fun cdv A outer s H vs Q E hr h => ?_)
  · obtain ⟨a, b, A, B, rfl, _⟩ := h
    rfl
  · obtain ⟨a0, b0, A0, B0, rfl, hA0, hB0, hlA0, hlB0, zA0, zB0, q⟩ := h
    have nd := sc_packed_times.nd
    have hu := hu_of hr
    refine ⟨_, Evl.pss_cut (ps_if (pt_cmpR op_gt (pe_callB call_lenD (by rfl) D.z_len PySem.boot_len (pa_cons (pv 0) pa_nil)) (pe_callB call_lenD (by rfl) D.z_len PySem.boot_len (pa_cons (pv 1) pa_nil)) (nomark _))
        (pss_one (ps_par (i := 0) (j := 1) (by rfl) nd rfl rfl (by decide) rfl rfl (pa_cons (pv 1) (pa_cons (pv 0) pa_nil)) (by rfl)))
        pss_nil)
      (pss_cons (ps_set (i := 2) nd rfl (.inl rfl) (LiI.pe_listItems rfl (pv 1) (by rfl) D.z_list (by decide +kernel)))
      (pss_cons (ps_set (i := 3) nd rfl (.inr rfl) (pe_dnewK))
      (pss_cons (ps_lock (ps_for PassesOwn.never rfl (pi_items (pv 0)) (pg_tup rfl (pgs_cons (pg_name (i := 4) nd rfl (.inl rfl)) (pgs_cons (pg_name (i := 5) nd rfl (.inl rfl)) pgs_nil)))
        (pss_one (ps_for PassesOwn.never rfl (pi_list (pv 2)) (pg_tup rfl (pgs_cons (pg_name (i := 6) nd rfl (.inl rfl)) (pgs_cons (pg_name (i := 7) nd rfl (.inl rfl)) pgs_nil)))
            (pss_cons (ps_set (i := 8) nd rfl (.inl rfl) (pe_op op_add (pv 4) (pv 6)))
              (pss_one (ps_dput hu (pv 3) (pv 8) (pe_op op_add (pe_dget2 hu (pv 3) (pv 8) pe_int ⟨rfl, rfl, rfl, rfl⟩) (pe_op op_mulX (pv 5) (pv 7))) rfl)))))))
      (pss_one (ps_ret (pe_lock (pe_dc (wi := iKeys (tVar 3)) (own := [("key", 4)]) (g := gName 4) (tt := tTru K (tDGet (tVar 3) (tVar 4))) (by rfl) nd (pi_keys (pv 3)) (blkOk_by (own := [("key", 4)]) (N := N_packed_times) (sc := defScope s_packed_times) (by decide +kernel))
          (fun _ _ _ _ _ => pg_name (i := 4) nd rfl (.inl rfl)) (fun _ _ _ _ _ => pts_one (pt_truth (pe_dget hu (pv 3) (pv 4) (fun _ _ => rfl)) (by intro _; rfl))) (fun _ _ _ _ _ => pv 4) (fun _ _ _ _ _ => pe_dget hu (pv 3) (pv 4) (fun _ _ => rfl))))))))), ?_⟩
    refine ⟨fun σ' H2 => ∃ (a b : Addr) (A B : Is), σ' = [some (.ref a), some (.ref b), none, none, none, none, none, none, none] ∧ H2 = H ∧ IdAt H a A ∧ IdAt H b B ∧ ((A = A0 ∧ B = B0) ∨ (A = B0 ∧ B = A0)), ?_, ?_⟩
    · refine ⟨.ref a0, rfl, a0, _, rfl, hA0.at_, .ref b0, rfl, b0, _, rfl, hB0.at_, _, _, rfl, rfl, _, rfl, ite2 (fun e => ?_) (fun e => ?_)⟩
      · exact ⟨.ref b0, rfl, .ref a0, rfl, _, _, rfl, b0, a0, B0, A0, rfl, rfl, hB0, hA0, .inr ⟨rfl, rfl⟩⟩
      · exact ⟨a0, b0, A0, B0, rfl, rfl, hA0, hB0, .inl ⟨rfl, rfl⟩⟩
    rintro σ' H2 ⟨a, b, A, B, rfl, rfl, hA, hB, hAB⟩
    have hlA : A.length ≤ 1000 := by rcases hAB with ⟨rfl, rfl⟩ | ⟨rfl, rfl⟩ <;> assumption
    have hlB : B.length ≤ 1000 := by rcases hAB with ⟨rfl, rfl⟩ | ⟨rfl, rfl⟩ <;> assumption
    have zA : ∀ p ∈ A, p.2.natAbs < 2 ^ 40000 := by rcases hAB with ⟨rfl, rfl⟩ | ⟨rfl, rfl⟩ <;> assumption
    have zB : ∀ p ∈ B, p.2.natAbs < 2 ^ 40000 := by rcases hAB with ⟨rfl, rfl⟩ | ⟨rfl, rfl⟩ <;> assumption
    dsimp only [tSeq, tAsg, gName]
    refine ⟨.ref b, rfl, b, _, rfl, hB.at_, fun H1 l ts s1 nl nts lts hl pr => ?_⟩
    refine fun e ne => ?_
    have s2 : Same H2 (upd H1 e (.dK [])) := Same.trans s1 (same_new ne)
    have ae : a ≠ e := fun z => by
      have := s1 _ _ hA.at_
      rw [z, ne] at this
      cases this
    have le : l ≠ e := fun z => by rw [z, ne] at hl; cases hl
    have lts2 : ts.length = B.length := by
      have := Paired.length pr
      rw [List.length_map] at this
      exact this
    have ne0 : H2 e = none := by
      cases z : H2 e with
      | none => rfl
      | some o =>
        have := s1 _ _ z
        rw [ne] at this
        cases this
    have hA3 : upd H1 e (.dK []) a = some (.dK (A.map encI)) := s2 _ _ hA.at_
    have hl3 : upd H1 e (.dK []) l = some (.lst (ts.map V.ref)) := by rw [upd_ne le]; exact hl
    have he3 : upd H1 e (.dK []) e = some (.dK []) := upd_same
    have pr3 : ∀ {j : Nat} {t : Addr}, ts[j]? = some t → ∃ q : Int × Int, B[j]? = some q ∧ upd H1 e (.dK []) t = some (.tup [.int q.1, .int q.2]) := fun {j t} hj => by
      obtain ⟨y, hy, hz⟩ := paired_at pr hj
      rw [List.getElem?_map] at hy
      obtain ⟨q, hq, rfl⟩ := Option.map_eq_some_iff.mp hy
      exact ⟨q, hq, by rw [upd_ne (fun z => by rw [z, ne] at hz; cases hz)]; exact hz⟩
    generalize upd H1 e (.dK []) = H3 at s2 hA3 hl3 he3 pr3
    refine ⟨a, _, hA3, trivial, fun od => ?_⟩
    have al : a ≠ l := fun z => by rw [z, hl3] at hA3; cases hA3
    have hF : upd H3 a (.frz od (.dK (A.map encI))) a = some (.frz od (.dK (A.map encI))) := upd_same
    have tF : ∀ {b : Addr} {o : HO}, b ≠ a → H3 b = some o → upd H3 a (.frz od (.dK (A.map encI))) b = some o := fun hb e => by rw [upd_ne hb]; exact e
    refine ⟨.ref a, rfl, a, od, _, rfl, hF, for_it (walk_items (d := a) (o := od) (kvs := A.map encI)) (fun i σ H' => ∃ y4 y5 y6 y7 y8, σ = [some (.ref a), some (.ref b), some (.ref l), some (.ref e), y4, y5, y6, y7, y8] ∧ H' e = some (.dK ((gath [] (prods (A.take i) B)).map encI)) ∧ But e (upd H3 a (.frz od (.dK (A.map encI)))) H')
      ⟨none, none, none, none, none, rfl, tF ae.symm he3, fun _ _ _ x => x⟩ (fun i σ H' _ h => ?_) (fun i x σ H0 H' hi h hy => ?_) (fun σ H' h => ?_)⟩
    · obtain ⟨_, _, _, _, _, _, _, kp⟩ := h
      exact kp _ _ ae hF
    · obtain ⟨y4, y5, y6, y7, y8, rfl, hG, kp⟩ := h
      obtain ⟨T, kx, vx, rfl, nT, rfl, e1, e2⟩ := hy
      dsimp only at e1 e2
      obtain ⟨kv, hkv, rfl⟩ := Option.map_eq_some_iff.mp e1
      rw [hkv] at e2
      cases e2
      rw [List.getElem?_map] at hkv
      obtain ⟨p, hp, rfl⟩ := Option.map_eq_some_iff.mp hkv
      have sT := same_new (o := .tup [kV (encI p).1, (encI p).2]) nT
      have hT := sT _ _ hG
      have kpT := kp.then sT
      refine ⟨T, _, rfl, sqtOf upd_same, rfl, _, _, rfl, _, _, rfl, rfl, ?_⟩
      generalize upd H0 T (.tup [kV (encI p).1, (encI p).2]) = H4 at sT hT kpT
      have hl4 : H4 l = some (.lst (ts.map V.ref)) := kpT _ _ le (tF (Ne.symm al) hl3)
      have hil : i < A.length := (List.getElem?_eq_some_iff.mp hp).1
      refine ⟨.ref l, rfl, l, rfl, ⟨_, sqlOf hl4⟩, for_list (xs := ts.map V.ref) (fun j σ H' => ∃ y6 y7 y8, σ = [some (.ref a), some (.ref b), some (.ref l), some (.ref e), some (.int p.1), some (.int p.2), y6, y7, y8] ∧ H' e = some (.dK ((gath [] (prods (A.take i) B ++ (B.take j).map fun q => (p.1 + q.1, p.2 * q.2))).map encI)) ∧ But e (upd H3 a (.frz od (.dK (A.map encI)))) H')
        ⟨y6, y7, y8, rfl, by rw [List.take_zero, List.map_nil, List.append_nil]; exact hT, kpT⟩ (fun j σ H' _ h => ?_) (fun j x σ H' hx h => ?_) (fun σ H' h => ?_)⟩
      · obtain ⟨_, _, _, _, _, kp2⟩ := h
        exact sqlOf (kp2 _ _ le (tF (Ne.symm al) hl3))
      · obtain ⟨y6, y7, y8, rfl, hG2, kp2⟩ := h
        rw [List.getElem?_map] at hx
        obtain ⟨t, ht, rfl⟩ := Option.map_eq_some_iff.mp hx
        obtain ⟨r, hr1, hr2⟩ := pr3 ht
        have ta : t ≠ a := fun z => by rw [z, hA3] at hr2; cases hr2
        have te : t ≠ e := fun z => by rw [z, he3] at hr2; cases hr2
        have ht2 := kp2 _ _ te (tF ta hr2)
        have hjl : j < B.length := (List.getElem?_eq_some_iff.mp hr1).1
        refine ⟨t, _, rfl, sqtOf ht2, rfl, _, _, rfl, _, _, rfl, rfl, ?_⟩
        refine ⟨.int p.1, rfl, .int r.1, rfl, _, _, rfl, rfl, ?_⟩
        have hlen : (gath [] (prods (A.take i) B ++ (B.take j).map fun q => (p.1 + q.1, p.2 * q.2))).length ≤ 1001000 := by
          have h1 := gath_len (prods (A.take i) B ++ (B.take j).map fun q => (p.1 + q.1, p.2 * q.2)) []
          rw [List.length_append, prods_len, List.length_map, List.length_take, List.length_take] at h1
          have h2 : min i A.length * B.length ≤ 1000 * 1000 := Nat.mul_le_mul (by omega) hlB
          rw [List.length_nil] at h1
          omega
        have hsnoc : gath [] (prods (A.take i) B ++ (B.take (j + 1)).map fun q => (p.1 + q.1, p.2 * q.2)) = addI (gath [] (prods (A.take i) B ++ (B.take j).map fun q => (p.1 + q.1, p.2 * q.2))) (p.1 + r.1) (p.2 * r.2) := by
          rw [List.take_add_one, hr1, List.map_append, ← List.append_assoc]
          exact gath_snoc _ _ _
        rw [hsnoc]
        generalize gath [] (prods (A.take i) B ++ (B.take j).map fun q => (p.1 + q.1, p.2 * q.2)) = T2 at hG2 hlen
        refine ⟨.ref e, rfl, e, rfl, .inl ⟨_, .inl hG2⟩, .int (p.1 + r.1), rfl, (getI T2 (p.1 + r.1)).map V.int, dget (.inl hG2), ?_⟩
        rw [getD_int]
        refine ⟨.int p.2, rfl, .int r.2, rfl, _, _, rfl, rfl, mulx (zA p (List.mem_of_getElem? hp)) (zB r (List.mem_of_getElem? hr1)) (by decide), _, _, rfl, rfl, .ref e, rfl, .int (p.1 + r.1), rfl, e, _, rfl, DPut.k (k := Sum.inl (p.1 + r.1)) hG2 ?_, some (.int r.1), some (.int r.2), some (.int (p.1 + r.1)), rfl, ?_, kp2.step (Same.refl _)⟩
        · rw [List.length_map, sizeLine_eq]
          omega
        · rw [upd_same, PK.putK_enc]
          rfl
      · obtain ⟨y6, y7, y8, rfl, hG2, kp2⟩ := h
        rw [List.length_map, List.take_of_length_le (Nat.le_of_eq lts2.symm), ← prods_step hp] at hG2
        exact ⟨_, _, _, _, _, rfl, hG2, kp2⟩
    · obtain ⟨y4, y5, y6, y7, y8, rfl, hG, kp2⟩ := h
      rw [List.length_map, List.take_length] at hG
      refine ⟨kp2 _ _ ae hF, ?_⟩
      have hG2 : upd H' a (.dK (A.map encI)) e = some (.dK ((gath [] (prods A B)).map encI)) := by rw [upd_ne ae.symm]; exact hG
      have k1 : Same H2 (upd H' a (.dK (A.map encI))) := fun c o ec => by
        by_cases z : c = a
        · rw [z] at ec ⊢
          rw [upd_same, ← hA.at_, ec]
        · rw [upd_ne z]
          exact kp2 c o (ne_of_none ec ne0) (tF z (s2 _ _ ec))
      generalize upd H' a (.dK (A.map encI)) = H5 at hG2 k1
      have nT : NodI (gath [] (prods A B)) := gath_nodup _ _ List.nodup_nil
      have lT : (gath [] (prods A B)).length ≤ 1001000 := by
        have h1 := gath_len (prods A B) []
        rw [prods_len, List.length_nil] at h1
        have h2 : A.length * B.length ≤ 1000 * 1000 := Nat.mul_le_mul hlA hlB
        omega
      have q2 := fun (H' : Hp) (e : Addr) (s : Same H2 H') (n : H2 e = none) => q H' e A B s n hAB
      generalize gath [] (prods A B) = T at hG2 nT lT q2
      refine ⟨e, _, hG2, trivial, fun od3 => ?_⟩
      have he5 : upd H5 e (.frz od3 (.dK (T.map encI))) e = some (.frz od3 (.dK (T.map encI))) := upd_same
      refine ⟨.ref e, rfl, e, od3, rfl, .inl ⟨_, upd_same, fun r nr => ?_⟩⟩
      have er : e ≠ r := ne_of_none he5 nr
      refine dc_it (walk_keys (d := e) (o := od3) (kvs := T.map encI)) (fun i H' => H' r = some (.dK (((T.take i).filter nzI).map encI)) ∧ But r (upd H5 e (.frz od3 (.dK (T.map encI)))) H') ⟨upd_same, But.start⟩ (fun i H' _ h => h.2 _ _ er he5) (fun i x H1 H2 hi h hy => ?_) (fun H1 h => ?_)
      · obtain ⟨rfl, k, v, e1, rfl⟩ := hy
        obtain ⟨p, hp, ep⟩ := Option.map_eq_some_iff.mp (by rw [List.getElem?_map] at e1; exact e1)
        cases ep
        have hTF := h.2 _ _ er he5
        have g1 : DGet H2 e (.int p.1) (some (.int p.2)) := by
          rw [show some (V.int p.2) = (getI T p.1).map V.int by rw [at_get nT hp]; rfl]
          exact dget (rdF hTF)
        refine ⟨rfl, .ref e, rfl, .int p.1, rfl, e, .int p.2, rfl, g1, _, rfl, ite2 (fun e0 => ?_) (fun e0 => ?_)⟩
        · have hp0 : p.2 ≠ 0 := fun z => by rw [z] at e0; exact absurd e0 (by decide)
          refine ⟨.int p.1, rfl, .ref e, rfl, .int p.1, rfl, e, .int p.2, rfl, g1, _, Sum.inl p.1, rfl, h.1, ?_, ?_, h.2.step (Same.refl _)⟩
          · have := List.length_filter_le nzI (T.take i)
            rw [List.length_take] at this
            rw [List.length_map, sizeLine_eq]
            omega
          · rw [upd_same, PK.putK_enc, setI_new, filter_stepI hp, if_neg hp0]
            intro z
            obtain ⟨x, hx, ex⟩ := List.mem_map.mp z
            exact nodup_at nT hp (by rw [← ex]; exact List.mem_map_of_mem (List.mem_filter.mp hx).1)
        · have hp0 : p.2 = 0 := by
            by_cases z : p.2 = 0
            · exact z
            · exact absurd (by simpa using z) e0
          refine ⟨?_, h.2⟩
          rw [filter_stepI hp, if_pos hp0, List.append_nil]
          exact h.1
      · obtain ⟨hR, kp3⟩ := h
        rw [List.length_map, List.take_length] at hR
        refine ⟨kp3 _ _ er he5, ?_⟩
        have nr0 : H5 r = none := by rw [upd_ne er.symm] at nr; exact nr
        have s3 : Same H5 (upd H1 e (.dK (T.map encI))) := fun c o ec => by
          by_cases z : c = e
          · rw [z] at ec ⊢
            rw [upd_same, ← hG2, ec]
          · rw [upd_ne z]
            exact kp3 c o (ne_of_none ec nr0) (by rw [upd_ne z]; exact ec)
        refine q2 _ r (k1.trans s3) (k1.free nr0) ⟨by rw [upd_ne er.symm]; exact hR, nodI_filter nT⟩
end
end NH
set_option Elab.async false
set_option linter.all false
set_option maxRecDepth 100000
set_option maxHeartbeats 1000000
set_option exponentiation.threshold 100000
namespace NH
open PySem PySem.Spec PyProof.Rows L2 R1 ZN PK RS
/-! ### packed sums without letters -/
def AllZ (D : Is) : Prop := ∀ q ∈ D, q.1 = 0
def sumI : Is → Int
  | [] => 0
  | q :: D => q.2 + sumI D
theorem totZ : ∀ {D : Is}, AllZ D → totI 0 D = sumI D
  | [], _ => rfl
  | q :: D, h => by
    rw [totI, sumI, if_pos (h q List.mem_cons_self).symm, totZ fun p hp => h p (List.mem_cons_of_mem _ hp)]
theorem sumI_app : ∀ A B : Is, sumI (A ++ B) = sumI A + sumI B
  | [], B => by simp [sumI]
  | q :: A, B => by
    rw [List.cons_append, sumI, sumI, sumI_app A B]
    omega
theorem sumI_row (p : Int × Int) : ∀ B : Is, sumI (B.map fun q => (p.1 + q.1, p.2 * q.2)) = p.2 * sumI B
  | [] => by simp [sumI]
  | q :: B => by
    rw [List.map_cons, sumI, sumI, sumI_row p B, Int.mul_add]
theorem sumI_prods : ∀ A B : Is, sumI (prods A B) = sumI A * sumI B
  | [], B => by simp [prods, sumI]
  | p :: A, B => by
    have := sumI_prods A B
    unfold prods at this ⊢
    rw [List.flatMap_cons, sumI_app, sumI_row, this, sumI, Int.add_mul]
theorem allZ_prods {A B : Is} (hA : AllZ A) (hB : AllZ B) : AllZ (prods A B) := fun q hq => by
  obtain ⟨p, hp, h⟩ := List.mem_flatMap.mp hq
  obtain ⟨r, hr, rfl⟩ := List.mem_map.mp h
  show p.1 + r.1 = 0
  rw [hA p hp, hB r hr]
  rfl
theorem allZ_gath : ∀ {W A : Is}, AllZ A → AllZ W → AllZ (gath A W)
  | [], _, h, _ => h
  | q :: W, A, h, h2 => by
    refine allZ_gath (W := W) (A := addI A q.1 q.2) (fun p hp => ?_) fun p hp => h2 p (List.mem_cons_of_mem _ hp)
    rcases setI_mem hp with ⟨hp, _⟩ | rfl
    · exact h p hp
    · exact h2 q List.mem_cons_self
/-- at d: a packed sum without letters that is x -/
def ZAt (H : Hp) (d : Addr) (x : Int) : Prop := ∃ D : Is, IdAt H d D ∧ AllZ D ∧ vI D 0 = x
theorem ZAt.same {H H' : Hp} {d : Addr} {x : Int} (h : ZAt H d x) (s : Same H H') : ZAt H' d x := let ⟨D, h1, h2⟩ := h; ⟨D, h1.same s, h2⟩
theorem allZ_len {D : Is} (h : AllZ D) (n : NodI D) : D.length ≤ 1 := by
  match D, h, n with
  | [], _, _ => exact Nat.zero_le _
  | [q], _, _ => exact Nat.le_refl _
  | p :: q :: D, h, n =>
    exfalso
    have h1 := (List.nodup_cons.mp n).1
    apply h1
    show p.1 ∈ _
    rw [h p List.mem_cons_self, ← h q (List.mem_cons_of_mem _ List.mem_cons_self)]
    exact List.mem_map_of_mem List.mem_cons_self
theorem allZ_val {D : Is} (h : AllZ D) (n : NodI D) {q : Int × Int} (hq : q ∈ D) : vI D 0 = q.2 := by
  have : getI D q.1 = some q.2 := (getI_mem n).mpr hq
  rw [h q hq] at this
  unfold vI
  rw [this]
  rfl
theorem zat_empty {H : Hp} {e : Addr} (h : H e = some (.dK [])) : ZAt H e 0 := ⟨[], ⟨h, List.nodup_nil⟩, (fun q hq => nomatch hq), rfl⟩
theorem zat_one {H : Hp} {e : Addr} {x : Int} (h : H e = some (.dK [(Sum.inl 0, .int x)])) : ZAt H e x := ⟨[(0, x)], ⟨h, List.nodup_cons.mpr ⟨by simp, List.nodup_nil⟩⟩, (fun q hq => by cases List.mem_singleton.mp hq; rfl), rfl⟩
section
variable {P : Program} {w : World} {K : PySem.W.Frag} {mg : Str → Option Value} {base : Heap} {f : Nat → Addr} {d : Nat → FuncData}
def spZP : Sp := fun vs H Q _ => ∃ (a b : Addr) (x y : Int), vs = [.ref a, .ref b] ∧ ZAt H a x ∧ ZAt H b y ∧ ∀ H' (e : Addr), Same H H' → H e = none → ZAt H' e (x + y) → Q (.ref e) H'
theorem ok_zp {k : Nat} (D : Defs K mg f d) : FnOk P w K mg base CX0 (k + 1) (f i_packed_plus) (d i_packed_plus) ["one", "other"] spZP := by
  refine (ok_pp D).imp fun vs H Q E h => ?_
  obtain ⟨a, b, x, y, rfl, ⟨A, hA, zA, rfl⟩, ⟨B, hB, zB, rfl⟩, q⟩ := h
  have l1 := allZ_len zA hA.nd
  have l2 := allZ_len zB hB.nd
  refine ⟨a, b, A, B, rfl, hA, hB, by omega, fun H' e s n he => q H' e s n ⟨_, he, fun r hr => allZ_gath zA zB r (List.mem_filter.mp hr).1, ?_⟩⟩
  rw [vI_filter (gath_nodup _ _ hA.nd), vI_gath, ← vI_tot hB.nd]
def spZT : Sp := fun vs H Q _ => ∃ (a b : Addr) (x y : Int), vs = [.ref a, .ref b] ∧ ZAt H a x ∧ ZAt H b y ∧ x.natAbs < 2 ^ 40000 ∧ y.natAbs < 2 ^ 40000 ∧ ∀ H' (e : Addr), Same H H' → H e = none → ZAt H' e (x * y) → Q (.ref e) H'
theorem ok_zt {k : Nat} (D : Defs K mg f d) : FnOk P w K mg base CX0 (k + 1) (f i_packed_times) (d i_packed_times) ["one", "other"] spZT := by
  refine (ok_pt D).imp fun vs H Q E h => ?_
  obtain ⟨a, b, x, y, rfl, ⟨A, hA, zA, rfl⟩, ⟨B, hB, zB, rfl⟩, bx, by_, q⟩ := h
  have l1 := allZ_len zA hA.nd
  have l2 := allZ_len zB hB.nd
  refine ⟨a, b, A, B, rfl, hA, hB, by omega, by omega, fun p hp => by rw [← allZ_val zA hA.nd hp]; exact bx, fun p hp => by rw [← allZ_val zB hB.nd hp]; exact by_, fun H' e X Y s n hXY he => q H' e s n ⟨_, he, fun r hr => allZ_gath (A := []) (fun q hq => by cases hq) (allZ_prods ?_ ?_) r (List.mem_filter.mp hr).1, ?_⟩⟩
  · rcases hXY with ⟨rfl, rfl⟩ | ⟨rfl, rfl⟩ <;> assumption
  · rcases hXY with ⟨rfl, rfl⟩ | ⟨rfl, rfl⟩ <;> assumption
  have e1 : vI A 0 * vI B 0 = sumI X * sumI Y := by
    rw [vI_tot hA.nd, vI_tot hB.nd, totZ zA, totZ zB]
    rcases hXY with ⟨rfl, rfl⟩ | ⟨rfl, rfl⟩
    · rfl
    · exact Int.mul_comm _ _
  rw [e1, vI_filter (gath_nodup (prods X Y) [] (show NodI [] from List.nodup_nil)), vI_gath, totZ, sumI_prods]
  · show 0 + _ = _
    omega
  · rcases hXY with ⟨rfl, rfl⟩ | ⟨rfl, rfl⟩ <;> exact allZ_prods (by assumption) (by assumption)
def spZB : Sp := fun vs H Q _ => ∃ (a b : Addr) (x y : Int) (n E : Nat), vs = [.ref a, .ref b, .int (n : Nat)] ∧ ZAt H a x ∧ H b = some (.dK [(Sum.inl 0, .int y)]) ∧ x.natAbs < 2 ^ 40000 ∧ y.natAbs < 2 ^ E ∧ E ≤ 200 ∧ n ≤ 100 ∧
  ∀ H' (e : Addr), Same H H' → H e = none → ZAt H' e (x * y ^ n) → Q (.ref e) H'
theorem ok_zb {k : Nat} (D : Defs K mg f d) : FnOk P w K mg base CX0 (k + 2) (f i_packed_by_power) (d i_packed_by_power) ["terms", "factor", "times"] spZB := by
  have G_packed_times : FnOk P w K mg base CX0 (k + 1) (f i_packed_times) (d i_packed_times) ["one", "other"] spZT := ok_zt D
  have G_whole_power : FnOk P w K mg base CX0 (k + 1) (f i_whole_power) (d i_whole_power) ["base", "times"] spWP := ok_wp D
  refine D.F_packed_by_power.ok sc_packed_by_power (fun vs H Q E h => ?_) (fun cdv A outer s H vs Q E hr h => ?_)
  · obtain ⟨a, b, x, y, n, E, rfl, _⟩ := h
    rfl
  · obtain ⟨a, b, x, y, n, E, rfl, ha, hb, bx, by_, hE, hn, q⟩ := h
    have nd := sc_packed_by_power.nd
    have hu := hu_of hr
    refine ⟨_, pss_cons (ps_if (pt_cmpR op_eq (pe_callB call_lenD (by rfl) D.z_len PySem.boot_len (pa_cons (pv 1) pa_nil)) pe_int (nomark _))
        (pss_cons (ps_set (i := 3) nd rfl (.inl rfl) (pe_ix ix_list (pe_callTy (call_listD rfl) (by rfl) D.z_list (by decide +kernel) (pa_cons (pv 1) pa_nil)) pe_int (fun _ _ => rfl)))
          (pss_one (ps_ret (pe_call G_packed_times hr (by rfl) D.g_packed_times D.F_packed_times.kp D.b_packed_times .nil pass0 (pa_cons (pv 0) (pa_cons (pe_disp (pps_cons (pe_op op_mulX (pv 3) (pv 2)) (pe_call G_whole_power hr (by rfl) D.g_whole_power D.F_whole_power.kp D.b_whole_power .nil pass0 (pa_cons (pe_dget hu (pv 1) (pv 3) (fun _ _ => rfl)) (pa_cons (pv 2) pa_nil))) pps_nil) (by rfl) (by rfl) (fun z => by cases z) (by decide)) pa_nil))))))
        pss_nil)
      pss_never, ?_⟩
    refine ⟨.ref b, rfl, b, _, rfl, hb, rfl, _, rfl, ite2 (fun e => ?_) (fun e => absurd (decide_eq_true rfl) e)⟩
    dsimp only [tSeq, tAsg, gName]
    refine ⟨.ref b, rfl, b, _, rfl, .inl hb, fun l nl => ⟨l, _, 0, .int 0, rfl, rfl, sqlOf upd_same, atI_nat (j := 0) rfl, ?_⟩⟩
    have s1 := same_new (o := .lst ([((Sum.inl 0 : Key), V.int y)].map fun kv => kV kv.1)) nl
    refine ⟨.ref a, rfl, fun e ne => ?_⟩
    have hb1 := s1 _ _ hb
    have s2 : Same H (upd (upd H l (.lst ([((Sum.inl 0 : Key), V.int y)].map fun kv => kV kv.1))) e (.dK [])) := s1.trans (same_new ne)
    have hb2 : upd (upd H l (.lst ([((Sum.inl 0 : Key), V.int y)].map fun kv => kV kv.1))) e (.dK []) b = some (.dK [(Sum.inl 0, .int y)]) := s2 _ _ hb
    have he2 : upd (upd H l (.lst ([((Sum.inl 0 : Key), V.int y)].map fun kv => kV kv.1))) e (.dK []) e = some (.dK []) := upd_same
    have ne0 := s1.free ne
    generalize upd (upd H l (.lst ([((Sum.inl 0 : Key), V.int y)].map fun kv => kV kv.1))) e (.dK []) = H2 at s2 hb2 he2
    refine ⟨.int 0, rfl, .int (n : Nat), rfl, _, _, rfl, rfl, mulS (by decide) (by omega), ?_⟩
    refine ⟨.ref b, rfl, .int 0, rfl, b, .int y, rfl, .inl ⟨_, Sum.inl 0, .inl hb2, rfl, rfl⟩, .int (n : Nat), rfl, y, n, E, rfl, by_, hE, hn, ?_⟩
    refine ⟨he2, [(Sum.inl 0, .int (y ^ n))], ?_, by show 1 ≤ 15; decide, ?_⟩
    · show [((V.int (0 * (n : Nat))), V.int (y ^ n))] = [(V.int 0, V.int (y ^ n))]
      rw [Int.zero_mul]
    have eM : mergeK [] [((Sum.inl 0 : Key), V.int (y ^ n))] = [(Sum.inl 0, V.int (y ^ n))] := rfl
    rw [eM]
    have s3 : Same H (upd H2 e (.dK [(Sum.inl 0, V.int (y ^ n))])) := fun c o ec => by
      rw [upd_ne (ne_of_none ec ne0)]
      exact s2 _ _ ec
    refine ⟨a, e, x, y ^ n, rfl, ha.same s3, zat_one upd_same, bx, Nat.lt_of_lt_of_le (pow_bits by_ n) (Nat.pow_le_pow_right (by decide) ?_), fun H4 r s4 nr hr4 => q H4 r (s3.trans s4) (s3.free nr) hr4⟩
    have : E * n ≤ 200 * 100 := Nat.mul_le_mul hE hn
    omega
end
end NH
set_option Elab.async false
set_option linter.all false
set_option maxRecDepth 100000
namespace GM
/-! ### sums at integers, letter by letter -/
abbrev Ts := List (List Int × Int)
def pw (j : Nat) (q : List Int × Int) : Int := q.1.getD j 0
/-- the first m letters of a term -/
def mono (xs : List Int) : Nat → List Int → Int
  | 0, _ => 1
  | m + 1, p => mono xs m p * (xs.getD m 0) ^ (p.getD m 0).toNat
def tval (xs : List Int) (m : Nat) : Ts → Int
  | [] => 0
  | q :: T => q.2 * mono xs m q.1 + tval xs m T
/-- the terms of powers from a on in the letter j, freed of a -/
def pt (xs : List Int) (j : Nat) (a : Int) : Ts → Int
  | [] => 0
  | q :: T => (if a ≤ pw j q then q.2 * mono xs j q.1 * (xs.getD j 0) ^ (pw j q - a).toNat else 0) + pt xs j a T
def at_ (j : Nat) (a : Int) (q : List Int × Int) : Bool := decide (pw j q = a)
theorem pt_step {xs : List Int} {j : Nat} {a b : Int} (h : b < a) : ∀ {T : Ts}, (∀ q ∈ T, pw j q < a → pw j q ≤ b) → pt xs j b T = pt xs j a T * (xs.getD j 0) ^ (a - b).toNat + tval xs j (T.filter (at_ j b))
  | [], _ => by simp [pt, tval]
  | q :: T, hT => by
    have ih := pt_step (xs := xs) (T := T) h fun q hq => hT q (List.mem_cons_of_mem _ hq)
    have hq := hT q List.mem_cons_self
    rw [pt, pt, ih, List.filter_cons]
    by_cases e : a ≤ pw j q
    · have n : at_ j b q = false := by
        unfold at_
        exact decide_eq_false (by omega)
      rw [if_pos e, if_pos (by omega), n]
      have : (pw j q - b).toNat = (pw j q - a).toNat + (a - b).toNat := by omega
      rw [this, Int.pow_add, Int.add_mul]
      simp only [Bool.false_eq_true, if_false]
      rw [← Int.mul_assoc]
      omega
    · rw [if_neg e]
      by_cases e2 : pw j q = b
      · have n : at_ j b q = true := by
          unfold at_
          exact decide_eq_true e2
        rw [n, if_pos (by omega), if_pos rfl, tval]
        have : (pw j q - b).toNat = 0 := by omega
        rw [this, Int.pow_zero, Int.mul_one, Int.zero_add]
        omega
      · have n : at_ j b q = false := by
          unfold at_
          exact decide_eq_false e2
        rw [n, if_neg (by omega)]
        simp
theorem pt_first {xs : List Int} {j : Nat} {a : Int} : ∀ {T : Ts}, (∀ q ∈ T, pw j q ≤ a) → pt xs j a T = tval xs j (T.filter (at_ j a))
  | [], _ => rfl
  | q :: T, hT => by
    have ih := pt_first (T := T) (xs := xs) fun q hq => hT q (List.mem_cons_of_mem _ hq)
    have hq := hT q List.mem_cons_self
    rw [pt, ih, List.filter_cons]
    by_cases e : pw j q = a
    · have n : at_ j a q = true := decide_eq_true e
      rw [n, if_pos (by omega), if_pos rfl, tval]
      have : (pw j q - a).toNat = 0 := by omega
      rw [this, Int.pow_zero, Int.mul_one]
    · have n : at_ j a q = false := decide_eq_false e
      rw [n, if_neg (by omega)]
      simp
theorem pt_last {xs : List Int} {j : Nat} {a : Int} (h0 : 0 ≤ a) : ∀ {T : Ts}, (∀ q ∈ T, a ≤ pw j q) → pt xs j a T * (xs.getD j 0) ^ a.toNat = tval xs (j + 1) T
  | [], _ => by simp [pt, tval]
  | q :: T, hT => by
    have ih := pt_last (T := T) (xs := xs) h0 fun q hq => hT q (List.mem_cons_of_mem _ hq)
    have hq := hT q List.mem_cons_self
    rw [pt, if_pos hq, Int.add_mul, ih, tval, mono]
    congr 1
    have : (q.1.getD j 0).toNat = (pw j q - a).toNat + a.toNat := by
      unfold pw at hq ⊢
      omega
    rw [this, Int.pow_add, ← Int.mul_assoc, ← Int.mul_assoc, Int.mul_assoc q.2]
theorem mono_bits {xs : List Int} {E W : Nat} (hx : ∀ x ∈ xs, x.natAbs ≤ 2 ^ E) : ∀ {m : Nat} {p : List Int}, (∀ j, j < m → (p.getD j 0).toNat ≤ W) → (mono xs m p).natAbs ≤ 2 ^ (m * (E * W))
  | 0, _, _ => by simp [mono]
  | m + 1, p, h => by
    have ih := mono_bits hx (m := m) (p := p) fun j hj => h j (by omega)
    have hw := h m (Nat.lt_succ_self m)
    have h1 : (xs.getD m 0).natAbs ≤ 2 ^ E := by
      by_cases hm : m < xs.length
      · rw [List.getD_eq_getElem?_getD, List.getElem?_eq_getElem hm]
        exact hx _ (List.getElem_mem hm)
      · rw [List.getD_eq_getElem?_getD, List.getElem?_eq_none (by omega)]
        exact Nat.zero_le _
    have h2 : ((xs.getD m 0) ^ (p.getD m 0).toNat).natAbs ≤ 2 ^ (E * W) := by
      rw [Int.natAbs_pow]
      refine Nat.le_trans (Nat.pow_le_pow_left h1 _) ?_
      rw [← Nat.pow_mul]
      exact Nat.pow_le_pow_right (by decide) (Nat.mul_le_mul_left _ hw)
    rw [mono, Int.natAbs_mul, Nat.succ_mul, Nat.pow_add]
    exact Nat.mul_le_mul ih h2
theorem tval_bits {xs : List Int} {m B : Nat} : ∀ {T : Ts}, (∀ q ∈ T, (q.2 * mono xs m q.1).natAbs ≤ B) → (tval xs m T).natAbs ≤ T.length * B
  | [], _ => by simp [tval]
  | q :: T, h => by
    have ih := tval_bits (T := T) fun q hq => h q (List.mem_cons_of_mem _ hq)
    have h1 := h q List.mem_cons_self
    rw [tval, List.length_cons, Nat.succ_mul]
    have := Int.natAbs_add_le (q.2 * mono xs m q.1) (tval xs m T)
    omega
theorem pt_bits {xs : List Int} {j B : Nat} {a : Int} : ∀ {T : Ts}, (∀ q ∈ T, a ≤ pw j q → (q.2 * mono xs j q.1 * (xs.getD j 0) ^ (pw j q - a).toNat).natAbs ≤ B) → (pt xs j a T).natAbs ≤ T.length * B
  | [], _ => by simp [pt]
  | q :: T, h => by
    have ih := pt_bits (T := T) (a := a) fun q hq => h q (List.mem_cons_of_mem _ hq)
    have h1 := h q List.mem_cons_self
    rw [pt, List.length_cons, Nat.succ_mul]
    have := Int.natAbs_add_le (if a ≤ pw j q then q.2 * mono xs j q.1 * (xs.getD j 0) ^ (pw j q - a).toNat else 0) (pt xs j a T)
    by_cases e : a ≤ pw j q
    · have h2 := h1 e
      rw [if_pos e] at this ⊢
      omega
    · rw [if_neg e] at this ⊢
      have : (0 : Int).natAbs = 0 := rfl
      omega
end GM
set_option Elab.async false
set_option linter.all false
set_option maxRecDepth 100000
set_option maxHeartbeats 1000000
set_option exponentiation.threshold 100000
namespace NH
open PySem PySem.Spec PyProof.Rows L2 R1 ZN PK RS
theorem pi_or {X : Cx} {tg iter : Expr} {w1 w2 : TI} (h1 : PI X tg iter w1) (h2 : PI X tg iter w2) : PI X tg iter (fun σ H R => w1 σ H R ∨ w2 σ H R) :=
  ⟨fun pins s σ H R I h => h.elim (h1.run pins s σ H R I) (h2.run pins s σ H R I)⟩
/-- terms in a list or a tuple -/
structure TmAt (K : PySem.W.Frag) (H : Hp) (t : Addr) (L : List Trm) : Prop where
  seq : SqL K H t (L.map Trm.v) ∨ SqT K H t (L.map Trm.v)
  rows : RowsOk H L
/-- what the terms keep to: powers from 0 to W in the first m letters, no two alike -/
structure TmOk (m W : Nat) (T : Ts) : Prop where
  pos : ∀ q ∈ T, ∀ j, j < m → 0 ≤ q.1.getD j 0 ∧ q.1.getD j 0 ≤ W
  len : ∀ q ∈ T, m ≤ q.1.length
  ap : T.Pairwise fun x y => x.1.take m ≠ y.1.take m
  sm : ∀ q ∈ T, q.2.natAbs < 2 ^ 300
theorem take_succ' {p : List Int} {m : Nat} (h : m < p.length) : p.take (m + 1) = p.take m ++ [p.getD m 0] := by
  rw [List.take_add_one, List.getElem?_eq_getElem h, List.getD_eq_getElem?_getD, List.getElem?_eq_getElem h]
  rfl
theorem TmOk.part {m W : Nat} {T : Ts} (h : TmOk (m + 1) W T) (a : Int) : TmOk m W (T.filter (GM.at_ m a)) := by
  refine ⟨fun q hq j hj => h.pos q (List.mem_filter.mp hq).1 j (by omega), fun q hq => by have := h.len q (List.mem_filter.mp hq).1; omega, ?_, fun q hq => h.sm q (List.mem_filter.mp hq).1⟩
  refine (h.ap.filter _).imp_of_mem fun {x y} hx hy e z => e ?_
  obtain ⟨hx, ex⟩ := List.mem_filter.mp hx
  obtain ⟨hy, ey⟩ := List.mem_filter.mp hy
  have ex := of_decide_eq_true ex
  have ey := of_decide_eq_true ey
  rw [take_succ' (h.len x hx), take_succ' (h.len y hy), z]
  congr 2
  exact ex.trans ey.symm
theorem TmOk.one {W : Nat} {T : Ts} (h : TmOk 0 W T) : T.length ≤ 1 := by
  match T, h with
  | [], _ => exact Nat.zero_le _
  | [q], _ => exact Nat.le_refl _
  | p :: q :: T, h =>
    exfalso
    exact (List.pairwise_cons.mp h.ap).1 q List.mem_cons_self rfl
theorem sql_same {K : PySem.W.Frag} {H H' : Hp} {a : Addr} {xs : List V} (s : Same H H') (h : SqL K H a xs) : SqL K H' a xs := by
  rcases h with (h | ⟨o, h⟩) | h
  · exact .inl (.inl (s _ _ h))
  · exact .inl (.inr ⟨o, s _ _ h⟩)
  · exact .inr h
theorem for_seq {K : PySem.W.Frag} {a : Addr} {xs : List V} {g : TG} {tb : TS} {D : Ends} {σ : L2.St} {Hq H : Hp} {i0 : Nat} (hv : σ[i0]? = some (some (.ref a))) (hq : SqL K Hq a xs ∨ SqT K Hq a xs) (Pv : Nat → L2.St → Hp → Prop) (h0 : Pv 0 σ H) (hl : ∀ i σ H', i ≤ xs.length → Pv i σ H' → Same Hq H')
    (hs : ∀ i x σ H, xs[i]? = some x → Pv i σ H → g x σ H fun σ2 H2 => tb { D with nx := Pv (i + 1), ct := Pv (i + 1), bk := D.nx } σ2 H2) (hd : ∀ σ H, Pv xs.length σ H → D.nx σ H) :
    tFor (fun σ H R => iList K (tVar i0) σ H R ∨ iTup K (tVar i0) σ H R) g tb D σ H := by
  rcases hq with h | h
  · exact .inl ⟨.ref a, hv, a, rfl, ⟨_, sql_same (hl 0 σ H (Nat.zero_le _) h0) h⟩, for_list Pv h0 (fun i σ H' hi p => sql_same (hl i σ H' hi p) h) hs hd⟩
  · exact .inr ⟨.ref a, hv, a, rfl, ⟨_, sqt_same (hl 0 σ H (Nat.zero_le _) h0) h⟩, for_tup Pv h0 (fun i σ H' hi p => sqt_same (hl i σ H' hi p) h) hs hd⟩
theorem nodup_inj {α β : Type} {f : α → β} : ∀ {l : List α}, (l.map f).Nodup → ∀ {a b : α}, a ∈ l → b ∈ l → f a = f b → a = b
  | [], _, _, _, h, _, _ => nomatch h
  | x :: l, hn, a, b, ha, hb, e => by
    have hx := List.nodup_cons.mp hn
    rcases List.mem_cons.mp ha with rfl | ha'
    · rcases List.mem_cons.mp hb with rfl | hb'
      · rfl
      · exact absurd (e ▸ List.mem_map_of_mem hb') hx.1
    · rcases List.mem_cons.mp hb with rfl | hb'
      · exact absurd (e ▸ List.mem_map_of_mem ha') hx.1
      · exact nodup_inj hx.2 ha' hb' e
/-- the groups of terms by their power in the letter m -/
structure Grp (H0 H : Hp) (gd : Addr) (m : Nat) (T : Ts) (gs : List (Int × Addr)) : Prop where
  at_ : H gd = some (.dK (gs.map fun g => ((Sum.inl g.1 : Key), V.ref g.2)))
  nd : (gs.map (·.1)).Nodup
  nda : (gs.map (·.2)).Nodup
  grp : ∀ g ∈ gs, H0 g.2 = none ∧ ∃ M : List Trm, H g.2 = some (.lst (M.map Trm.v)) ∧ RowsOk H M ∧ M.map Trm.d = T.filter (GM.at_ m g.1) ∧ M ≠ []
  all : ∀ q ∈ T, ∃ g ∈ gs, g.1 = GM.pw m q
theorem filt_snoc (m : Nat) (a : Int) (T : Ts) (q : List Int × Int) : (T ++ [q]).filter (GM.at_ m a) = T.filter (GM.at_ m a) ++ if GM.pw m q = a then [q] else [] := by
  rw [List.filter_append]
  congr 1
  by_cases e : GM.pw m q = a
  · have : GM.at_ m a q = true := decide_eq_true e
    rw [if_pos e, List.filter_cons, this]
    rfl
  · have : GM.at_ m a q = false := decide_eq_false e
    rw [if_neg e, List.filter_cons, this]
    rfl
theorem valV_gs {v : V} {κ : Int} : ∀ {gs : List (Int × Addr)}, valV (gs.map fun g => ((Sum.inl g.1 : Key), V.ref g.2)) (Sum.inl κ) = some v → ∃ ga, (κ, ga) ∈ gs ∧ v = .ref ga
  | [], h => by cases h
  | g :: gs, h => by
    by_cases e : g.1 = κ
    · rw [List.map_cons, valV_pos (show ((Sum.inl g.1 : Key), V.ref g.2).1 = Sum.inl κ by rw [← e])] at h
      exact ⟨g.2, by rw [← e]; exact List.mem_cons_self, (Option.some.inj h).symm⟩
    · rw [List.map_cons, valV_neg (show ¬ ((Sum.inl g.1 : Key), V.ref g.2).1 = Sum.inl κ from fun z => e (by injection z))] at h
      obtain ⟨ga, h1, h2⟩ := valV_gs h
      exact ⟨ga, List.mem_cons_of_mem _ h1, h2⟩
theorem valV_gsn {κ : Int} : ∀ {gs : List (Int × Addr)}, valV (gs.map fun g => ((Sum.inl g.1 : Key), V.ref g.2)) (Sum.inl κ) = none → κ ∉ gs.map (·.1)
  | [], _ => by simp
  | g :: gs, h => by
    by_cases e : g.1 = κ
    · rw [List.map_cons, valV_pos (show ((Sum.inl g.1 : Key), V.ref g.2).1 = Sum.inl κ by rw [← e])] at h
      cases h
    · rw [List.map_cons, valV_neg (show ¬ ((Sum.inl g.1 : Key), V.ref g.2).1 = Sum.inl κ from fun z => e (by injection z))] at h
      have := valV_gsn h
      rw [List.map_cons, List.mem_cons]
      rintro (z | z)
      · exact e z.symm
      · exact this z
theorem valV_gsm {κ : Int} {ga : Addr} : ∀ {gs : List (Int × Addr)}, (gs.map (·.1)).Nodup → (κ, ga) ∈ gs → valV (gs.map fun g => ((Sum.inl g.1 : Key), V.ref g.2)) (Sum.inl κ) = some (.ref ga)
  | [], _, h => nomatch h
  | g :: gs, hn, h => by
    have hx := List.nodup_cons.mp hn
    rcases List.mem_cons.mp h with rfl | h
    · rw [List.map_cons, valV_pos rfl]
    · have e : ¬ g.1 = κ := fun z => hx.1 (by show g.1 ∈ _; rw [z]; exact List.mem_map_of_mem (f := (·.1)) h)
      rw [List.map_cons, valV_neg (show ¬ ((Sum.inl g.1 : Key), V.ref g.2).1 = Sum.inl κ from fun z => e (by injection z))]
      exact valV_gsm hx.2 h
theorem gs_keys : ∀ gs : List (Int × Addr), (gs.map fun g => ((Sum.inl g.1 : Key), V.ref g.2)).map (·.1) = (gs.map (·.1)).map Sum.inl
  | [] => rfl
  | g :: gs => by
    have := gs_keys gs
    simp only [List.map_cons, this]
theorem desc_lt {ys : List Int} (h : ys.Pairwise (· > ·)) {i j : Nat} {x y : Int} (hx : ys[i]? = some x) (hy : ys[j]? = some y) (hij : i < j) : y < x := by
  obtain ⟨h1, rfl⟩ := List.getElem?_eq_some_iff.mp hx
  obtain ⟨h2, rfl⟩ := List.getElem?_eq_some_iff.mp hy
  exact List.pairwise_iff_getElem.mp h i j h1 h2 hij
theorem putK_gs {κ : Int} {z : Addr} {gs : List (Int × Addr)} (h : κ ∉ gs.map (·.1)) : putK (gs.map fun g => ((Sum.inl g.1 : Key), V.ref g.2)) (Sum.inl κ) (.ref z) = (gs ++ [(κ, z)]).map fun g => ((Sum.inl g.1 : Key), V.ref g.2) := by
  unfold putK
  rw [if_neg]
  · rw [List.map_append]
    rfl
  · intro e
    obtain ⟨kv, hkv, e⟩ := List.any_eq_true.mp e
    obtain ⟨g, hg, rfl⟩ := List.mem_map.mp hkv
    have e : ((Sum.inl g.1 : Key)) = Sum.inl κ := of_decide_eq_true e
    exact h (List.mem_map.mpr ⟨g, hg, by injection e⟩)
theorem two_ok {a b : V} : [a, b].length ≤ sizeLine := by
  show 2 ≤ sizeLine
  rw [sizeLine_eq]
  decide
theorem Grp.same {H0 H H' : Hp} {gd : Addr} {m : Nat} {T : Ts} {gs : List (Int × Addr)} (h : Grp H0 H gd m T gs) (s : Same H H') : Grp H0 H' gd m T gs :=
  ⟨s _ _ h.at_, h.nd, h.nda, fun g hg => by
    obtain ⟨n0, M', a1, a2, a3, a4⟩ := h.grp g hg
    exact ⟨n0, M', s _ _ a1, a2.keep (same_keepT s), a3, a4⟩, h.all⟩
theorem Grp.more {H0 H H' : Hp} {gd ga tt p : Addr} {m : Nat} {T : Ts} {gs : List (Int × Addr)} {κ : Int} {M : List Trm} {ns : List Int} {c : Int} (h : Grp H0 H gd m T gs) (hg : (κ, ga) ∈ gs) (hM : H ga = some (.lst (M.map Trm.v))) (hr : RowsOk H M) (hd : M.map Trm.d = T.filter (GM.at_ m κ))
    (hκ : GM.pw m (ns, c) = κ) (hK : ∀ b o, b ≠ ga → H b = some o → H' b = some o) (hga : H' ga = some (.lst (M.map Trm.v ++ [.ref tt]))) (htt : H' tt = some (.tup [.ref p, .int c])) (hp : H' p = some (.tup (ns.map V.int))) : Grp H0 H' gd m (T ++ [(ns, c)]) gs := by
  have kt : KeepT H H' := fun b xs e => hK b _ (fun z => by rw [z, hM] at e; cases e) e
  refine ⟨hK _ _ (fun z => by have := h.at_; rw [z, hM] at this; cases this) h.at_, h.nd, h.nda, fun g hg' => ?_, fun q hq => ?_⟩
  · obtain ⟨n0, M', a1, a2, a3, a4⟩ := h.grp g hg'
    refine ⟨n0, ?_⟩
    by_cases e : g.2 = ga
    · have eg : g = (κ, ga) := by
        exact nodup_inj (f := (·.2)) h.nda hg' hg e
      subst eg
      refine ⟨M ++ [⟨tt, p, ns, c⟩], by rw [hga, List.map_append]; rfl, fun r hr' => ?_, ?_, by simp⟩
      · rcases List.mem_append.mp hr' with hr' | hr'
        · exact ⟨kt _ _ (hr r hr').1, kt _ _ (hr r hr').2⟩
        · cases List.mem_singleton.mp hr'
          exact ⟨htt, hp⟩
      · rw [List.map_append, hd, filt_snoc, if_pos hκ]
        rfl
    · refine ⟨M', hK _ _ e a1, a2.keep kt, ?_, a4⟩
      rw [a3, filt_snoc, if_neg, List.append_nil]
      intro z
      apply e
      rw [nodup_inj (f := (·.1)) h.nd hg' hg (z.symm.trans hκ)]
  · rcases List.mem_append.mp hq with hq | hq
    · exact h.all q hq
    · cases List.mem_singleton.mp hq
      exact ⟨_, hg, hκ.symm⟩
theorem Grp.new {H0 H H' : Hp} {gd z tt p : Addr} {m : Nat} {T : Ts} {gs : List (Int × Addr)} {κ : Int} {ns : List Int} {c : Int} (h : Grp H0 H gd m T gs) (hn : κ ∉ gs.map (·.1)) (nz : H z = none) (nz0 : H0 z = none)
    (hκ : GM.pw m (ns, c) = κ) (hK : ∀ b o, b ≠ gd → H b = some o → H' b = some o) (hgd : H' gd = some (.dK ((gs ++ [(κ, z)]).map fun g => ((Sum.inl g.1 : Key), V.ref g.2)))) (hz : H' z = some (.lst [.ref tt])) (htt : H' tt = some (.tup [.ref p, .int c])) (hp : H' p = some (.tup (ns.map V.int))) : Grp H0 H' gd m (T ++ [(ns, c)]) (gs ++ [(κ, z)]) := by
  have kt : KeepT H H' := fun b xs e => hK b _ (fun y => by rw [y, h.at_] at e; cases e) e
  have none_ : T.filter (GM.at_ m κ) = [] := by
    rw [List.filter_eq_nil_iff]
    intro q hq e
    obtain ⟨g, hg, eg⟩ := h.all q hq
    exact hn (List.mem_map.mpr ⟨g, hg, eg.trans (of_decide_eq_true e)⟩)
  refine ⟨hgd, ?_, ?_, fun g hg => ?_, fun q hq => ?_⟩
  · rw [List.map_append, List.nodup_append]
    refine ⟨h.nd, by simp, fun a ha b hb e => hn ?_⟩
    have : b = κ := by simpa using hb
    rw [← this, ← e]
    exact ha
  · rw [List.map_append, List.nodup_append]
    refine ⟨h.nda, by simp, fun a ha b hb e => ?_⟩
    have : b = z := by simpa using hb
    obtain ⟨g, hg, rfl⟩ := List.mem_map.mp ha
    obtain ⟨_, M', a1, _⟩ := h.grp g hg
    rw [e, this, nz] at a1
    cases a1
  · rcases List.mem_append.mp hg with hg | hg
    · obtain ⟨n0, M', a1, a2, a3, a4⟩ := h.grp g hg
      refine ⟨n0, M', hK _ _ (fun y => by rw [y, h.at_] at a1; cases a1) a1, a2.keep kt, ?_, a4⟩
      rw [a3, filt_snoc, if_neg, List.append_nil]
      intro y
      exact hn (List.mem_map.mpr ⟨g, hg, y.symm.trans hκ⟩)
    · cases List.mem_singleton.mp hg
      refine ⟨nz0, [⟨tt, p, ns, c⟩], hz, fun r hr => ?_, ?_, by simp⟩
      · cases List.mem_singleton.mp hr
        exact ⟨htt, hp⟩
      · rw [filt_snoc, none_, if_pos hκ]
        rfl
  · rcases List.mem_append.mp hq with hq | hq
    · obtain ⟨g, hg, e⟩ := h.all q hq
      exact ⟨g, List.mem_append_left _ hg, e⟩
    · cases List.mem_singleton.mp hq
      exact ⟨(κ, z), by simp, hκ.symm⟩
section
variable {P : Program} {w : World} {K : PySem.W.Frag} {mg : Str → Option Value} {base : Heap} {f : Nat → Addr} {d : Nat → FuncData}
def spGa (K : PySem.W.Frag) (m : Nat) : Sp := fun vs H Q _ => ∃ (t fl : Addr) (L : List Trm) (fs : List Addr) (xs : List Int), vs = [.ref t, .ref fl, .int (m : Nat)] ∧ TmAt K H t L ∧ (m = 0 → SqL K H t (L.map Trm.v)) ∧ L ≠ [] ∧ L.length ≤ 1000 ∧ m ≤ 12 ∧ TmOk m 60 (L.map Trm.d) ∧
  H fl = some (.lst (fs.map V.ref)) ∧ m ≤ fs.length ∧ fs.length ≤ 1000 ∧ fs.length = xs.length ∧ (∀ j b, fs[j]? = some b → H b = some (.dK [(Sum.inl 0, .int (xs.getD j 0))])) ∧ (∀ x ∈ xs, x.natAbs < 2 ^ 10) ∧
  ∀ H' (e : Addr), Same H H' → H e = none → ZAt H' e (GM.tval xs m (L.map Trm.d)) → Q (.ref e) H'
theorem ok_ga0 {k : Nat} (D : Defs K mg f d) : FnOk P w K mg base CX0 (k + 1) (f i_gathered) (d i_gathered) ["terms", "factors", "many"] (spGa K 0) := by
  refine D.F_gathered.ok sc_gathered (fun vs H Q E h => ?_) (fun cdv A outer s H vs Q E hr h => ?_)
  · obtain ⟨t, fl, L, fs, xs, rfl, _⟩ := h
    rfl
  · obtain ⟨t, fl, L, fs, xs, rfl, hT, hl0, hne, hL, hm, hok, hfl, hmf, hfs, hfx, hfd, hx, q⟩ := h
    have nd := sc_gathered.nd
    refine ⟨_, pss_cons (ps_if (pt_not (pt_truth (pv 2) (by intro _; rfl)))
      (pss_one (ps_ret (pe_disp (pps_cons pe_int (pe_ix ix_tup (pe_ix ix_list (pv 0) pe_int (fun _ _ => rfl)) pe_int (fun _ _ => rfl)) pps_nil) (by rfl) (by rfl) (fun z => by cases z) (by decide))))
      pss_nil) pss_never, ?_⟩
    refine ⟨.int 0, rfl, _, rfl, iteT ?_⟩
    have h1 := hok.one
    rw [List.length_map] at h1
    have hlp : L.length = 1 := by
      have : L.length ≠ 0 := fun z => hne (List.length_eq_zero_iff.mp z)
      omega
    obtain ⟨r, hr0⟩ := List.length_eq_one_iff.mp hlp
    subst hr0
    refine fun e ne => ?_
    have s1 := same_new (o := .dK []) ne
    have he1 : upd H e (.dK []) e = some (.dK []) := upd_same
    have hl1 := sql_same s1 (hl0 rfl)
    obtain ⟨o1, o2⟩ := hT.rows r List.mem_cons_self
    have o1 := s1 _ _ o1
    generalize upd H e (.dK []) = H1 at s1 he1 hl1 o1
    refine ⟨.ref t, rfl, t, _, 0, .ref r.t, rfl, rfl, hl1, atI_nat (j := 0) rfl, r.t, _, 1, .int r.c, rfl, rfl, sqtOf o1, atI_nat (j := 1) rfl, he1, [(Sum.inl 0, .int r.c)], rfl, by show 1 ≤ 15; decide, ?_⟩
    have eM : mergeK [] [((Sum.inl 0 : Key), V.int r.c)] = [(Sum.inl 0, V.int r.c)] := rfl
    rw [eM]
    have ne0 := ne
    refine q _ e (fun c o ec => by rw [upd_ne (ne_of_none ec ne0)]; exact s1 _ _ ec) ne0 ?_
    have ev : GM.tval xs 0 ([r].map Trm.d) = r.c := by
      show r.c * 1 + 0 = r.c
      omega
    rw [ev]
    exact zat_one upd_same
theorem ok_gaS {k m : Nat} (D : Defs K mg f d) (G : FnOk P w K mg base CX0 (k + 2) (f i_gathered) (d i_gathered) ["terms", "factors", "many"] (spGa K m)) : FnOk P w K mg base CX0 (k + 3) (f i_gathered) (d i_gathered) ["terms", "factors", "many"] (spGa K (m + 1)) := by
  have G_packed_by_power : FnOk P w K mg base CX0 (k + 2) (f i_packed_by_power) (d i_packed_by_power) ["terms", "factor", "times"] spZB := ok_zb D
  have G_packed_plus : FnOk P w K mg base CX0 (k + 2) (f i_packed_plus) (d i_packed_plus) ["one", "other"] spZP := (ok_zp (k := k) D).mono (by omega)
  refine D.F_gathered.ok sc_gathered (fun vs H Q E h => ?_) (fun cdv A outer s H vs Q E hr h => ?_)
  · obtain ⟨t, fl, L, fs, xs, rfl, _⟩ := h
    rfl
  · obtain ⟨t, fl, L, fs, xs, rfl, hT, hl0, hne, hL, hm, hok, hfl, hmf, hfs, hfx, hfd, hx, q⟩ := h
    have nd := sc_gathered.nd
    have hu := hu_of hr
    refine ⟨_, pss_cons (ps_if (pt_not (pt_truth (pv 2) (by intro _; rfl))) pss_never pss_nil)
      (pss_cons (ps_set (i := 3) nd rfl (.inl rfl) (pe_dnewK))
      (pss_cons (ps_for PassesOwn.never rfl (pi_or (pi_list (pv 0)) (pi_tup (pv 0))) (pg_tup rfl (pgs_cons (pg_name (i := 4) nd rfl (.inl rfl)) (pgs_cons (pg_name (i := 5) nd rfl (.inl rfl)) pgs_nil)))
        (pss_one (ps_expr (pe_bm PySem.F.plainAttrs_list PySem.F.slot_list_append PySem.F.type_list_append mt_append (pe_dsetd (pv 3) (pe_ix ix_tup (pv 4) (pe_op op_sub (pv 2) pe_int) (fun _ _ => rfl)) (pe_lst pa_nil) ⟨rfl, rfl, rfl, rfl⟩) (pa_cons (pe_tup (pa_cons (pv 4) (pa_cons (pv 5) pa_nil))) pa_nil)))))
      (pss_cons (ps_set (i := 6) nd rfl (.inl rfl) (pe_dnewK))
      (pss_cons (ps_set (i := 7) nd rfl (.inl rfl) (pe_callB (cr_maxK rfl) (by rfl) D.z_max (by decide +kernel) (pa_cons (pv 3) pa_nil)))
      (pss_cons (ps_for PassesOwn.never rfl (pi_list (pe_callBK (cr_sortedRevK rfl) (by rfl) D.z_sorted (by decide +kernel) (pa_cons (pv 3) pa_nil) (pk_cons pe_bl pk_nil))) (pg_name (i := 8) nd rfl (.inl rfl))
        (pss_cons (ps_set (i := 6) nd rfl (.inl rfl) (pe_call G_packed_by_power hr (by rfl) D.g_packed_by_power D.F_packed_by_power.kp D.b_packed_by_power .nil pass0 (pa_cons (pv 6) (pa_cons (pe_ix ix_list (pv 1) (pe_op op_sub (pv 2) pe_int) (fun _ _ => rfl)) (pa_cons (pe_op op_sub (pv 7) (pv 8)) pa_nil)))))
        (pss_cons (ps_set (i := 6) nd rfl (.inl rfl) (pe_call G_packed_plus hr (by rfl) D.g_packed_plus D.F_packed_plus.kp D.b_packed_plus .nil pass0 (pa_cons (pv 6) (pa_cons (pe_call G hr (by rfl) D.g_gathered D.F_gathered.kp D.b_gathered .nil pass0 (pa_cons (pe_dget hu (pv 3) (pv 8) (fun _ _ => rfl)) (pa_cons (pv 1) (pa_cons (pe_op op_sub (pv 2) pe_int) pa_nil)))) pa_nil))))
        (pss_one (ps_set (i := 7) nd rfl (.inl rfl) (pv 8))))))
      (pss_one (ps_ret (pe_call G_packed_by_power hr (by rfl) D.g_packed_by_power D.F_packed_by_power.kp D.b_packed_by_power .nil pass0 (pa_cons (pv 6) (pa_cons (pe_ix ix_list (pv 1) (pe_op op_sub (pv 2) pe_int) (fun _ _ => rfl)) (pa_cons (pv 7) pa_nil))))))))))), ?_⟩
    refine ⟨.int ((m + 1 : Nat) : Int), rfl, _, rfl, ?_⟩
    have tr : (((m + 1 : Nat) : Int) != 0) = true := by
      simp
      omega
    rw [tr]
    refine iteF ?_
    dsimp only [tSeq, tAsg, gName]
    refine fun gd ngd => ?_
    have hgd : upd H gd (.dK []) gd = some (.dK []) := upd_same
    have s1 := same_new (o := .dK []) ngd
    generalize upd H gd (.dK []) = H1 at hgd s1
    have hrow1 : ∀ r ∈ L, H1 r.t = some (.tup [.ref r.p, .int r.c]) ∧ H1 r.p = some (.tup (r.ns.map V.int)) := fun r hr => ⟨s1 _ _ (hT.rows r hr).1, s1 _ _ (hT.rows r hr).2⟩
    have hlm : ∀ r ∈ L, m < r.ns.length := fun r hr => hok.len r.d (List.mem_map_of_mem hr)
    refine for_seq (i0 := 0) rfl hT.seq (fun i σ H' => ∃ y4 y5 gs, σ = [some (.ref t), some (.ref fl), some (.int ((m + 1 : Nat) : Int)), some (.ref gd), y4, y5, none, none, none] ∧ Same H H' ∧ gs.length ≤ i ∧ Grp H H' gd m ((L.take i).map Trm.d) gs)
      ⟨none, none, [], rfl, s1, Nat.le_refl _, ⟨hgd, List.nodup_nil, List.nodup_nil, (fun g hg => nomatch hg), (fun q hq => nomatch hq)⟩⟩ (fun i σ H' hi h => ?_) (fun i x σ H' hx h => ?_) (fun σ H' h => ?_)
    · obtain ⟨_, _, _, _, s, _⟩ := h
      exact s
    · obtain ⟨y4, y5, gs, rfl, sm, hgl, hG⟩ := h
      rw [List.getElem?_map] at hx
      obtain ⟨r, hr1, rfl⟩ := Option.map_eq_some_iff.mp hx
      have hrm := List.mem_of_getElem? hr1
      have hil : i < L.length := (List.getElem?_eq_some_iff.mp hr1).1
      obtain ⟨o1, o2⟩ := hT.rows r hrm
      have o1 := sm _ _ o1
      have o2 := sm _ _ o2
      have hml := hlm r hrm
      have eT : (L.take (i + 1)).map Trm.d = (L.take i).map Trm.d ++ [(r.ns, r.c)] := by
        rw [List.take_add_one, hr1, List.map_append]
        rfl
      rw [eT]
      have hat : atI (r.ns.map V.int) (((m + 1 : Nat) : Int) - 1) = some (.int (r.ns.getD m 0)) := by
        rw [show (((m + 1 : Nat) : Int) - 1) = ((m : Nat) : Int) by omega]
        refine atI_nat (j := m) ?_
        rw [List.getElem?_map, List.getElem?_eq_getElem hml, List.getD_eq_getElem?_getD, List.getElem?_eq_getElem hml]
        rfl
      refine ⟨r.t, _, rfl, sqtOf o1, rfl, _, _, rfl, _, _, rfl, rfl, ?_⟩
      have hκ : GM.pw m (r.ns, r.c) = r.ns.getD m 0 := rfl
      generalize r.ns.getD m 0 = κ at hat hκ
      refine ⟨.ref gd, rfl, gd, rfl, .inl ⟨_, .inl hG.at_⟩, .ref r.p, rfl, .int ((m + 1 : Nat) : Int), rfl, _, _, rfl, rfl, r.p, _, _, .int κ, rfl, rfl, sqtOf o2, hat, Nat.zero_le _, fun z nz => ?_⟩
      have sz := same_new (o := .lst ([] : List V)) nz
      have hz : upd H' z (.lst ([] : List V)) z = some (.lst []) := upd_same
      have hG2 := hG.same sz
      have o12 := sz _ _ o1
      have o22 := sz _ _ o2
      have nz0 : H z = none := sm.free nz
      have sm2 := sm.trans sz
      generalize upd H' z (.lst ([] : List V)) = H2 at sz hz hG2 o12 o22 sm2
      refine ⟨_, Sum.inl κ, hG2.at_, rfl, by rw [List.length_map, sizeLine_eq]; omega, fun v hv => ?_, fun hv => ?_⟩
      · obtain ⟨ga, hga, rfl⟩ := valV_gs hv
        obtain ⟨n0, M, a1, a2, a3, a4⟩ := hG2.grp _ hga
        dsimp only at n0 a1 a3
        refine ⟨.inl ⟨rfl, _, sqlOf a1⟩, .ref r.p, rfl, .int r.c, rfl, two_ok, fun tt ntt => ?_⟩
        have st := same_new (o := .tup [V.ref r.p, .int r.c]) ntt
        have ht : upd H2 tt (.tup [V.ref r.p, .int r.c]) tt = some (.tup [V.ref r.p, .int r.c]) := upd_same
        have hG3 := hG2.same st
        have a13 := st _ _ a1
        have a23 := a2.keep (same_keepT st)
        have o23 := st _ _ o22
        have sm3 := sm2.trans st
        generalize upd H2 tt (.tup [V.ref r.p, .int r.c]) = H3 at st ht hG3 a13 a23 o23 sm3
        have gat : tt ≠ ga := fun y => by rw [y, a13] at ht; cases ht
        have gap : r.p ≠ ga := fun y => by rw [y, a13] at o23; cases o23
        have hMl : M.length ≤ L.length := by
          have h1 := congrArg List.length a3
          rw [List.length_map] at h1
          have h2 := List.length_filter_le (GM.at_ m κ) ((L.take i).map Trm.d)
          rw [List.length_map, List.length_take] at h2
          omega
        refine ⟨ga, _, _, rfl, rfl, a13, by rw [List.length_map, sizeLine_eq]; omega, some (.ref r.p), some (.int r.c), gs, rfl, ?_, by omega, hG3.more hga a13 a23 a3 hκ (fun b o hb e => by rw [upd_ne hb]; exact e) upd_same (by rw [upd_ne gat]; exact ht) (by rw [upd_ne gap]; exact o23)⟩
        exact fun b o e => by rw [upd_ne (ne_of_none e n0)]; exact sm3 _ _ e
      · have hn := valV_gsn hv
        have zgd : z ≠ gd := fun y => by
          have := hG2.at_
          rw [← y, hz] at this
          cases this
        have hz3 : upd H2 gd (.dK (putK (gs.map fun g => ((Sum.inl g.1 : Key), V.ref g.2)) (Sum.inl κ) (.ref z))) z = some (.lst []) := by rw [upd_ne zgd]; exact hz
        refine ⟨.inl ⟨rfl, _, sqlOf hz3⟩, .ref r.p, rfl, .int r.c, rfl, two_ok, fun tt ntt => ?_⟩
        rw [putK_gs hn] at ntt hz3 ⊢
        have hgd3 : upd H2 gd (.dK ((gs ++ [(κ, z)]).map fun g => ((Sum.inl g.1 : Key), V.ref g.2))) gd = some (.dK ((gs ++ [(κ, z)]).map fun g => ((Sum.inl g.1 : Key), V.ref g.2))) := upd_same
        have k3 : But gd H2 (upd H2 gd (.dK ((gs ++ [(κ, z)]).map fun g => ((Sum.inl g.1 : Key), V.ref g.2)))) := But.start
        have pgd : r.p ≠ gd := fun y => by
          have := hG2.at_
          rw [← y, o22] at this
          cases this
        have o23 := k3 _ _ pgd o22
        generalize upd H2 gd (.dK ((gs ++ [(κ, z)]).map fun g => ((Sum.inl g.1 : Key), V.ref g.2))) = H3 at ntt hz3 hgd3 k3 o23
        have st := same_new (o := .tup [V.ref r.p, .int r.c]) ntt
        have ht : upd H3 tt (.tup [V.ref r.p, .int r.c]) tt = some (.tup [V.ref r.p, .int r.c]) := upd_same
        have hz4 := st _ _ hz3
        have hgd4 := st _ _ hgd3
        have o24 := st _ _ o23
        have k4 := k3.then st
        generalize upd H3 tt (.tup [V.ref r.p, .int r.c]) = H4 at st ht hz4 hgd4 o24 k4
        have ttz : tt ≠ z := fun y => by rw [y, hz4] at ht; cases ht
        have pz : r.p ≠ z := fun y => by rw [y, hz4] at o24; cases o24
        have ngd0 : H gd = none := ngd
        refine ⟨z, _, _, rfl, rfl, hz4, by rw [sizeLine_eq]; decide, some (.ref r.p), some (.int r.c), gs ++ [(κ, z)], rfl, fun b o e => ?_, by rw [List.length_append]; show gs.length + 1 ≤ i + 1; omega, ?_⟩
        · rw [upd_ne (ne_of_none e nz0)]
          exact k4 _ _ (ne_of_none e ngd0) (sm2 _ _ e)
        · refine hG.new hn nz nz0 hκ (fun b o hb e => ?_) (by rw [upd_ne zgd.symm]; exact hgd4) upd_same (by rw [upd_ne ttz]; exact ht) (by rw [upd_ne pz]; exact o24)
          rw [upd_ne (ne_of_none e nz)]
          exact k4 _ _ hb (sz _ _ e)
    · obtain ⟨y4, y5, gs, rfl, sm, hgl, hG⟩ := h
      rw [List.length_map, List.take_length] at hG
      rw [List.length_map] at hgl
      clear hgd s1 hrow1
      dsimp only [tSeq, tAsg, gName]
      refine fun e0 ne0 => ?_
      have se := same_new (o := .dK []) ne0
      have hG1 := hG.same se
      have hz1 : ZAt (upd H' e0 (.dK [])) e0 0 := zat_empty upd_same
      have sm1 := sm.trans se
      generalize upd H' e0 (.dK []) = H1 at se hG1 hz1 sm1
      have hTne : (L.map Trm.d) ≠ [] := fun z => hne (List.map_eq_nil_iff.mp z)
      have hgl2 : 0 < (gs.map (·.1)).length := by
        cases hL0 : L with
        | nil => exact absurd hL0 hne
        | cons r Lt =>
          obtain ⟨g, hg, _⟩ := hG1.all r.d (by rw [hL0]; exact List.mem_cons_self)
          exact List.length_pos_of_mem (List.mem_map_of_mem hg)
      refine ⟨.ref gd, rfl, gd, _, gs.map (·.1), rfl, .inl hG1.at_, gs_keys gs, hgl2, fun mx hmx hmax => ?_⟩
      refine ⟨.ref gd, rfl, gd, _, gs.map (·.1), rfl, rfl, .inl hG1.at_, gs_keys gs, fun ys p hperm hsrt np => ?_⟩
      have sp := same_new (o := .lst (ys.map V.int)) np
      have hp : upd H1 p (.lst (ys.map V.int)) p = some (.lst (ys.map V.int)) := upd_same
      have hG2 := hG1.same sp
      have hz2 := hz1.same sp
      have sm2 := sm1.trans sp
      generalize upd H1 p (.lst (ys.map V.int)) = H2 at sp hp hG2 hz2 sm2
      have hdesc : ys.Pairwise (· > ·) := by
        have nd2 : ys.Nodup := hperm.nodup_iff.mpr hG2.nd
        exact (hsrt.and nd2).imp fun h => by
          have h1 := h.1
          have h2 := h.2
          omega
      have hin : ∀ q ∈ L.map Trm.d, GM.pw m q ∈ ys := fun q hq => by
        obtain ⟨g, hg, e⟩ := hG2.all q hq
        exact hperm.mem_iff.mpr (by rw [← e]; exact List.mem_map_of_mem hg)
      have hout : ∀ y ∈ ys, ∃ ga M, (y, ga) ∈ gs ∧ H2 ga = some (.lst (M.map Trm.v)) ∧ RowsOk H2 M ∧ M.map Trm.d = (L.map Trm.d).filter (GM.at_ m y) ∧ M ≠ [] := fun y hy => by
        obtain ⟨g, hg, rfl⟩ := List.mem_map.mp (hperm.mem_iff.mp hy)
        obtain ⟨n0, M, a⟩ := hG2.grp g hg
        exact ⟨g.2, M, hg, a⟩
      have hrange : ∀ y ∈ ys, 0 ≤ y ∧ y ≤ 60 := fun y hy => by
        obtain ⟨ga, M, hg, a1, a2, a3, a4⟩ := hout y hy
        cases M with
        | nil => exact absurd rfl a4
        | cons r M =>
          have hr : r.d ∈ (L.map Trm.d).filter (GM.at_ m y) := by rw [← a3]; exact List.mem_cons_self
          obtain ⟨h1, h2⟩ := List.mem_filter.mp hr
          have h3 : GM.pw m r.d = y := of_decide_eq_true h2
          have := hok.pos r.d h1 m (Nat.lt_succ_self m)
          unfold GM.pw at h3
          omega
      have hyl : ys.length = (gs.map (·.1)).length := hperm.length_eq
      obtain ⟨y0, yt, rfl⟩ : ∃ y0 yt, ys = y0 :: yt := by
        cases ys with
        | nil => rw [List.length_nil] at hyl; omega
        | cons a b => exact ⟨a, b, rfl⟩
      obtain rfl : mx = y0 := by
        have h1 := hmax y0 (hperm.mem_iff.mp List.mem_cons_self)
        have h2 : mx ∈ y0 :: yt := hperm.mem_iff.mpr hmx
        rcases List.mem_cons.mp h2 with h2 | h2
        · exact h2
        · have := (List.pairwise_cons.mp hdesc).1 mx h2
          omega
      generalize hys : mx :: yt = ys at *
      have hys0 : ys.getD 0 0 = mx := by rw [← hys]; rfl
      have hylen : 0 < ys.length := by rw [← hys]; exact Nat.succ_pos _
      have hfb : ∃ fb, fs[m]? = some fb := ⟨fs[m], List.getElem?_eq_getElem (by omega)⟩
      obtain ⟨fb, hfb⟩ := hfb
      have hfbd := hfd m fb hfb
      have hxm : (xs.getD m 0).natAbs < 2 ^ 10 := by
        rw [List.getD_eq_getElem?_getD, List.getElem?_eq_getElem (by omega)]
        exact hx _ (List.getElem_mem _)
      have hatf : atI (fs.map V.ref) (((m + 1 : Nat) : Int) - 1) = some (.ref fb) := by
        rw [show (((m + 1 : Nat) : Int) - 1) = ((m : Nat) : Int) by omega]
        exact atI_nat (j := m) (by rw [List.getElem?_map, hfb]; rfl)
      have hxs : ∀ x ∈ xs, x.natAbs ≤ 2 ^ 10 := fun x h => Nat.le_of_lt (hx x h)
      -- how great it all is
      have bnd : ∀ (q : List Int × Int) (b : Nat), q ∈ L.map Trm.d → b ≤ 60 → (q.2 * GM.mono xs m q.1 * (xs.getD m 0) ^ b).natAbs ≤ 2 ^ 39000 := fun q b hq hb => by
        have h1 := hok.sm q hq
        have h2 := GM.mono_bits (xs := xs) (E := 10) (W := 60) hxs (m := m) (p := q.1) fun j hj => by
          have := hok.pos q hq j (by omega)
          omega
        have h3 : ((xs.getD m 0) ^ b).natAbs ≤ 2 ^ (10 * 60) := by
          rw [Int.natAbs_pow]
          refine Nat.le_trans (Nat.pow_le_pow_left (Nat.le_of_lt hxm) _) ?_
          rw [← Nat.pow_mul]
          exact Nat.pow_le_pow_right (by decide) (Nat.mul_le_mul_left _ hb)
        rw [Int.natAbs_mul, Int.natAbs_mul]
        have h4 := Nat.mul_le_mul (Nat.mul_le_mul (Nat.le_of_lt h1) h2) h3
        rw [← Nat.pow_add, ← Nat.pow_add] at h4
        refine Nat.le_trans h4 (Nat.pow_le_pow_right (by decide) ?_)
        omega
      have ptb : ∀ a : Int, 0 ≤ a → (GM.pt xs m a (L.map Trm.d)).natAbs < 2 ^ 40000 := fun a ha => by
        have h1 := GM.pt_bits (xs := xs) (j := m) (B := 2 ^ 39000) (a := a) (T := L.map Trm.d) fun q hq hq2 => bnd q _ hq (by
          have := hok.pos q hq m (Nat.lt_succ_self m)
          unfold GM.pw at hq2 ⊢
          omega)
        rw [List.length_map] at h1
        refine Nat.lt_of_le_of_lt h1 (Nat.lt_of_le_of_lt (Nat.mul_le_mul_right _ (show L.length ≤ 2 ^ 10 from Nat.le_trans hL (by decide))) ?_)
        rw [← Nat.pow_add]
        exact Nat.pow_lt_pow_right (by decide) (by decide)
      refine ⟨p, rfl, ⟨_, sqlOf hp⟩, for_list (xs := ys.map V.int) (fun i σ H' => ∃ er y8, σ = [some (.ref t), some (.ref fl), some (.int ((m + 1 : Nat) : Int)), some (.ref gd), y4, y5, some (.ref er), some (.int (ys.getD (i - 1) 0)), y8] ∧ Same H2 H' ∧ ZAt H' er (if i = 0 then 0 else GM.pt xs m (ys.getD (i - 1) 0) (L.map Trm.d)))
        ⟨e0, none, by rw [hys0]; rfl, fun _ _ e => e, hz2⟩ (fun i σ H' _ h => ?_) (fun i x σ H' hx' h => ?_) (fun σ H' h => ?_)⟩
      · obtain ⟨_, _, _, s, _⟩ := h
        exact sqlOf (s _ _ hp)
      · obtain ⟨er, y8, rfl, s3, hz⟩ := h
        rw [List.getElem?_map] at hx'
        obtain ⟨b, hb, rfl⟩ := Option.map_eq_some_iff.mp hx'
        have hil : i < ys.length := (List.getElem?_eq_some_iff.mp hb).1
        have hbm : b ∈ ys := List.mem_of_getElem? hb
        have hrb := hrange b hbm
        obtain ⟨a, ha⟩ : ∃ a, ys[i - 1]? = some a := ⟨ys[i - 1], List.getElem?_eq_getElem (by omega)⟩
        have ham : a ∈ ys := List.mem_of_getElem? ha
        have hra := hrange a ham
        have ead : ys.getD (i - 1) 0 = a := by rw [List.getD_eq_getElem?_getD, ha]; rfl
        have ebd : ys.getD (i + 1 - 1) 0 = b := by rw [Nat.add_sub_cancel, List.getD_eq_getElem?_getD, hb]; rfl
        rw [ead] at hz ⊢
        rw [ebd]
        have hba : b ≤ a := by
          by_cases z : i = 0
          · subst z
            rw [ha] at hb
            cases hb
            exact Int.le_refl _
          · exact Int.le_of_lt (desc_lt hdesc ha hb (by omega))
        have en : a - b = ((a - b).toNat : Nat) := by omega
        have hG' := hG2.same s3
        obtain ⟨ga, M, hga, a1, a2, a3, a4⟩ := hout b hbm
        have a1 := s3 _ _ a1
        have a2 := a2.keep (same_keepT s3)
        have smH := sm2.trans s3
        have hR : (if i = 0 then 0 else GM.pt xs m a (L.map Trm.d)).natAbs < 2 ^ 40000 := by
          split
          · exact Nat.pow_pos (by decide)
          · exact ptb a hra.1
        refine ⟨.ref er, rfl, .ref fl, rfl, .int ((m + 1 : Nat) : Int), rfl, _, _, rfl, rfl, fl, _, _, .ref fb, rfl, rfl, sqlOf (smH _ _ hfl), hatf, .int a, rfl, .int b, rfl, _, _, rfl, rfl, ?_⟩
        dsimp only
        rw [en]
        refine ⟨er, fb, _, xs.getD m 0, (a - b).toNat, 10, rfl, hz, smH _ _ hfbd, hR, hxm, by decide, by omega, fun H3 e3 s4 n3 hz3 => ?_⟩
        have hga4 := valV_gsm hG'.nd hga
        refine ⟨.ref e3, rfl, .ref gd, rfl, .int b, rfl, gd, .ref ga, rfl, .inl ⟨_, Sum.inl b, .inl (s4 _ _ hG'.at_), rfl, hga4.symm⟩, .ref fl, rfl, .int ((m + 1 : Nat) : Int), rfl, _, _, rfl, rfl, ?_⟩
        have smH4 := smH.trans s4
        have hMl : M.length ≤ 1000 := by
          have h1 := congrArg List.length a3
          rw [List.length_map] at h1
          have h2 := List.length_filter_le (GM.at_ m b) (L.map Trm.d)
          rw [List.length_map] at h2
          omega
        refine ⟨ga, fl, M, fs, xs, ?_, ⟨.inl (sqlOf (s4 _ _ a1)), a2.keep (same_keepT s4)⟩, fun _ => sqlOf (s4 _ _ a1), a4, hMl, by omega, by rw [a3]; exact hok.part b, smH4 _ _ hfl, by omega, hfs, hfx, fun j fb' hj => smH4 _ _ (hfd j fb' hj), hx, fun H5 e5 s5 n5 hz5 => ?_⟩
        · show [V.ref ga, .ref fl, .int (((m + 1 : Nat) : Int) - 1)] = _
          rw [show (((m + 1 : Nat) : Int) - 1) = ((m : Nat) : Int) by omega]
        refine ⟨e3, e5, _, _, rfl, hz3.same s5, hz5, fun H6 e6 s6 n6 hz6 => ?_⟩
        refine ⟨.int b, rfl, e6, some (.int b), rfl, ((s3.trans s4).trans s5).trans s6, ?_⟩
        rw [if_neg (Nat.succ_ne_zero i)]
        have hval : (if i = 0 then 0 else GM.pt xs m a (L.map Trm.d)) * (xs.getD m 0) ^ (a - b).toNat + GM.tval xs m (M.map Trm.d) = GM.pt xs m b (L.map Trm.d) := by
          rw [a3]
          by_cases z : i = 0
          · rw [if_pos z, Int.zero_mul, Int.zero_add]
            subst z
            refine (GM.pt_first fun q hq => ?_).symm
            have h1 := hin q hq
            obtain ⟨j, hj, ej⟩ := List.mem_iff_getElem.mp h1
            rcases Nat.eq_zero_or_pos j with z | z
            · subst z
              rw [List.getElem?_eq_getElem hj, ej] at hb
              cases hb
              exact Int.le_refl _
            · exact Int.le_of_lt (desc_lt hdesc hb (by rw [List.getElem?_eq_getElem hj, ej]) z)
          · rw [if_neg z]
            refine (GM.pt_step (desc_lt hdesc ha hb (by omega)) fun q hq hqa => ?_).symm
            have h1 := hin q hq
            obtain ⟨j, hj, ej⟩ := List.mem_iff_getElem.mp h1
            have hj2 : ys[j]? = some (GM.pw m q) := by rw [List.getElem?_eq_getElem hj, ej]
            by_cases y : j ≤ i - 1
            · exfalso
              rcases Nat.lt_or_eq_of_le y with y | y
              · have := desc_lt hdesc hj2 ha y
                omega
              · rw [y, ha] at hj2
                cases hj2
                omega
            · by_cases y2 : j = i
              · rw [y2, hb] at hj2
                cases hj2
                exact Int.le_refl _
              · exact Int.le_of_lt (desc_lt hdesc hb hj2 (by omega))
        rw [← hval]
        exact hz6
      · obtain ⟨er, y8, rfl, s3, hz⟩ := h
        rw [List.length_map] at hz ⊢
        obtain ⟨a, ha⟩ : ∃ a, ys[ys.length - 1]? = some a := ⟨ys[ys.length - 1], List.getElem?_eq_getElem (by omega)⟩
        have ham : a ∈ ys := List.mem_of_getElem? ha
        have hra := hrange a ham
        have ead : ys.getD (ys.length - 1) 0 = a := by rw [List.getD_eq_getElem?_getD, ha]; rfl
        rw [ead, if_neg (by omega)] at hz
        rw [ead]
        have en : a = (a.toNat : Nat) := by omega
        have smH := sm2.trans s3
        refine ⟨.ref er, rfl, .ref fl, rfl, .int ((m + 1 : Nat) : Int), rfl, _, _, rfl, rfl, fl, _, _, .ref fb, rfl, rfl, sqlOf (smH _ _ hfl), hatf, .int a, rfl, ?_⟩
        refine ⟨er, fb, _, xs.getD m 0, a.toNat, 10, ?_, hz, smH _ _ hfbd, ptb a hra.1, hxm, by decide, by omega, fun H3 e3 s4 n3 hz3 => ?_⟩
        · rw [← en]
          rfl
        · rw [GM.pt_last hra.1 fun q hq => ?_] at hz3
          · exact q H3 e3 (smH.trans s4) (smH.free n3) hz3
          · have h1 := hin q hq
            obtain ⟨j, hj, ej⟩ := List.mem_iff_getElem.mp h1
            have hj2 : ys[j]? = some (GM.pw m q) := by rw [List.getElem?_eq_getElem hj, ej]
            by_cases y2 : j = ys.length - 1
            · rw [y2, ha] at hj2
              cases hj2
              exact Int.le_refl _
            · exact Int.le_of_lt (desc_lt hdesc hj2 ha (by omega))
theorem ok_ga {k : Nat} (D : Defs K mg f d) : ∀ m, FnOk P w K mg base CX0 (k + 3 + m) (f i_gathered) (d i_gathered) ["terms", "factors", "many"] (spGa K m)
  | 0 => (ok_ga0 (k := k) D).mono (by omega)
  | m + 1 => by
    have G := ok_ga (k := k) D m
    have := ok_gaS (k := k + 1 + m) D (G.mono (by omega))
    exact this.mono (by omega)
end
end NH
set_option Elab.async false
set_option linter.all false
set_option maxRecDepth 100000
set_option maxHeartbeats 1000000
set_option exponentiation.threshold 100000
namespace NH
open PySem PySem.Spec PyProof.Rows L2 R1 ZN PK RS
/-- a term with ms added to its powers -/
def more (ms : List Int) (q : List Int × Int) : List Int × Int := (List.zipWith (fun a b => a + 1 * b) q.1 ms, q.2)
section
variable {P : Program} {w : World} {K : PySem.W.Frag} {mg : Str → Option Value} {base : Heap}
def spMovedL : Sp := fun vs H Q _ => ∃ (t p : Addr) (ms : List Int) (L : List Trm), vs = [.ref t, .ref p, .int 1] ∧ SumAt H t L ∧ L.length ≤ 4000 ∧ H p = some (.lst (ms.map V.int)) ∧ ms.length ≤ 4000 ∧ (∀ r ∈ L, r.ns.length = ms.length) ∧
  ∀ H' (t' : Addr) (L' : List Trm), Same H H' → H t' = none → SumAt H' t' L' → L'.map Trm.d = (L.map Trm.d).map (more ms) → Q (.ref t') H'
theorem ok_movedL {f : Addr} {fd : FuncData} {k : Nat} (F : Fun K "moved" "moved" sMoved f fd) (mt : mg "tuple" = none) (mz : mg "zip" = none) : FnOk P w K mg base CX0 (k + 1) f fd ["told", "powers", "sign"] spMovedL := by
  refine F.ok scMoved (fun vs H Q E h => ?_) (fun cdv A outer s H vs Q E hr h => ?_)
  · obtain ⟨t, m, L, _, rfl, _⟩ := h
    rfl
  · obtain ⟨t, p, ms, L, rfl, hS, hL, hp, hms, hlen, q⟩ := h
    refine ⟨_, pss_one (ps_ret (pe_callTy call_tuple_of (by rfl) mt (by decide +kernel) (pa_cons (pe_lc (own := [("own", 3), ("coefficient", 4)]) (g := gTup K 2 (gCons (gName 3) (gCons (gName 4) gNil))) (by rfl) scMoved.nd (pi_tup (pv 0)) (blkOk_by (own := [("own", 3), ("coefficient", 4)]) (N := nmMoved) (sc := defScope sMoved) (by decide +kernel))
          (fun _ _ _ _ _ => pg_tup rfl (pgs_cons (pg_name (i := 3) scMoved.nd rfl (.inl rfl)) (pgs_cons (pg_name (i := 4) scMoved.nd rfl (.inl rfl)) pgs_nil))) (fun _ _ _ _ _ => pts_nil)
          (fun _ _ _ _ _ => pe_tup (pa_cons (pe_callTy (r := fun xs H Q => ∃ p ys, xs = [.ref p] ∧ ((SqL K H p ys ∧ ∀ l, H l = none → Q (.ref l) (upd H l (.tup ys))) ∨ (SqT K H p ys ∧ Q (.ref p) H))) call_tuple_of (by rfl) mt (by decide +kernel) (pa_cons (pe_lc (wi := iZipM K (tCons (tVar 3) (tCons (tVar 1) tNil))) (own := [("one", 5), ("other", 6)]) (g := gTup K 2 (gCons (gName 5) (gCons (gName 6) gNil))) (by rfl) scMoved.nd (pi_zipM (by rfl) mz (pa_cons (pv 3) (pa_cons (pv 1) pa_nil))) (blkOk_by (own := [("one", 5), ("other", 6)]) (N := nmMoved) (by rfl))
              (fun _ _ _ _ _ => pg_tup rfl (pgs_cons (pg_name (i := 5) scMoved.nd rfl (.inl rfl)) (pgs_cons (pg_name (i := 6) scMoved.nd rfl (.inl rfl)) pgs_nil))) (fun _ _ _ _ _ => pts_nil)
              (fun _ _ _ _ _ => pe_op op_add (pv 5) (pe_op op_mul (pv 2) (pv 6)))) pa_nil)) (pa_cons (pv 4) pa_nil)))) pa_nil))), ?_⟩
    refine ⟨.ref t, rfl, t, rfl, ⟨_, hS.sq⟩, fun D nD => ?_⟩
    refine lc_tup (xs := L.map Trm.v) (fun j H' => ∃ L' : List Trm, H' D = some (.lst (L'.map Trm.v)) ∧ RowsOk H' L' ∧ L'.map Trm.d = ((L.take j).map Trm.d).map (more ms) ∧ ∀ b o, b ≠ D → H b = some o → H' b = some o) ⟨[], upd_same, (fun r h => by cases h), by simp, fun b o hb e => by rw [upd_ne hb]; exact e⟩ (fun i H' _ h => ?_) (fun i x H1 hx h => ?_) (fun H1 h => ?_)
    · obtain ⟨_, _, _, _, kp⟩ := h
      exact .inl (.inl (kp t _ (ne_of_none hS.at_ nD) hS.at_))
    · obtain ⟨L', hD, ho, ed, kp⟩ := h
      rw [List.getElem?_map] at hx
      obtain ⟨r, hr1, rfl⟩ := Option.map_eq_some_iff.mp hx
      obtain ⟨o1, o2⟩ := hS.rows r (List.mem_of_getElem? hr1)
      have hlt := (List.getElem?_eq_some_iff.mp hr1).1
      have hrl := hlen r (List.mem_of_getElem? hr1)
      have up : ∀ {b o}, H b = some o → H1 b = some o := fun {b o} e => kp b o (ne_of_none e nD) e
      refine ⟨r.t, _, rfl, .inl (.inl (up o1)), rfl, _, _, rfl, _, _, rfl, rfl, rfl, .ref r.p, rfl, .ref p, rfl, r.p, p, _, _, rfl, .inl (.inl (up o2)), .inl (.inl (up hp)), fun D2 nD2 => ?_⟩
      refine lc_it (walk_zipM (xs := r.ns.map V.int) (ys := ms.map V.int) (by rw [List.length_map, List.length_map, hrl])) (fun j H' => H' D2 = some (.lst (((List.zipWith (fun a b => a + 1 * b) r.ns ms).take j).map V.int)) ∧ ∀ b o, b ≠ D2 → H1 b = some o → H' b = some o) ⟨upd_same, fun b o hb e => by rw [upd_ne hb]; exact e⟩ (fun j H' _ h => ?_) (fun j x H2 H' hj h hy => ?_) (fun H2 h => ?_)
      · exact ⟨.inl (.inl (h.2 _ _ (ne_of_none (up o2) nD2) (up o2))), .inl (.inl (h.2 _ _ (ne_of_none (up hp) nD2) (up hp)))⟩
      · obtain ⟨hD2, kp2⟩ := h
        obtain ⟨T, x1, x2, rfl, nT, rfl, e1, e2⟩ := hy
        dsimp only at e1 e2
        rw [List.getElem?_map] at e1 e2
        obtain ⟨n1, f1, rfl⟩ := Option.map_eq_some_iff.mp e1
        obtain ⟨n2, f2, rfl⟩ := Option.map_eq_some_iff.mp e2
        have hj1 := (List.getElem?_eq_some_iff.mp f1).1
        have TD : D2 ≠ T := ne_of_none hD2 nT
        refine ⟨T, _, rfl, .inl (.inl upd_same), rfl, _, _, rfl, _, _, rfl, rfl, rfl, .int n1, rfl, .int 1, rfl, .int n2, rfl, 1, n2, rfl, rfl, .inl ⟨by decide, by decide⟩, n1, 1 * n2, rfl, rfl, _, (by rw [upd_ne TD]; exact hD2), ?_, ?_, fun b o hb e => ?_⟩
        · rw [List.length_map, List.length_take, List.length_zipWith, sizeLine_eq]
          omega
        · rw [upd_same, zip_take f1 f2, List.map_append]
          rfl
        · rw [upd_ne hb]
          exact same_new nT _ _ (kp2 b o hb e)
      · obtain ⟨hD2, kp2⟩ := h
        rw [List.length_map, List.take_of_length_le (by rw [List.length_zipWith]; omega)] at hD2
        have up2 : ∀ {b o}, H1 b = some o → H2 b = some o := fun {b o} e => kp2 b o (ne_of_none e nD2) e
        refine ⟨D2, _, rfl, .inl ⟨sqlOf hD2, fun p2 np2 => ?_⟩⟩
        refine ⟨.int r.c, rfl, size2', fun t2 nt2 => ?_⟩
        have h4 : ∀ {b o}, H1 b = some o → upd (upd H2 p2 (.tup ((List.zipWith (fun a b => a + 1 * b) r.ns ms).map V.int))) t2 (.tup [.ref p2, .int r.c]) b = some o := fun {b o} e => same_new nt2 _ _ (same_new np2 _ _ (up2 e))
        obtain ⟨g1, g2⟩ := rows_step (D := D) (t := t2) (p := p2) (ns := List.zipWith (fun a b => a + 1 * b) r.ns ms) (c := r.c) (h4 hD) (ho.keep fun b xs e => h4 e) upd_same (same_new nt2 _ _ upd_same)
        have ll : L'.length = i := by
          have := congrArg List.length ed
          simp at this
          omega
        refine ⟨_, h4 hD, (by rw [List.length_map, sizeLine_eq]; omega), _, g1, g2, ?_, fun b o hb e => ?_⟩
        · rw [List.map_append, ed, List.take_add_one, hr1, List.map_append, List.map_append]
          rfl
        · rw [upd_ne hb]
          exact h4 (kp b o hb e)
    · obtain ⟨L', hD, ho, ed, kp⟩ := h
      rw [List.length_map, List.take_length] at ed
      have sm : Same H H1 := fun b o e => kp b o (ne_of_none e nD) e
      refine ⟨D, _, rfl, .inl ⟨sqlOf hD, fun t' nt' => ?_⟩⟩
      exact q _ t' L' (sm.trans (same_new nt')) (sm.free nt') ⟨upd_same, ho.keep (same_keepT (same_new nt'))⟩ ed
/-! ### freed -/
end
end NH
set_option Elab.async false
set_option linter.all false
set_option maxRecDepth 100000
namespace GM
/-! ### fractions in lowest terms -/
structure IsLow (T B a b : Int) : Prop where
  pos : 0 < b
  cop : Nat.gcd a.natAbs b.natAbs = 1
  eq : T * b = a * B
theorem IsLow.uniq {T B T2 B2 a b a2 b2 : Int} (h : IsLow T B a b) (h2 : IsLow T2 B2 a2 b2) (hB : B ≠ 0) (hB2 : B2 ≠ 0) (e : T * B2 = T2 * B) : a = a2 ∧ b = b2 := by
  -- a * b2 = a2 * b
  have e1 : a * b2 = a2 * b := by
    have h3 : (a * b2) * (B * B2) = (a2 * b) * (B * B2) := by
      calc (a * b2) * (B * B2) = (a * B) * (b2 * B2) := by grind
        _ = (T * b) * (b2 * B2) := by rw [h.eq]
        _ = (T * B2) * (b * b2) := by grind
        _ = (T2 * B) * (b * b2) := by rw [e]
        _ = (T2 * b2) * (b * B) := by grind
        _ = (a2 * B2) * (b * B) := by rw [h2.eq]
        _ = (a2 * b) * (B * B2) := by grind
    exact Int.eq_of_mul_eq_mul_right (Int.mul_ne_zero hB hB2) h3
  have d1 : b.natAbs ∣ b2.natAbs := by
    have : b.natAbs ∣ (a.natAbs * b2.natAbs) := by
      rw [← Int.natAbs_mul, e1, Int.natAbs_mul]
      exact Nat.dvd_mul_left _ _
    exact (Nat.Coprime.symm h.cop).dvd_of_dvd_mul_left this
  have d2 : b2.natAbs ∣ b.natAbs := by
    have : b2.natAbs ∣ (a2.natAbs * b.natAbs) := by
      rw [← Int.natAbs_mul, ← e1, Int.natAbs_mul]
      exact Nat.dvd_mul_left _ _
    exact (Nat.Coprime.symm h2.cop).dvd_of_dvd_mul_left this
  have eb : b = b2 := by
    have := Nat.dvd_antisymm d1 d2
    have p1 := h.pos
    have p2 := h2.pos
    omega
  subst eb
  refine ⟨?_, rfl⟩
  exact Int.eq_of_mul_eq_mul_right (by have := h.pos; omega) e1
/-- division by the common divisor with the sign of the lower one -/
theorem low_of {T B s : Int} (hB : B ≠ 0) (hs : s = if B < 0 then -((Nat.gcd T.natAbs B.natAbs : Nat) : Int) else ((Nat.gcd T.natAbs B.natAbs : Nat) : Int)) : s ≠ 0 ∧ s.natAbs = Nat.gcd T.natAbs B.natAbs ∧ IsLow T B (T.fdiv s) (B.fdiv s) := by
  have g0 : 0 < Nat.gcd T.natAbs B.natAbs := Nat.gcd_pos_of_pos_right _ (by omega)
  have sa : s.natAbs = Nat.gcd T.natAbs B.natAbs := by
    rw [hs]
    split <;> omega
  have s0 : s ≠ 0 := by omega
  obtain ⟨t, ht⟩ : s ∣ T := Int.natAbs_dvd_natAbs.mp (by rw [sa]; exact Nat.gcd_dvd_left _ _)
  obtain ⟨b, hb⟩ : s ∣ B := Int.natAbs_dvd_natAbs.mp (by rw [sa]; exact Nat.gcd_dvd_right _ _)
  have e1 : T.fdiv s = t := by rw [ht]; exact Int.mul_fdiv_cancel_left _ s0
  have e2 : B.fdiv s = b := by rw [hb]; exact Int.mul_fdiv_cancel_left _ s0
  refine ⟨s0, sa, ?_, ?_, ?_⟩
  · rw [e2]
    by_cases h : B < 0
    · rw [if_pos h] at hs
      have sn : s < 0 := by omega
      rw [hb] at h
      by_cases hb0 : 0 < b
      · exact hb0
      · exfalso
        have : 0 ≤ s * b := Int.mul_nonneg_of_nonpos_of_nonpos (by omega) (by omega)
        omega
    · rw [if_neg h] at hs
      have sp : 0 < s := by omega
      have hb1 : 0 < s * b := by rw [← hb]; omega
      by_cases hb0 : 0 < b
      · exact hb0
      · exfalso
        have := Int.mul_nonpos_of_nonneg_of_nonpos (a := s) (b := b) (by omega) (by omega)
        omega
  · rw [e1, e2]
    have h1 : T.natAbs = s.natAbs * t.natAbs := by rw [ht, Int.natAbs_mul]
    have h2 : B.natAbs = s.natAbs * b.natAbs := by rw [hb, Int.natAbs_mul]
    have h3 : Nat.gcd T.natAbs B.natAbs = s.natAbs * Nat.gcd t.natAbs b.natAbs := by rw [h1, h2, Nat.gcd_mul_left]
    rw [← sa] at h3
    have : s.natAbs * Nat.gcd t.natAbs b.natAbs = s.natAbs * 1 := by omega
    exact Nat.eq_of_mul_eq_mul_left (by omega) this
  · rw [e1, e2]
    rw [ht, hb]
    grind
/-- all letters raised -/
def prodP (xs : List Int) : Nat → List Int → Int
  | 0, _ => 1
  | m + 1, ms => prodP xs m ms * (xs.getD m 0) ^ (ms.getD m 0).toNat
theorem prodP_mono (xs : List Int) : ∀ (m : Nat) (ms : List Int), prodP xs m ms = mono xs m ms
  | 0, _ => rfl
  | m + 1, ms => by rw [prodP, mono, prodP_mono xs m ms]
theorem mono_add {xs : List Int} : ∀ {m : Nat} {p q r : List Int}, (∀ j, j < m → 0 ≤ p.getD j 0 ∧ 0 ≤ q.getD j 0 ∧ r.getD j 0 = p.getD j 0 + q.getD j 0) → mono xs m r = mono xs m p * mono xs m q
  | 0, _, _, _, _ => rfl
  | m + 1, p, q, r, h => by
    have ih := mono_add (xs := xs) (m := m) (p := p) (q := q) (r := r) fun j hj => h j (by omega)
    obtain ⟨h1, h2, h3⟩ := h m (Nat.lt_succ_self m)
    have h4 : (r.getD m 0).toNat = (p.getD m 0).toNat + (q.getD m 0).toNat := by omega
    rw [mono, mono, mono, ih, h4, Int.pow_add]
    grind
theorem mono_ne {xs : List Int} : ∀ {m : Nat} {p : List Int}, (∀ j, j < m → xs.getD j 0 ≠ 0) → mono xs m p ≠ 0
  | 0, _, _ => by simp [mono]
  | m + 1, p, h => by
    rw [mono]
    exact Int.mul_ne_zero (mono_ne fun j hj => h j (by omega)) (Int.pow_ne_zero (h m (Nat.lt_succ_self m)))
end GM
set_option Elab.async false
set_option linter.all false
set_option maxRecDepth 100000
set_option maxHeartbeats 1000000
set_option exponentiation.threshold 100000
namespace NH
open PySem PySem.Spec PyProof.Rows L2 R1 ZN PK RS
/-- what is missing to 0 -/
def miss (v : Int) : Int := if 0 > -v then 0 else -v
theorem miss_is (v : Int) : 0 ≤ miss v ∧ 0 ≤ v + miss v ∧ (0 ≤ v → miss v = 0) ∧ (v ≤ 0 → miss v = -v) := by
  unfold miss
  split <;> omega
theorem op_fdivB {X : Cx} : OpR X (binaryOp .FloorDiv) (rI (fun _ j => j ≠ 0 ∧ j.natAbs.log2 < 9000) fun i j => .int (i.fdiv j)) := opI fun _ _ _ _ _ _ _ hc q => floordiv_int hc.1 q (.inl (PyProof.noPylong_of_log2 hc.2))
theorem fn_all {P : Program} {w : World} {K : PySem.W.Frag} {mg : Str → Option Value} {base : Heap} {CX : CXT} {k : Nat} {f : Addr} {fd : FuncData} {ps : List Str} {sp : Nat → Sp} {N : Nat} (F : ∀ m, m ≤ N → FnOk P w K mg base CX k f fd ps (sp m)) : FnOk P w K mg base CX k f fd ps (fun vs H Q E => ∃ m, m ≤ N ∧ sp m vs H Q E) :=
  ⟨fun vs H Q E ⟨m, hm, h⟩ => (F m hm).len vs H Q E h, fun A outer s H args us vs Q E r e0 bd vv ⟨m, hm, h⟩ => (F m hm).run A outer s H args us vs Q E r e0 bd vv h⟩
theorem more_at {q : List Int × Int} {ms : List Int} {j m : Nat} (h1 : q.1.length = m) (h2 : ms.length = m) (hj : j < m) : (more ms q).1.getD j 0 = q.1.getD j 0 + ms.getD j 0 := by
  unfold more
  dsimp only
  rw [List.getD_eq_getElem?_getD, List.getElem?_zipWith, List.getElem?_eq_getElem (by omega), List.getElem?_eq_getElem (by omega), List.getD_eq_getElem?_getD, List.getD_eq_getElem?_getD, List.getElem?_eq_getElem (by omega), List.getElem?_eq_getElem (by omega)]
  show _ + 1 * _ = _
  simp
theorem more_len {q : List Int × Int} {ms : List Int} {m : Nat} (h1 : q.1.length = m) (h2 : ms.length = m) : (more ms q).1.length = m := by
  unfold more
  dsimp only
  rw [List.length_zipWith, h1, h2]
  exact Nat.min_self m
theorem getD_map_miss (ms : List Int) {j : Nat} (h : j < ms.length) : (ms.map miss).getD j 0 = miss (ms.getD j 0) := by
  rw [List.getD_eq_getElem?_getD, List.getElem?_map, List.getElem?_eq_getElem h, List.getD_eq_getElem?_getD, List.getElem?_eq_getElem h]
  rfl
theorem getD_ext {a b : List Int} {m : Nat} (h1 : a.length = m) (h2 : b.length = m) (h : ∀ j, j < m → a.getD j 0 = b.getD j 0) : a = b := by
  apply List.ext_getElem (by omega)
  intro j h3 h4
  have := h j (by omega)
  rw [List.getD_eq_getElem?_getD, List.getD_eq_getElem?_getD, List.getElem?_eq_getElem h3, List.getElem?_eq_getElem h4] at this
  exact this
structure Bnds (D : Ts) : Prop where
  b : ∀ q ∈ D, q.2.natAbs < 2 ^ 300 ∧ ∀ v ∈ q.1, -30 ≤ v ∧ v ≤ 30
theorem Bnds.at {D : Ts} (h : Bnds D) {q : List Int × Int} (hq : q ∈ D) (j : Nat) : -30 ≤ q.1.getD j 0 ∧ q.1.getD j 0 ≤ 30 := by
  by_cases hj : j < q.1.length
  · rw [List.getD_eq_getElem?_getD, List.getElem?_eq_getElem hj]
    exact (h.b q hq).2 _ (List.getElem_mem hj)
  · rw [List.getD_eq_getElem?_getD, List.getElem?_eq_none (by omega)]
    decide
theorem least_at {D : Ts} {m : Nat} {ms : List Int} (hI : IsLeast D m ms) {j : Nat} (hj : j < m) : (∃ q ∈ D, q.1.getD j 0 = ms.getD j 0) ∧ ∀ q ∈ D, ms.getD j 0 ≤ q.1.getD j 0 := by
  obtain ⟨v, hv, h1, h2⟩ := hI.2 j hj
  have e : ms.getD j 0 = v := by rw [List.getD_eq_getElem?_getD, hv]; rfl
  rw [e]
  refine ⟨?_, fun q hq => h2 _ (List.mem_map.mpr ⟨q, hq, rfl⟩)⟩
  obtain ⟨q, hq, eq⟩ := List.mem_map.mp h1
  exact ⟨q, hq, eq⟩
theorem tmok_of {m : Nat} {D : Ts} {ms : List Int} (hG : Good m D) (hI : IsLeast D m ms) (hb : Bnds D) : TmOk m 60 (D.map (more (ms.map miss))) := by
  have hml : (ms.map miss).length = m := by rw [List.length_map]; exact hI.1
  have at_ : ∀ q ∈ D, ∀ j, j < m → (more (ms.map miss) q).1.getD j 0 = q.1.getD j 0 + miss (ms.getD j 0) := fun q hq j hj => by
    rw [more_at (hG.1 q hq).1 hml hj, getD_map_miss ms (by rw [hI.1]; exact hj)]
  refine ⟨fun q' hq' j hj => ?_, fun q' hq' => ?_, ?_, fun q' hq' => ?_⟩
  · obtain ⟨q, hq, rfl⟩ := List.mem_map.mp hq'
    rw [at_ q hq j hj]
    obtain ⟨⟨q2, hq2, e⟩, hle⟩ := least_at hI hj
    have h1 := hb.at hq j
    have h2 := hb.at hq2 j
    have h3 := hle q hq
    obtain ⟨m1, m2, m3, m4⟩ := miss_is (ms.getD j 0)
    rw [e] at h2
    by_cases z : 0 ≤ ms.getD j 0
    · have := m3 z
      omega
    · have := m4 (by omega)
      omega
  · obtain ⟨q, hq, rfl⟩ := List.mem_map.mp hq'
    rw [more_len (hG.1 q hq).1 hml]
    exact Nat.le_refl _
  · rw [List.pairwise_map]
    refine hG.2.imp_of_mem fun {x y} hx hy e z => ?_
    rw [List.take_of_length_le (Nat.le_of_eq (more_len (hG.1 x hx).1 hml)), List.take_of_length_le (Nat.le_of_eq (more_len (hG.1 y hy).1 hml))] at z
    have : x.1 = y.1 := getD_ext (hG.1 x hx).1 (hG.1 y hy).1 fun j hj => by
      have h1 := at_ x hx j hj
      have h2 := at_ y hy j hj
      rw [z] at h1
      omega
    rw [this, lex_irrefl] at e
    cases e
  · obtain ⟨q, hq, rfl⟩ := List.mem_map.mp hq'
    exact (hb.b q hq).1
theorem miss_small {m : Nat} {D : Ts} {ms : List Int} (hI : IsLeast D m ms) (hb : Bnds D) {j : Nat} (hj : j < m) : 0 ≤ (ms.map miss).getD j 0 ∧ (ms.map miss).getD j 0 ≤ 30 := by
  rw [getD_map_miss ms (by rw [hI.1]; exact hj)]
  obtain ⟨⟨q2, hq2, e⟩, hle⟩ := least_at hI hj
  have h2 := hb.at hq2 j
  rw [e] at h2
  obtain ⟨m1, m2, m3, m4⟩ := miss_is (ms.getD j 0)
  by_cases z : 0 ≤ ms.getD j 0
  · have := m3 z
    omega
  · have := m4 (by omega)
    omega
section
variable {P : Program} {w : World} {K : PySem.W.Frag} {mg : Str → Option Value} {base : Heap} {f : Nat → Addr} {d : Nat → FuncData}
def spLifted : Sp := fun vs H Q _ => ∃ (t : Addr) (m : Nat) (L : List Trm), vs = [.ref t] ∧ SumAt H t L ∧ L.length ≤ 4000 ∧ L ≠ [] ∧ 0 < m ∧ m ≤ 4000 ∧ (∀ r ∈ L, r.ns.length = m) ∧
  ∀ H' (z l t' : Addr) (ms : List Int) (L' : List Trm), Same H H' → IsLeast (L.map Trm.d) m ms → H' l = some (.lst ((ms.map miss).map V.int)) → SumAt H' t' L' → L'.map Trm.d = (L.map Trm.d).map (more (ms.map miss)) → H' z = some (.tup [.ref l, .ref t']) → Q (.ref z) H'
theorem ok_lifted {k : Nat} (D : Defs K mg f d) : FnOk P w K mg base CX0 (k + 3) (f i_lifted) (d i_lifted) ["told"] spLifted := by
  have G_least_of : FnOk P w K mg base CX0 (k + 2) (f i_least_of) (d i_least_of) ["told"] spLeast := ok_least D.F_least_of D.F_lines_of D.b_lines_of D.g_lines_of D.z_list D.z_zip D.z_min D.z_tuple
  have G_moved : FnOk P w K mg base CX0 (k + 2) (f i_moved) (d i_moved) ["told", "powers", "sign"] spMovedL := (ok_movedL (k := k) D.F_moved D.z_tuple D.z_zip).mono (by omega)
  refine D.F_lifted.ok sc_lifted (fun vs H Q E h => ?_) (fun cdv A outer s H vs Q E hr h => ?_)
  · obtain ⟨t, m, L, rfl, _⟩ := h
    rfl
  · obtain ⟨t, m, L, rfl, hS, hL, hne, hm0, hm, hlen, q⟩ := h
    have nd := sc_lifted.nd
    refine ⟨_, pss_cons (ps_setLc (i := 1) (own := [("low", 2)]) (g := gName 2) (by rfl) nd rfl rfl (sw_true rfl rfl rfl (by decide +kernel)) (pi_tup (pe_call G_least_of hr (by rfl) D.g_least_of D.F_least_of.kp D.b_least_of .nil pass0 (pa_cons (pv 0) pa_nil))) (blkOk_by (own := [("low", 2)]) (N := N_lifted) (sc := defScope s_lifted) (by decide +kernel))
          (fun _ _ _ _ _ => pg_name (i := 2) nd rfl (.inl rfl)) (fun _ _ _ _ _ => pts_nil) (fun _ _ _ _ _ => pe_callB (call_max2 rfl) (by rfl) D.z_max (by decide +kernel) (pa_cons (pe_un un_neg (pv 2)) (pa_cons pe_int pa_nil))))
      (pss_one (ps_ret (pe_tup (pa_cons (pv 1) (pa_cons (pe_call G_moved hr (by rfl) D.g_moved D.F_moved.kp D.b_moved .nil pass0 (pa_cons (pv 0) (pa_cons (pv 1) (pa_cons pe_int pa_nil)))) pa_nil))))), ?_⟩
    refine ⟨.ref t, rfl, t, m, L, rfl, hS, hL, hm0, hm, hlen, fun H1 p ms s1 np hp hI => ?_⟩
    have hc : cnt m L = m := by
      unfold cnt
      cases L with
      | nil => exact absurd rfl hne
      | cons r Lt => rfl
    rw [hc] at hI
    have hml : ms.length = m := hI.1
    refine ⟨p, rfl, ⟨_, sqtOf hp⟩, fun l nl => ?_⟩
    refine lc_tup (xs := ms.map V.int) (fun i H' => H' l = some (.lst (((ms.take i).map miss).map V.int)) ∧ But l H1 H') ⟨upd_same, But.start⟩ (fun i H' _ h => sqtOf (h.2 _ _ (ne_of_none hp nl) hp)) (fun i x H' hx h => ?_) (fun H' h => ?_)
    · rw [List.getElem?_map] at hx
      obtain ⟨v, hv, rfl⟩ := Option.map_eq_some_iff.mp hx
      have hil : i < ms.length := (List.getElem?_eq_some_iff.mp hv).1
      refine ⟨rfl, .int v, rfl, _, rfl, _, _, rfl, _, h.1, ?_, ?_, h.2.step (Same.refl _)⟩
      · rw [List.length_map, List.length_map, List.length_take, sizeLine_eq]
        omega
      · rw [upd_same, List.take_add_one, hv, List.map_append, List.map_append]
        rfl
    · obtain ⟨hl, kp⟩ := h
      rw [List.length_map, List.take_length] at hl
      have s2 := s1.trans (kp.same nl)
      refine ⟨.ref l, rfl, .ref t, rfl, .ref l, rfl, t, l, ms.map miss, L, rfl, hS.same s2, hL, hl, by rw [List.length_map]; omega, fun r hr => by rw [List.length_map, hlen r hr, hml], fun H3 t' L' s3 nt hS' ed => ?_⟩
      refine ⟨two_ok, fun z nz => ?_⟩
      have s4 := same_new (o := .tup [V.ref l, .ref t']) nz
      exact q _ z l t' ms L' ((s2.trans s3).trans s4) hI (s4 _ _ (s3 _ _ hl)) (hS'.same s4) ed upd_same
def spVo : Sp := fun vs H Q _ => ∃ (t nl : Addr) (m : Nat) (L : List Trm) (xs : List Int), vs = [.ref t, .ref nl] ∧ SumAt H t L ∧ L.length ≤ 1000 ∧ Good m (L.map Trm.d) ∧ 0 < m ∧ m ≤ 6 ∧ H nl = some (.lst (xs.map V.int)) ∧ (L ≠ [] → xs.length = m) ∧ (∀ x ∈ xs, x ≠ 0 ∧ x.natAbs < 2 ^ 10) ∧ Bnds (L.map Trm.d) ∧
  (∀ H' (z : Addr), Same H H' → L = [] → H' z = some (.tup [.int 0, .int 1]) → Q (.ref z) H') ∧
  (∀ H' (z : Addr) (a b : Int) (ms : List Int), Same H H' → L ≠ [] → IsLeast (L.map Trm.d) m ms → GM.IsLow (GM.tval xs m ((L.map Trm.d).map (more (ms.map miss)))) (GM.mono xs m (ms.map miss)) a b → H' z = some (.tup [.int a, .int b]) → Q (.ref z) H')
theorem ok_vo {k : Nat} (D : Defs K mg f d) (gG : mg "gcd" = some (.builtin "math.gcd")) : FnOk P w K mg base CX0 (k + 10) (f i_value_of) (d i_value_of) ["told", "numbers"] spVo := by
  have G_lifted : FnOk P w K mg base CX0 (k + 9) (f i_lifted) (d i_lifted) ["told"] spLifted := (ok_lifted (k := k) D).mono (by omega)
  have G_gathered : FnOk P w K mg base CX0 (k + 9) (f i_gathered) (d i_gathered) ["terms", "factors", "many"] (fun vs H Q E => ∃ m, m ≤ 6 ∧ spGa K m vs H Q E) := fn_all fun m hm => (ok_ga (k := k) D m).mono (by omega)
  have G_whole_power : FnOk P w K mg base CX0 (k + 9) (f i_whole_power) (d i_whole_power) ["base", "times"] spWP := (ok_wp (k := k) D).mono (by omega)
  refine D.F_value_of.ok sc_value_of (fun vs H Q E h => ?_) (fun cdv A outer s H vs Q E hr h => ?_)
  · obtain ⟨t, nl, m, L, xs, rfl, _⟩ := h
    rfl
  · obtain ⟨t, nl, m, L, xs, rfl, hS, hL, hGd, hm0, hm6, hnl, hxl, hx, hb, q0, q⟩ := h
    have nd := sc_value_of.nd
    have hu := hu_of hr
    refine ⟨_, pss_cons (ps_if (pt_not (pt_truth (pv 0) (by intro _; rfl)))
        (pss_one (ps_ret (pe_tup (pa_cons pe_int (pa_cons pe_int pa_nil)))))
        pss_nil)
      (pss_cons (ps_asg (pe_call G_lifted hr (by rfl) D.g_lifted D.F_lifted.kp D.b_lifted .nil pass0 (pa_cons (pv 0) pa_nil)) (pg_tup rfl (pgs_cons (pg_name (i := 2) nd rfl (.inl rfl)) (pgs_cons (pg_name (i := 3) nd rfl (.inl rfl)) pgs_nil))))
      (pss_cons (ps_set (i := 5) nd rfl (.inl rfl) (pe_dget2 hu (pe_call G_gathered hr (by rfl) D.g_gathered D.F_gathered.kp D.b_gathered .nil pass0 (pa_cons (pv 3) (pa_cons (pe_lc (own := [("number", 4)]) (g := gName 4) (by rfl) nd (pi_list (pv 1)) (blkOk_by (own := [("number", 4)]) (N := N_value_of) (sc := defScope s_value_of) (by decide +kernel))
          (fun _ _ _ _ _ => pg_name (i := 4) nd rfl (.inl rfl)) (fun _ _ _ _ _ => pts_nil) (fun _ _ _ _ _ => pe_disp (pps_cons pe_int (pv 4) pps_nil) (by rfl) (by rfl) (fun z => by cases z) (by decide))) (pa_cons (pe_callB call_len_seq (by rfl) D.z_len PySem.boot_len (pa_cons (pv 1) pa_nil)) pa_nil)))) pe_int pe_int ⟨rfl, rfl, rfl, rfl⟩))
      (pss_cons (ps_set (i := 6) nd rfl (.inl rfl) (pe_int))
      (pss_cons (ps_for PassesOwn.never rfl (pi_zip (by rfl) D.z_zip (pa_cons (pv 2) (pa_cons (pv 1) pa_nil))) (pg_tup rfl (pgs_cons (pg_name (i := 7) nd rfl (.inl rfl)) (pgs_cons (pg_name (i := 4) nd rfl (.inl rfl)) pgs_nil)))
        (pss_one (ps_set (i := 6) nd rfl (.inl rfl) (pe_op op_mulX (pv 6) (pe_call G_whole_power hr (by rfl) D.g_whole_power D.F_whole_power.kp D.b_whole_power .nil pass0 (pa_cons (pv 4) (pa_cons (pv 7) pa_nil)))))))
      (pss_cons (ps_set (i := 8) nd rfl (.inl rfl) (pe_ifExp (pt_cmpR op_gt (pv 6) pe_int (nomark _)) (pe_callBfun cr_gcd (by rfl) gG (pa_cons (pv 5) (pa_cons (pv 6) pa_nil))) (pe_un un_neg (pe_callBfun cr_gcd (by rfl) gG (pa_cons (pv 5) (pa_cons (pv 6) pa_nil))))))
      (pss_one (ps_ret (pe_tup (pa_cons (pe_op op_fdivB (pv 5) (pv 8)) (pa_cons (pe_op op_fdivB (pv 6) (pv 8)) pa_nil)))))))))), ?_⟩
    refine ⟨.ref t, rfl, _, .inr (.inl ⟨_, hS.sq, rfl⟩), ?_⟩
    by_cases hne : L = []
    · subst hne
      refine iteT ?_
      refine ⟨two_ok, fun z nz => ?_⟩
      exact q0 _ z (same_new nz) rfl upd_same
    have tr : (!(L.map Trm.v).isEmpty) = true := by
      cases L with
      | nil => exact absurd rfl hne
      | cons r Lt => rfl
    rw [tr]
    refine iteF ?_
    have hxm := hxl hne
    have hlen : ∀ r ∈ L, r.ns.length = m := hGd.len
    refine ⟨.ref t, rfl, t, m, L, rfl, hS, by omega, hne, hm0, by omega, hlen, fun H1 z l t' ms L' s1 hI hl hS' ed hz => ?_⟩
    refine ⟨z, _, rfl, sqtOf hz, rfl, _, _, rfl, _, _, rfl, rfl, ?_⟩
    dsimp only [tSeq, tAsg, gName]
    have hnl1 := s1 _ _ hnl
    refine ⟨.ref t', rfl, .ref nl, rfl, nl, rfl, ⟨_, sqlOf hnl1⟩, fun fl nfl => ?_⟩
    refine lc_list (xs := xs.map V.int) (fun i H' => ∃ fs : List Addr, H' fl = some (.lst (fs.map V.ref)) ∧ fs.length = i ∧ (∀ j b, fs[j]? = some b → H' b = some (.dK [(Sum.inl 0, .int (xs.getD j 0))]) ∧ b ≠ fl) ∧ But fl H1 H') ⟨[], upd_same, rfl, (fun j b e => by simp at e), But.start⟩ (fun i H' _ h => ?_) (fun i x H' hx' h => ?_) (fun H2 h => ?_)
    · obtain ⟨_, _, _, _, kp⟩ := h
      exact sqlOf (kp _ _ (ne_of_none hnl1 nfl) hnl1)
    · obtain ⟨fs, hfl, hfsl, hfs, kp⟩ := h
      rw [List.getElem?_map] at hx'
      obtain ⟨v, hv, rfl⟩ := Option.map_eq_some_iff.mp hx'
      have hil : i < xs.length := (List.getElem?_eq_some_iff.mp hv).1
      refine ⟨rfl, fun b nb => ?_⟩
      have sb := same_new (o := .dK []) nb
      have hbb : upd H' b (.dK []) b = some (.dK []) := upd_same
      refine ⟨.int v, rfl, hbb, [(Sum.inl 0, .int v)], rfl, by show 1 ≤ 15; decide, ?_⟩
      have eM : mergeK [] [((Sum.inl 0 : Key), V.int v)] = [(Sum.inl 0, V.int v)] := rfl
      rw [eM, upd_upd']
      have sb2 : Same H' (upd H' b (.dK [(Sum.inl 0, V.int v)])) := same_new nb
      have bfl : b ≠ fl := fun z => by rw [z, hfl] at nb; cases nb
      refine ⟨_, sb2 _ _ hfl, by rw [List.length_map, sizeLine_eq]; omega, fs ++ [b], by rw [upd_same, List.map_append]; rfl, by rw [List.length_append, hfsl]; rfl, fun j b' hj => ?_, kp.step sb2⟩
      by_cases z : j < fs.length
      · rw [List.getElem?_append_left z] at hj
        obtain ⟨h1, h2⟩ := hfs j b' hj
        exact ⟨by rw [upd_ne h2]; exact sb2 _ _ h1, h2⟩
      · rw [List.getElem?_append_right (by omega)] at hj
        have hj0 : j - fs.length = 0 := by
          have := (List.getElem?_eq_some_iff.mp hj).1
          simp at this
          omega
        rw [hj0] at hj
        cases hj
        refine ⟨?_, bfl⟩
        rw [upd_ne bfl, upd_same]
        have : xs.getD j 0 = v := by
          rw [List.getD_eq_getElem?_getD, show j = i by omega, hv]
          rfl
        rw [this]
    · obtain ⟨fs, hfl, hfsl, hfs, kp⟩ := h
      rw [List.length_map] at hfsl
      have s2 := s1.trans (kp.same nfl)
      have k2 := kp.same nfl
      have hnl2 := k2 _ _ hnl1
      have hok := tmok_of hGd hI hb
      have hL'len : L'.length = L.length := by
        have := congrArg List.length ed
        rw [List.length_map, List.length_map, List.length_map] at this
        exact this
      have hL'ne : L' ≠ [] := fun z => by
        rw [z] at hL'len
        exact hne (List.length_eq_zero_iff.mp hL'len.symm)
      refine ⟨.ref nl, rfl, nl, _, rfl, .inl (sqlOf hnl2), ?_⟩
      rw [List.length_map]
      have hST := hS'.same k2
      refine ⟨m, hm6, t', fl, L', fs, xs, by rw [hxm]; rfl, ⟨.inr hST.sq, hST.rows⟩, fun z => by omega, hL'ne, by omega, by omega, by rw [ed]; exact hok, hfl, by omega, by omega, hfsl, fun j b hj => (hfs j b hj).1, fun x h => (hx x h).2, fun H3 e s3 ne3 hz3 => ?_⟩
      rw [ed] at hz3
      obtain ⟨Dz, hDz, _, hval⟩ := hz3
      refine ⟨e, rfl, .inl ⟨_, .inl hDz.at_⟩, (getI Dz 0).map V.int, dget (.inl hDz.at_), ?_⟩
      rw [getD_int, show (getI Dz 0).getD 0 = vI Dz 0 from rfl, hval]
      have qq := fun (H' : Hp) (z : Addr) (a b : Int) (s : Same H H') (lo : GM.IsLow (GM.tval xs m ((L.map Trm.d).map (more (ms.map miss)))) (GM.mono xs m (ms.map miss)) a b) (hz : H' z = some (.tup [.int a, .int b])) => q H' z a b ms s hne hI lo hz
      generalize hTop : GM.tval xs m ((L.map Trm.d).map (more (ms.map miss))) = top at qq hval
      have hl3 := s3 _ _ (k2 _ _ hl)
      have hnl3 := s3 _ _ hnl2
      have s23 := s2.trans s3
      have hmsl : (ms.map miss).length = m := by rw [List.length_map]; exact hI.1
      have hmm : ∀ j, j < m → 0 ≤ (ms.map miss).getD j 0 ∧ (ms.map miss).getD j 0 ≤ 30 := fun j hj => miss_small hI hb hj
      generalize ms.map miss = mm at hl3 hmsl hmm qq hTop
      have bitsM : ∀ i, i ≤ m → (GM.mono xs i mm).natAbs < 2 ^ 8000 := fun i hi => by
        have := GM.mono_bits (xs := xs) (E := 10) (W := 30) (fun x h => Nat.le_of_lt (hx x h).2) (m := i) (p := mm) fun j hj => by have := hmm j (by omega); omega
        refine Nat.lt_of_le_of_lt this (Nat.pow_lt_pow_right (by decide) ?_)
        have : i * (10 * 30) ≤ 6 * (10 * 30) := Nat.mul_le_mul_right _ (by omega)
        omega
      refine ⟨.ref l, rfl, .ref nl, rfl, l, nl, _, _, rfl, sqlOf hl3, sqlOf hnl3, for_it (walk_zip (n := m) (xs := mm.map V.int) (ys := xs.map V.int) (by rw [List.length_map, List.length_map, hmsl, hxm]; exact (Nat.min_self m).symm)) (fun i σ H' => ∃ y4 y7, σ = [some (.ref t), some (.ref nl), some (.ref l), some (.ref t'), y4, some (.int top), some (.int (GM.mono xs i mm)), y7, none] ∧ Same H3 H')
        ⟨none, none, rfl, fun _ _ e => e⟩ (fun i σ H' _ h => ?_) (fun i x σ H0 H' hi h hy => ?_) (fun σ H' h => ?_)⟩
      · obtain ⟨_, _, _, s⟩ := h
        exact ⟨sqlOf (s _ _ hl3), sqlOf (s _ _ hnl3)⟩
      · obtain ⟨y4, y7, rfl, s4⟩ := h
        obtain ⟨T, x1, x2, rfl, nT, rfl, e1, e2⟩ := hy
        dsimp only at e1 e2
        rw [List.getElem?_map] at e1 e2
        obtain ⟨n1, f1, rfl⟩ := Option.map_eq_some_iff.mp e1
        obtain ⟨n2, f2, rfl⟩ := Option.map_eq_some_iff.mp e2
        have g1 : mm.getD i 0 = n1 := by rw [List.getD_eq_getElem?_getD, f1]; rfl
        have g2 : xs.getD i 0 = n2 := by rw [List.getD_eq_getElem?_getD, f2]; rfl
        have hr1 := hmm i hi
        rw [g1] at hr1
        have hx2 := hx n2 (List.mem_of_getElem? f2)
        have sT := same_new (o := .tup [V.int n1, .int n2]) nT
        refine ⟨T, _, rfl, sqtOf upd_same, rfl, _, _, rfl, _, _, rfl, rfl, ?_⟩
        refine ⟨.int (GM.mono xs i mm), rfl, .int n2, rfl, .int n1, rfl, n2, n1.toNat, 10, by rw [show n1 = ((n1.toNat : Nat) : Int) by omega]; rfl, hx2.2, by decide, by omega, ?_⟩
        have b2 : (n2 ^ n1.toNat).natAbs < 2 ^ 8000 := Nat.lt_of_lt_of_le (pow_bits hx2.2 _) (Nat.pow_le_pow_right (by decide) (by
          have : 10 * n1.toNat ≤ 10 * 30 := Nat.mul_le_mul_left _ (by omega)
          omega))
        refine ⟨_, _, rfl, rfl, mulx (bitsM i (by omega)) b2 (by decide), some (.int n2), some (.int n1), ?_, s4.trans sT⟩
        rw [GM.mono, g1, g2]
        rfl
      · obtain ⟨y4, y7, rfl, s4⟩ := h
        have hB0 : GM.mono xs m mm ≠ 0 := GM.mono_ne fun j hj => by
          rw [List.getD_eq_getElem?_getD, List.getElem?_eq_getElem (by omega)]
          exact (hx _ (List.getElem_mem _)).1
        have hB2 := bitsM m (Nat.le_refl m)
        have fin : ∀ s : Int, s = (if GM.mono xs m mm < 0 then -((Nat.gcd top.natAbs (GM.mono xs m mm).natAbs : Nat) : Int) else ((Nat.gcd top.natAbs (GM.mono xs m mm).natAbs : Nat) : Int)) → s ≠ 0 ∧ s.natAbs.log2 < 9000 ∧ GM.IsLow top (GM.mono xs m mm) (top.fdiv s) ((GM.mono xs m mm).fdiv s) := fun s hs => by
          obtain ⟨h1, h2, h3⟩ := GM.low_of (T := top) hB0 hs
          refine ⟨h1, ?_, h3⟩
          have h4 : s.natAbs ≤ (GM.mono xs m mm).natAbs := by
            rw [h2]
            exact Nat.gcd_le_right _ (by omega)
          exact log2_lt (Nat.lt_of_le_of_lt h4 (Nat.lt_trans hB2 (Nat.pow_lt_pow_right (by decide) (by decide)))) (by decide)
        generalize GM.mono xs m mm = B at hB0 fin qq
        refine ⟨.int B, rfl, _, _, rfl, rfl, _, rfl, ite2 (fun e => ?_) (fun e => ?_)⟩
        · have hpos : ¬ B < 0 := by
            have := of_decide_eq_true e
            omega
          obtain ⟨f1, f2, f3⟩ := fin _ (by rw [if_neg hpos])
          refine ⟨.int top, rfl, .int B, rfl, top, B, rfl, ?_⟩
          refine ⟨.int top, rfl, _, rfl, _, _, rfl, rfl, ⟨f1, f2⟩, .int B, rfl, _, rfl, _, _, rfl, rfl, ⟨f1, f2⟩, two_ok, fun z nz => ?_⟩
          exact qq _ z _ _ ((s23.trans s4).trans (same_new nz)) f3 upd_same
        · have hneg : B < 0 := by
            have : ¬ (0 : Int) < B := fun z => e (decide_eq_true z)
            omega
          obtain ⟨f1, f2, f3⟩ := fin _ (by rw [if_pos hneg])
          refine ⟨.int top, rfl, .int B, rfl, top, B, rfl, _, rfl, ?_⟩
          refine ⟨.int top, rfl, _, rfl, _, _, rfl, rfl, ⟨f1, f2⟩, .int B, rfl, _, rfl, _, _, rfl, rfl, ⟨f1, f2⟩, two_ok, fun z nz => ?_⟩
          exact qq _ z _ _ ((s23.trans s4).trans (same_new nz)) f3 upd_same
end
end NH
set_option Elab.async false
set_option linter.all false
set_option maxRecDepth 100000
set_option maxHeartbeats 1000000
set_option exponentiation.threshold 100000
namespace NH
open PySem PySem.Spec PyProof.Rows L2 R1 ZN PK RS
theorem in_zero {xs : List Int} (h : ∀ x ∈ xs, x ≠ 0) : inV (.int 0) (xs.map V.int) = false := by
  induction xs with
  | nil => rfl
  | cons x xs ih =>
    have h1 := ih fun y hy => h y (List.mem_cons_of_mem _ hy)
    unfold inV at h1 ⊢
    rw [List.map_cons, List.any_cons, h1, Bool.or_false]
    show (x == (0 : Int)) = false
    have := h x List.mem_cons_self
    simp [this]
theorem flat_ints (xs : List Int) : (xs.map V.int).all flatV = true := by
  rw [List.all_eq_true]
  intro v hv
  obtain ⟨x, _, rfl⟩ := List.mem_map.mp hv
  rfl
section
variable {P : Program} {w : World} {K : PySem.W.Frag} {mg : Str → Option Value} {base : Heap} {f : Nat → Addr} {d : Nat → FuncData}
theorem ok_value {k : Nat} (D : Defs K mg f d) (gG : mg "gcd" = some (.builtin "math.gcd")) : FnOk P w K mg base CX0 (k + 11) (f i_value) (d i_value) ["one", "numbers"] spVo := by
  have G_letters_of : FnOk P w K mg base CX0 (k + 10) (f i_letters_of) (d i_letters_of) ["sums"] (spLettersOf K) := (ok_lettersOf (k := k) D.F_letters_of D.F_check_sum D.b_check_sum D.g_check_sum D.F_is_sum D.b_is_sum D.g_is_sum D.z_enumerate D.z_len).mono (by omega)
  have G_value_of : FnOk P w K mg base CX0 (k + 10) (f i_value_of) (d i_value_of) ["told", "numbers"] spVo := ok_vo D gG
  refine D.F_value.ok sc_value (fun vs H Q E h => ?_) (fun cdv A outer s H vs Q E hr h => ?_)
  · obtain ⟨t, nl, m, L, xs, rfl, _⟩ := h
    rfl
  · obtain ⟨t, nl, m, L, xs, rfl, hS, hL, hGd, hm0, hm6, hnl, hxl, hx, hb, q0, q⟩ := h
    have nd := sc_value.nd
    refine ⟨_, pss_cons (ps_set (i := 2) nd rfl (.inl rfl) (pe_call G_letters_of hr (by rfl) D.g_letters_of D.F_letters_of.kp D.b_letters_of .nil pass0 (pa_cons (pe_lst (pa_cons (pv 0) pa_nil)) pa_nil)))
      (Evl.pss_cut (ps_if (PW.pt (pw_and (pt_truth (pv 0) (by intro _; rfl)) (pw_and1 (PW.pt (pw_or (pt_cmpR op_ne (pe_callB call_len_seq (by rfl) D.z_len PySem.boot_len (pa_cons (pv 1) pa_nil)) (pv 2) (nomark _)) (pw_or1 (pt_cmpR (r := rIn K false) op_in_seq pe_int (pv 1) (by rfl))))))))
        pss_never
        pss_nil)
      (pss_one (ps_ret (pe_call G_value_of hr (by rfl) D.g_value_of D.F_value_of.kp D.b_value_of .nil pass0 (pa_cons (pv 0) (pa_cons (pv 1) pa_nil)))))), ?_⟩
    refine ⟨.ref t, rfl, one1, fun l nl' => ?_⟩
    have s1 : Same H (upd H l (.lst [.ref t])) := same_new nl'
    refine ⟨l, t, m, L, rfl, sqlOf upd_same, hS.same s1, by omega, hm0, hGd, fun H2 s2 => ?_⟩
    have s12 := s1.trans s2
    refine ⟨fun σ' H3 => H3 = H2 ∧ ∃ y, σ' = [some (.ref t), some (.ref nl), y], ?_, ?_⟩
    · have hnl2 := s12 _ _ hnl
      refine ⟨.ref t, rfl, _, .inr (.inl ⟨_, (hS.same s12).sq, rfl⟩), ?_⟩
      by_cases hne : L = []
      · subst hne
        exact iteF (iteF ⟨rfl, _, rfl⟩)
      have tr : (!(L.map Trm.v).isEmpty) = true := by
        cases L with
        | nil => exact absurd rfl hne
        | cons r Lt => rfl
      have te : (if L.isEmpty = true then (0 : Int) else (m : Int)) = (m : Nat) := by
        cases L with
        | nil => exact absurd rfl hne
        | cons r Lt => rfl
      rw [tr]
      refine iteT ?_
      have hxm := hxl hne
      refine ⟨.ref nl, rfl, nl, _, rfl, .inl (sqlOf hnl2), _, rfl, rfl, _, rfl, ?_⟩
      rw [List.length_map, hxm, te, decide_eq_true (show V.int ((m : Nat) : Int) = V.int ((m : Nat) : Int) from rfl)]
      refine iteF ?_
      refine ⟨.ref nl, rfl, nl, _, rfl, .inl (sqlOf hnl2), rfl, flat_ints xs, _, rfl, ?_⟩
      rw [if_neg (by decide), in_zero fun x h => (hx x h).1]
      exact iteF ⟨rfl, _, rfl⟩
    · rintro σ' H3 ⟨rfl, y, rfl⟩
      exact ⟨.ref t, rfl, .ref nl, rfl, t, nl, m, L, xs, rfl, hS.same s12, hL, hGd, hm0, hm6, s12 _ _ hnl, hxl, hx, hb, fun H' z s3 => q0 H' z (s12.trans s3), fun H' z a b ms s3 => q H' z a b ms (s12.trans s3)⟩
end
end NH
set_option Elab.async false
set_option linter.all false
set_option maxRecDepth 100000
set_option exponentiation.threshold 100000
namespace NH
open PySem PySem.Spec PyProof.Rows L2 R1 ZN
theorem Stock.keepT {H H' : Hp} {a c : Addr} {n : Nat} (S : Stock H a c n) (k : Keep a c H H') : KeepT H H' := fun b xs e => by
  obtain ⟨ne, cs, x, y, z, h1, h2, _⟩ := S
  exact k _ _ (ne_of e h1 (by intro z; cases z)) (ne_of e h2 (by intro z; cases z)) e
theorem Stock.fresh {H : Hp} {a c p : Addr} {n : Nat} (S : Stock H a c n) (h : H p = none) : p ≠ a ∧ p ≠ c := by
  obtain ⟨ne, cs, x, y, z, h1, h2, _⟩ := S
  exact ⟨fun e => ne_of_none h1 h e.symm, fun e => ne_of_none h2 h e.symm⟩
theorem Stock.put {H : Hp} {a c p : Addr} {n : Nat} {o : HO} (S : Stock H a c n) (h : p ≠ a ∧ p ≠ c) : Stock (upd H p o) a c n := by
  obtain ⟨ne, cs, x, y, z, h1, h2, r⟩ := S
  exact ⟨ne, cs, x, y, z, by rw [upd_ne h.1.symm]; exact h1, by rw [upd_ne h.2.symm]; exact h2, r⟩
theorem Keep.free {H H' : Hp} {a c p : Addr} (k : Keep a c H H') (h : p ≠ a ∧ p ≠ c) (e : H' p = none) : H p = none := by
  cases q : H p with
  | none => rfl
  | some o =>
    rw [k p o h.1 h.2 q] at e
    cases e
theorem Keep.put {H H' : Hp} {a c p : Addr} {o : HO} (k : Keep a c H H') (e : H p = none) : Keep a c H (upd H' p o) := fun b u h1 h2 q => by
  rw [upd_ne (ne_of_none q e)]
  exact k b u h1 h2 q
theorem pick3 {x y z r : Int} (h0 : 0 ≤ r) (h1 : r < 3) : ∃ v, atI [V.int x, .int y, .int z] r = some (.int v) ∧ (v = x ∨ v = y ∨ v = z) := by
  have h : r = 0 ∨ r = 1 ∨ r = 2 := by omega
  rcases h with rfl | rfl | rfl
  · exact ⟨x, atI_nat (j := 0) rfl, .inl rfl⟩
  · exact ⟨y, atI_nat (j := 1) rfl, .inr (.inl rfl)⟩
  · exact ⟨z, atI_nat (j := 2) rfl, .inr (.inr rfl)⟩
theorem pick2 {x y r : Int} (h0 : 0 ≤ r) (h1 : r < 2) : ∃ v, atI [V.int x, .int y] r = some (.int v) ∧ (v = x ∨ v = y) := by
  have h : r = 0 ∨ r = 1 := by omega
  rcases h with rfl | rfl
  · exact ⟨x, atI_nat (j := 0) rfl, .inl rfl⟩
  · exact ⟨y, atI_nat (j := 1) rfl, .inr rfl⟩
theorem KeepT.new {H : Hp} {p : Addr} {o : HO} (h : H p = none) : KeepT H (upd H p o) := fun b xs e => by
  rw [upd_ne (ne_of_none e h)]
  exact e
theorem Stock.same {H H' : Hp} {a c : Addr} {n : Nat} (S : Stock H a c n) (s : Same H H') : Stock H' a c n := by
  obtain ⟨ne, cs, x, y, z, h1, h2, r⟩ := S
  exact ⟨ne, cs, x, y, z, s _ _ h1, s _ _ h2, r⟩
abbrev nmTerms : List Str := ["_law_stock_here", "_law_many", "_law_most", "_law_span", "_law_great", "_law_terms_here", "_law_k", "_law_powers", "_law_j"]
theorem scTerms : FnScope nmTerms ["_law_stock_here", "_law_many", "_law_most", "_law_span", "_law_great"] (defScope sTerms) := ⟨rfl, rfl, rfl, by decide +kernel, rfl, by decide +kernel, by decide +kernel⟩
/-- terms of coefficients to g, powers to sp -/
structure Bn (g sp : Int) (D : Ts) : Prop where
  b : ∀ q ∈ D, q.2.natAbs ≤ g.natAbs ∧ ∀ v ∈ q.1, -sp ≤ v ∧ v ≤ sp
theorem Bn.bnds {g sp : Int} {D : Ts} (h : Bn g sp D) (hg : g.natAbs < 2 ^ 300) (hs : sp ≤ 12) : Bnds D := ⟨fun q hq => ⟨Nat.lt_of_le_of_lt (h.b q hq).1 hg, fun v hv => by have := (h.b q hq).2 v hv; omega⟩⟩
def spTerms : Sp := fun vs H Q _ => ∃ (a c : Addr) (n m mo : Nat) (sp g : Int), vs = [.ref a, .int m, .int (mo : Nat), .int sp, .int g] ∧ Stock H a c n ∧ n ≤ 900000 ∧ 1 ≤ m ∧ m ≤ 12 ∧ mo ≤ 10 ∧ 1 ≤ sp ∧ sp ≤ 12 ∧ 1 ≤ g ∧ g ≤ 2 ^ 120 ∧
  ∀ H' (d : Addr) (D : Ts), Stock H' a c (n + 201) → Keep a c H H' → H d = none → DictAt H' d m D → Bn g sp D → D.length ≤ mo → Q (.ref d) H'
theorem coef_small {r g u : Int} (h0 : 0 ≤ r) (h1 : r < g) (u0 : 0 ≤ u) (u1 : u < 2) : ((1 + r) * (1 - 2 * u)).natAbs ≤ g.natAbs := by
  have h : u = 0 ∨ u = 1 := by omega
  rcases h with rfl | rfl
  · rw [show (1 - 2 * (0 : Int)) = 1 by decide, Int.mul_one]
    omega
  · rw [show (1 - 2 * (1 : Int)) = -1 by decide]
    omega
section
variable {P : Program} {w : World} {K : PySem.W.Frag} {mg : Str → Option Value} {base : Heap}
theorem ok_terms {f fP fW : Addr} {fd fdP fdW : FuncData} {k : Nat} (F : Fun K "_law_terms" "_law_terms" sTerms f fd) (FP : Fun K "_law_pick" "_law_pick" sPick fP fdP) (bP : Binds K fdP ["_law_stock_here", "_law_limit"] []) (gP : mg "_law_pick" = some (.ref fP))
    (FW : Fun K "_law_wide" "_law_wide" sWide fW fdW) (bW : Binds K fdW ["_law_stock_here", "_law_limit"] []) (gW : mg "_law_wide" = some (.ref fW)) (mi : mg "int" = none) (mr : mg "range" = none) (mt : mg "tuple" = none) :
    FnOk P w K mg base CX0 (k + 3) f fd ["_law_stock_here", "_law_many", "_law_most", "_law_span", "_law_great"] spTerms := by
  have GP : FnOk P w K mg base CX0 (k + 1) fP fdP ["_law_stock_here", "_law_limit"] spPick := ok_pick FP mi
  have GW : FnOk P w K mg base CX0 (k + 2) fW fdW ["_law_stock_here", "_law_limit"] spWide := ok_wide FW FP bP gP mi mr
  refine F.ok scTerms (fun vs H Q E h => ?_) (fun cdv A outer s H vs Q E hr h => ?_)
  · obtain ⟨a, c, n, m, mo, sp, g, rfl, _⟩ := h
    rfl
  · obtain ⟨a, c, n, m, mo, sp, g, rfl, S, hn, hm1, hm2, hmo, hs1, hs2, hg, hg2, q⟩ := h
    have hu := hu_of hr
    have hr1 := hr.mono (show k + 1 ≤ k + 2 by omega)
    refine ⟨_, pss_cons (ps_set (i := 5) scTerms.nd rfl (.inl rfl) pe_dnewT)
      (pss_cons (ps_for PassesOwn.never rfl (pi_range1 rfl mr (pa_cons (pe_call GP hr1 (by rfl) gP FP.kp bP .nil pass0 (pa_cons (pv 0) (pa_cons (pe_op op_add (pv 2) pe_int) pa_nil))) pa_nil)) (pg_name (i := 6) scTerms.nd rfl (.inl rfl))
        (pss_cons (ps_set (i := 7) scTerms.nd rfl (.inl rfl) (pe_callTy call_tuple_of (by rfl) mt (by decide +kernel) (pa_cons (pe_lc (own := [("_law_j", 8)]) (g := gName 8) (by rfl) scTerms.nd (pi_range1 rfl mr (pa_cons (pv 1) pa_nil)) (blkOk_by (own := [("_law_j", 8)]) (N := nmTerms) (sc := defScope sTerms) (by decide +kernel))
            (fun _ _ _ _ _ => pg_name (i := 8) scTerms.nd rfl (.inl rfl)) (fun _ _ _ _ _ => pts_nil) (fun _ _ _ _ _ => pe_op op_sub (pe_call GP hr1 (by rfl) gP FP.kp bP .nil pass0 (pa_cons (pv 0) (pa_cons (pe_op op_add (pe_op op_mul pe_int (pv 3)) pe_int) pa_nil))) (pv 3))) pa_nil)))
        (pss_one (ps_dput hu (pv 5) (pv 7) (pe_op op_mul (pe_op op_add pe_int (pe_call GW hr (by rfl) gW FW.kp bW .nil pass0 (pa_cons (pv 0) (pa_cons (pv 4) pa_nil)))) (pe_op op_sub pe_int (pe_op op_mul pe_int (pe_call GP hr1 (by rfl) gP FP.kp bP .nil pass0 (pa_cons (pv 0) (pa_cons pe_int pa_nil)))))) rfl))))
      (pss_one (ps_ret (pv 5)))), ?_⟩
    refine fun d nd => ?_
    have adn := S.fresh nd
    have S1 := S.new (o := .dT []) nd
    refine ⟨.ref a, rfl, .int (mo : Nat), rfl, (mo : Nat), 1, rfl, rfl, a, c, n, (mo : Nat) + 1, rfl, S1, by omega, by omega, Nat.lt_of_le_of_lt (show (((mo : Nat) : Int) + 1).natAbs ≤ 20 by omega) (by decide), fun H5 r5 S5 k5 r50 r51 => ?_⟩
    have hd5 : H5 d = some (.dT []) := k5 d _ adn.1 adn.2 upd_same
    have kp5 := (Keep.new (a := a) (c := c) (o := .dT []) nd).trans k5
    refine ⟨r5, rfl, by omega, by omega, for_range (n := r5.toNat) (fun i σ H' => ∃ y6 y7 T, σ = [some (.ref a), some (.int m), some (.int (mo : Nat)), some (.int sp), some (.int g), some (.ref d), y6, y7, none] ∧ Stock H' a c (n + 1 + 20 * i) ∧ Keep a c H H' ∧ DictAt H' d m T ∧ Bn g sp T ∧ T.length ≤ i)
      ⟨none, none, [], rfl, S5, kp5, ⟨hd5, by simp [NodupK], fun q h => by cases h⟩, ⟨fun q h => by cases h⟩, Nat.le_refl _⟩ (fun i σ H6 hi h => ?_) (fun σ H6 h => ?_)⟩
    · obtain ⟨y6, y7, T, rfl, S6, kp6, hT, hlow, hTl⟩ := h
      have hi9 : i < 11 := by omega
      refine ⟨.int m, rfl, m, rfl, by omega, by omega, fun D nD => ?_⟩
      have dD : d ≠ D := ne_of_none hT.at_ nD
      have aD := S6.fresh nD
      refine lc_range (lo := 0) (n := m) (fun j H' => ∃ ns : List Int, ns.length = j ∧ (∀ x ∈ ns, -sp ≤ x ∧ x ≤ sp) ∧ H' D = some (.lst (ns.map V.int)) ∧ Stock H' a c (n + 1 + 20 * i + j) ∧ Keep a c H H' ∧ H' d = some (dZ T))
        ⟨[], rfl, (fun x h => by cases h), upd_same, S6.new nD, kp6.trans (Keep.new nD), (by rw [upd_ne dD]; exact hT.at_)⟩ (fun j H7 hj h => ?_) (fun H7 h => ?_)
      · obtain ⟨ns, rfl, h12, hD, S7, kp7, hd7⟩ := h
        refine ⟨rfl, .ref a, rfl, .int sp, rfl, 2, sp, rfl, rfl, .inl ⟨by decide, by decide⟩, _, 1, rfl, rfl, a, c, _, _, rfl, S7, by omega, by omega, by omega, fun H8 r8 S8 k8 p0 p1 => ?_⟩
        have hD8 := k8 D _ aD.1 aD.2 hD
        have hd8 := k8 d _ adn.1 adn.2 hd7
        refine ⟨.int sp, rfl, r8, sp, rfl, rfl, _, hD8, (by rw [List.length_map, sizeLine_eq]; omega), ns ++ [r8 - sp], by simp, (fun x hx => ?_), (by rw [upd_same]; simp), S8.put aD, (kp7.trans k8).put (kp6.free aD nD), (by rw [upd_ne dD]; exact hd8)⟩
        rcases List.mem_append.mp hx with hx | hx
        · exact h12 x hx
        · rw [List.mem_singleton.mp hx]
          omega
      · obtain ⟨ns, hns, h12, hD, S7, kp7, hd7⟩ := h
        refine ⟨D, _, rfl, .inl ⟨sqlOf hD, fun t nt => ?_⟩⟩
        have S8 := S7.new (o := .tup (ns.map V.int)) nt
        have kp8 := kp7.trans (Keep.new (o := .tup (ns.map V.int)) nt)
        have at8 := S7.fresh nt
        have hd8 : upd H7 t (.tup (ns.map V.int)) d = some (dZ T) := by
          rw [upd_ne (ne_of_none hd7 nt)]
          exact hd7
        refine ⟨.ref a, rfl, .int g, rfl, a, c, _, g, rfl, S8, by omega, hg, fun H9 r9 S9 k9 w0 w1 => ?_⟩
        refine ⟨1, r9, rfl, rfl, .ref a, rfl, a, c, _, 2, rfl, S9, by omega, by decide, by decide, fun H10 r10 S10 k10 u0 u1 => ?_⟩
        have k910 := k9.trans k10
        have hd10 : H10 d = some (dZ T) := k910 d _ adn.1 adn.2 hd8
        have ht10 : H10 t = some (.tup (ns.map V.int)) := k910 t _ at8.1 at8.2 upd_same
        refine ⟨2, r10, rfl, rfl, .inl ⟨by decide, by decide⟩, 1, 2 * r10, rfl, rfl, 1 + r9, 1 - 2 * r10, rfl, rfl, .inr ⟨by omega, by omega⟩, .ref d, rfl, .ref t, rfl, d, _, rfl, DPut.t (k := ns.map Sum.inl) hd10 (by rw [map_kV]; exact ht10) ?_, ?_⟩
        · rw [List.length_map, sizeLine_eq]
          omega
        · refine ⟨_, _, setD T ns ((1 + r9) * (1 - 2 * r10)), rfl, (S10.put adn).more (by omega), (kp8.trans k910).put nd, ⟨?_, setD_nodup _ _ hT.nodup, fun q hq => ?_⟩, ⟨fun q hq => ?_⟩, Nat.le_trans (setD_len _ _ _) (Nat.succ_le_succ hTl)⟩
          · rw [upd_same, putK_enc]
          · rcases setD_mem hq with ⟨hq, _⟩ | rfl
            · exact hT.len q hq
            · exact hns
          · rcases setD_mem hq with ⟨hq, _⟩ | rfl
            · exact hlow.b q hq
            · exact ⟨coef_small w0 w1 u0 u1, h12⟩
    · obtain ⟨y6, y7, T, rfl, S6, kp6, hT, hlow, hTl⟩ := h
      exact ⟨.ref d, rfl, q H6 d T (S6.more (by omega)) kp6 nd hT hlow (by omega)⟩
/-! ### the law's places -/
end
end NH
set_option Elab.async false
set_option linter.all false
set_option maxRecDepth 100000
set_option maxHeartbeats 1000000
namespace DT
open PySem PySem.Spec PyProof.Rows L2
/-- {t: v}, t a tuple of ints and texts -/
def tDispT (tk tv : TE) : TE := fun σ H Q => ∀ p, H p = none → tk σ (upd H p (.dT [])) fun x H1 => tv σ H1 fun y H2 => ∃ (b : Addr) (ks : List Key), x = .ref b ∧ H2 p = some (.dT []) ∧ H2 b = some (.tup (ks.map kV)) ∧ Q (.ref p) (upd H2 p (.dT [(ks, y)]))
def posT (p : Addr) (Q : VK) (ps : List (V × V)) (H2 : Hp) : Prop := match ps with
  | [(x, y)] => ∃ (b : Addr) (ks : List Key), x = .ref b ∧ H2 p = some (.dT []) ∧ H2 b = some (.tup (ks.map kV)) ∧ Q (.ref p) (upd H2 p (.dT [(ks, y)]))
  | _ => False
theorem pe_dispT {X : Cx} {k v : Expr} {tk tv : TE} {pos : Pos} (hu : X.A.units + 1 < cLine) (hk : PE X k tk) (hv : PE X v tv) : PE X (.Dict [some k] [v] pos) (tDispT tk tv) := by
  refine ⟨fun pins s σ H Q I q => ?_⟩
  have hn := I.hok.fresh (Nat.le_refl s.heap.objs.size)
  have I1 := I.laid (a := s.heap.objs.size) (o := .dT []) (h' := s.heap.push { cls := .type "dict", data := .dict #[] }) (t' := s.toks) (fun _ _ q => Heap.get?_push_of_some _ q) (Nat.le_refl _) (dt_empty s.heap I.big)
  have pr : PPs X pos [some k] [v] [(tk, tv)] := pps_cons hk hv pps_nil
  have hlen : (pairTrees [some k] [v] X.env pos).length = 1 := pairTrees_length _ _ _ _ rfl rfl
  rw [arm_eval_Dict, zip_pairTrees [some k] [v] X.env pos rfl rfl, dictDisplay_pairs _ (fun z => by rw [z] at hlen; cases hlen) (by rw [hlen]; decide)]
  refine wpAny_bind (wpAny_standAt (wpAny_bind ?_))
  unfold subDict
  refine wpAny_bind (wpAny_alloc ?_)
  refine wpAny_bind (wpAny_holding ?_)
  rw [if_pos (show (pairTrees [some k] [v] X.env pos).length ≤ 15 by rw [hlen]; decide)]
  refine wpAny_bind (thn (pr.run pins _ σ _ (posT s.heap.objs.size Q) I1 ?_) fun ws s2 hh => ?_)
  · exact q _ hn
  · obtain ⟨ps, H2, I2, rel, hps⟩ := hh
    obtain ⟨x, y, rfl⟩ : ∃ x y, ps = [(x, y)] := by
      match ps, hps with
      | [(x, y)], _ => exact ⟨x, y, rfl⟩
    obtain ⟨b, ks, rfl, hp, hb, q2⟩ := hps
    cases rel with
    | @cons _ w0 _ ws' h t =>
      cases t
      obtain ⟨u1, u2⟩ := w0
      obtain ⟨r1, r2⟩ := h
      obtain rfl : u1 = Value.ref b := r1
      refine wpAny_holding ?_
      refine wpAny_bind ?_
      rw [List.forIn_cons]
      obtain ⟨z, hd, xs, r0, dd⟩ := dt_of I2.hok hp
      cases r0
      refine wpAny_bind (wpAny_bind (wpAny_dictSet_heap (hsz := Nat.zero_le _) (show (tupleKind (mixKind X.prog X.w)).room X.A from Nat.lt_of_succ_lt hu) (key_of I2.hok hb) dd fun h' dd' hs => wpAny_pure ?_))
      show wpAny _ _ (forIn [] PUnit.unit _) _ _ _
      rw [List.forIn_nil]
      refine wpAny_pure (wpAny_pure (wpAny_pure (wpAny_pure ?_)))
      obtain ⟨qo, es, ep, hq, h2, h3, h4, _, h5⟩ := dd'
      refine ⟨.ref s.heap.objs.size, _, d_write I2 (by rw [hp]; exact True.intro) hs ⟨qo, hq⟩ (ob := .dT [(ks, y)]) ⟨by show 1 ≤ sizeLine; rw [sizeLine_eq]; decide, hd, [(ks, b, u2)], ?_, qo, es, ep, hq, h2, h3, h4, h5⟩, rfl, q2⟩
      refine .cons ⟨rfl, ?_, r2⟩ .nil
      show upd H2 s.heap.objs.size (.dT [(ks, y)]) b = some (.tup (ks.map kV))
      rw [upd_ne (ne_of hb hp (fun z => nomatch z))]
      exact hb
end DT
set_option Elab.async false
set_option linter.all false
set_option maxRecDepth 100000
set_option maxHeartbeats 1000000
set_option exponentiation.threshold 100000
namespace NH
open PySem PySem.Spec PyProof.Rows L2 R1 ZN PK RS
abbrev idk : List Int → List Int := fun k => k
theorem tot_val (j : List Int) : ∀ {D : Ts}, NodupK D → tot idk j D = val D j
  | [], _ => rfl
  | q :: D, h => by
    have h' := List.nodup_cons.mp h
    rw [tot, tot_val j h'.2]
    unfold val
    by_cases e : q.1 = j
    · rw [if_pos e.symm]
      have n : getO D j = none := by
        cases z : getO D j with
        | none => rfl
        | some v =>
          have := (getO_mem h'.2).mp z
          exact absurd (by show q.1 ∈ _; rw [e]; exact List.mem_map_of_mem (f := (·.1)) this) h'.1
      rw [n]
      simp [getO, List.find?_cons, e]
    · rw [if_neg (fun z => e z.symm)]
      simp [getO, List.find?_cons, e]
/-- the sum of two dicts of terms -/
def addT (D1 D2 : Ts) : Ts := gather idk (gather idk [] D1) D2
theorem addT_nodup (D1 D2 : Ts) : NodupK (addT D1 D2) := gather_nodup _ _ _ (gather_nodup _ _ _ List.nodup_nil)
theorem addT_val {D1 D2 : Ts} (h1 : NodupK D1) (h2 : NodupK D2) (j : List Int) : val (addT D1 D2) j = val D1 j + val D2 j := by
  unfold addT
  rw [val_gather, val_gather, tot_val j h1, tot_val j h2]
  show 0 + _ + _ = _
  omega
theorem val_mem2 {D : Ts} (h : NodupK D) {q : List Int × Int} (hq : q ∈ D) : val D q.1 = q.2 := by
  unfold val
  rw [show getO D q.1 = some q.2 from (getO_mem h).mpr hq]
  rfl
theorem val_small {D : Ts} (h : NodupK D) {B : Nat} (hb : ∀ q ∈ D, q.2.natAbs ≤ B) (j : List Int) : (val D j).natAbs ≤ B := by
  unfold val
  cases z : getO D j with
  | none => exact Nat.zero_le _
  | some v => exact hb _ ((getO_mem h).mp z)
theorem gather_from {z : List Int → List Int} {P : List Int → Prop} : ∀ {W A : Ts}, (∀ q ∈ A, P q.1) → (∀ q ∈ W, P (z q.1)) → ∀ q ∈ gather z A W, P q.1
  | [], _, h, _ => h
  | p :: W, A, h, h2 => gather_from (W := W) (A := addD A (z p.1) p.2) (fun q hq => by
      rcases setD_mem hq with ⟨hq, _⟩ | rfl
      · exact h q hq
      · exact h2 p List.mem_cons_self) fun q hq => h2 q (List.mem_cons_of_mem _ hq)
section
variable {P : Program} {w : World} {K : PySem.W.Frag} {mg : Str → Option Value} {base : Heap} {f : Nat → Addr} {d : Nat → FuncData}
def spPlus : Sp := fun vs H Q _ => ∃ (d1 d2 : Addr) (m : Nat) (D1 D2 : Ts), vs = [.ref d1, .ref d2] ∧ DictAt H d1 m D1 ∧ DictAt H d2 m D2 ∧ D1.length + D2.length ≤ 4000 ∧
  ∀ H' (e : Addr), Same H H' → H e = none → DictAt H' e m (addT D1 D2) → Q (.ref e) H'
theorem ok_plus {k : Nat} (D : Defs K mg f d) : FnOk P w K mg base CX0 (k + 1) (f i__law_plus) (d i__law_plus) ["_law_one", "_law_other"] spPlus := by
  refine D.F__law_plus.ok sc__law_plus (fun vs H Q E h => ?_) (fun cdv A outer s H vs Q E hr h => ?_)
  · obtain ⟨d1, d2, m, D1, D2, rfl, _⟩ := h
    rfl
  · obtain ⟨d1, d2, m, D1, D2, rfl, h1, h2, hl, q⟩ := h
    have nd := sc__law_plus.nd
    have hu := hu_of hr
    refine ⟨_, pss_cons (ps_set (i := 2) nd rfl (.inl rfl) (pe_dnewT))
      (pss_cons (ps_for PassesOwn.never rfl (pi_list (pe_lst (pa_cons (pv 0) (pa_cons (pv 1) pa_nil)))) (pg_name (i := 3) nd rfl (.inl rfl))
        (pss_one (ps_lock (ps_for PassesOwn.never rfl (pi_keys (pv 3)) (pg_name (i := 4) nd rfl (.inl rfl))
            (pss_one (ps_dput hu (pv 2) (pv 4) (pe_op op_add (pe_dget2 hu (pv 2) (pv 4) pe_int ⟨rfl, rfl, rfl, rfl⟩) (pe_dget hu (pv 3) (pv 4) (fun _ _ => rfl))) rfl))))))
      (pss_one (ps_ret (pv 2)))), ?_⟩
    refine fun e ne => ?_
    have se := same_new (o := .dT []) ne
    have he : upd H e (.dT []) e = some (.dT []) := upd_same
    generalize upd H e (.dT []) = H1 at se he
    refine ⟨.ref d1, rfl, .ref d2, rfl, two_ok, fun l nl => ?_⟩
    have sl := same_new (o := .lst [V.ref d1, .ref d2]) nl
    have hll : upd H1 l (.lst [V.ref d1, .ref d2]) l = some (.lst [V.ref d1, .ref d2]) := upd_same
    have he2 := sl _ _ he
    have s02 := se.trans sl
    generalize upd H1 l (.lst [V.ref d1, .ref d2]) = H2 at sl hll he2 s02
    have le : l ≠ e := fun z => by rw [z, he2] at hll; cases hll
    refine ⟨l, rfl, ⟨_, sqlOf hll⟩, for_list (xs := [V.ref d1, .ref d2]) (fun i σ H' => ∃ (y3 y4 : Option V) (R : Ts), σ = [some (.ref d1), some (.ref d2), some (.ref e), y3, y4] ∧ H' e = some (dZ R) ∧ NodupK R ∧ (∀ q ∈ R, q.1.length = m) ∧ But e H2 H' ∧ R = (if i = 0 then [] else if i = 1 then gather idk [] D1 else addT D1 D2))
      ⟨none, none, [], rfl, he2, List.nodup_nil, (fun q h => by cases h), (fun _ _ _ x => x), rfl⟩ (fun i σ H' _ h => ?_) (fun i x σ H' hx' h => ?_) (fun σ H' h => ?_)⟩
    · obtain ⟨_, _, _, _, _, _, _, kp, _⟩ := h
      exact sqlOf (kp _ _ le hll)
    · obtain ⟨y3, y4, R, rfl, hR, hRn, hRk, kp, eR⟩ := h
      obtain ⟨dd, DD, rfl, hDD, hRl, eR2⟩ : ∃ (dd : Addr) (DD : Ts), x = .ref dd ∧ DictAt H dd m DD ∧ R.length + DD.length ≤ 4000 ∧ gather idk R DD = (if i + 1 = 0 then [] else if i + 1 = 1 then gather idk [] D1 else addT D1 D2) := by
        match i, hx', eR with
        | 0, hx', eR =>
          cases hx'
          refine ⟨d1, D1, rfl, h1, ?_, by rw [eR]; rfl⟩
          rw [eR]
          show ([] : Ts).length + _ ≤ _
          rw [List.length_nil]
          omega
        | 1, hx', eR =>
          cases hx'
          refine ⟨d2, D2, rfl, h2, ?_, by rw [eR]; rfl⟩
          rw [eR]
          show (gather idk [] D1).length + _ ≤ _
          have := gather_len idk D1 []
          rw [List.length_nil] at this
          omega
        | i + 2, hx', eR => simp at hx'
      have de : dd ≠ e := ne_of_none hDD.at_ ne
      have hD' : H' dd = some (dZ DD) := kp _ _ de (s02 _ _ hDD.at_)
      refine ⟨dd, _, hD', trivial, fun od => ?_⟩
      have hF : upd H' dd (.frz od (dZ DD)) dd = some (.frz od (dZ DD)) := upd_same
      have hRF : upd H' dd (.frz od (dZ DD)) e = some (dZ R) := by rw [upd_ne de.symm]; exact hR
      refine ⟨.ref dd, rfl, dd, od, rfl, .inr ⟨_, hF, for_it (walk_keysT (d := dd) (o := od) (kvs := DD.map enc)) (fun j σ H'' => ∃ (y4 : Option V), σ = [some (.ref d1), some (.ref d2), some (.ref e), some (.ref dd), y4] ∧ H'' e = some (dZ (gather idk R (DD.take j))) ∧ But e (upd H' dd (.frz od (dZ DD))) H'')
        ⟨y4, rfl, hRF, fun _ _ _ x => x⟩ (fun j σ H'' _ h => ?_) (fun j x σ H0 H'' hj h hy => ?_) (fun σ H'' h => ?_)⟩⟩
      · obtain ⟨_, _, _, kp2⟩ := h
        exact kp2 _ _ de hF
      · obtain ⟨y4, rfl, hG, kp2⟩ := h
        obtain ⟨rfl, kk, v, qa, e1, rfl, hqa⟩ := hy
        obtain ⟨r, hr1, er⟩ := Option.map_eq_some_iff.mp (by rw [List.getElem?_map] at e1; exact e1)
        cases er
        have hrm := List.mem_of_getElem? hr1
        rw [map_kV] at hqa
        have g1 : DGet H'' dd (.ref qa) (some (.int r.2)) := by
          have := DictAt.get (m := m) (D := DD) (k := r.1) (.inr ⟨od, kp2 _ _ de hF⟩) hqa
          rwa [show getO DD r.1 = some r.2 from (getO_mem hDD.nodup).mpr hrm] at this
        have hGl := gather_len idk (DD.take j) R
        rw [List.length_take] at hGl
        have hsn : gather idk R (DD.take (j + 1)) = addD (gather idk R (DD.take j)) r.1 r.2 := by
          rw [List.take_add_one, hr1]
          exact gather_snoc idk r (DD.take j) R
        rw [hsn]
        generalize gather idk R (DD.take j) = G at hG hGl
        refine ⟨.ref e, rfl, e, rfl, .inr ⟨_, .inl hG⟩, .ref qa, rfl, (getO G r.1).map V.int, DictAt.get (m := m) (.inl hG) hqa, ?_⟩
        rw [show ((getO G r.1).map V.int).getD (.int 0) = V.int (val G r.1) by unfold val; cases getO G r.1 <;> rfl]
        refine ⟨.ref dd, rfl, .ref qa, rfl, dd, .int r.2, rfl, g1, _, _, rfl, rfl, .ref e, rfl, .ref qa, rfl, e, _, rfl, DPut.t (k := r.1.map Sum.inl) hG (by rw [map_kV]; exact hqa) ?_, some (.ref qa), rfl, ?_, kp2.step (Same.refl _)⟩
        · rw [List.length_map, sizeLine_eq]
          omega
        · rw [upd_same, NH.putK_enc]
          rfl
      · obtain ⟨y4, rfl, hG, kp2⟩ := h
        rw [List.length_map, List.take_length] at hG
        refine ⟨kp2 _ _ de hF, some (.ref dd), y4, gather idk R DD, rfl, by rw [upd_ne de.symm]; exact hG, gather_nodup _ _ _ hRn, gather_keys _ _ hRk fun q hq => hDD.len q hq, fun c o hc ec => ?_, eR2⟩
        by_cases z : c = dd
        · rw [z] at ec ⊢
          rw [upd_same]
          have := kp _ _ de (s02 _ _ hDD.at_)
          have h3 := kp _ _ (by rw [← z]; exact hc) ec
          rw [this] at h3
          exact h3
        · rw [upd_ne z]
          exact kp2 c o hc (by rw [upd_ne z]; exact kp c o hc ec)
    · obtain ⟨y3, y4, R, rfl, hR, hRn, hRk, kp, eR⟩ := h
      have eR : R = addT D1 D2 := eR
      subst eR
      exact ⟨.ref e, rfl, q _ e (fun c o ec => kp c o (ne_of_none ec ne) (s02 c o ec)) ne ⟨hR, hRn, hRk⟩⟩
end
end NH
set_option Elab.async false
set_option linter.all false
set_option maxRecDepth 100000
namespace NH
open PySem PySem.Spec PyProof.Rows L2 R1 ZN PK
/-! ### powers added; products as functions of the powers -/
def addP (a b : List Int) : List Int := List.zipWith (fun x y => x + y) a b
def subP (a b : List Int) : List Int := List.zipWith (fun x y => x - y) a b
theorem addP_len {a b : List Int} {m : Nat} (h1 : a.length = m) (h2 : b.length = m) : (addP a b).length = m := by
  rw [addP, List.length_zipWith, h1, h2, Nat.min_self]
theorem subP_len {a b : List Int} {m : Nat} (h1 : a.length = m) (h2 : b.length = m) : (subP a b).length = m := by
  rw [subP, List.length_zipWith, h1, h2, Nat.min_self]
theorem addP_iff : ∀ {p q j : List Int}, p.length = q.length → j.length = q.length → (j = addP p q ↔ subP j q = p)
  | [], [], [], _, _ => ⟨fun _ => rfl, fun _ => rfl⟩
  | x :: p, y :: q, z :: j, h1, h2 => by
    have ih := addP_iff (Nat.succ.inj h1) (Nat.succ.inj h2) (p := p) (q := q) (j := j)
    show z :: j = (x + y) :: addP p q ↔ (z - y) :: subP j q = x :: p
    rw [List.cons.injEq, List.cons.injEq, ih]
    constructor
    · rintro ⟨a, b⟩
      exact ⟨by omega, b⟩
    · rintro ⟨a, b⟩
      exact ⟨by omega, b⟩
  | [], _ :: _, _, h, _ => by cases h
  | _ :: _, [], _, h, _ => by cases h
  | [], [], _ :: _, _, h => by cases h
  | _ :: _, _ :: _, [], _, h => by cases h
theorem addP_comm : ∀ a b : List Int, addP a b = addP b a
  | [], [] => rfl
  | [], _ :: _ => rfl
  | _ :: _, [] => rfl
  | x :: a, y :: b => by
    show (x + y) :: addP a b = (y + x) :: addP b a
    rw [addP_comm a b, Int.add_comm]
theorem addP_assoc : ∀ a b c : List Int, addP (addP a b) c = addP a (addP b c)
  | [], _, _ => by simp [addP]
  | _ :: _, [], _ => by simp [addP]
  | _ :: _, _ :: _, [] => by simp [addP]
  | x :: a, y :: b, z :: c => by
    show (x + y + z) :: addP (addP a b) c = (x + (y + z)) :: addP a (addP b c)
    rw [addP_assoc a b c, Int.add_assoc]
def zerosP (m : Nat) : List Int := List.replicate m 0
theorem addP_zeros : ∀ {p : List Int} {m : Nat}, p.length = m → addP (zerosP m) p = p
  | [], 0, _ => rfl
  | x :: p, m + 1, h => by
    show (0 + x) :: addP (zerosP m) p = x :: p
    rw [addP_zeros (Nat.succ.inj h), Int.zero_add]
  | [], _ + 1, h => by cases h
  | _ :: _, 0, h => by cases h
theorem subP_subP {j p q : List Int} {m : Nat} (h1 : j.length = m) (h2 : p.length = m) (h3 : q.length = m) : subP (subP j p) q = subP j (addP p q) := by
  have e1 : subP j p = subP j p := rfl
  have a1 := (addP_iff (p := subP j p) (q := p) (j := j) (by rw [subP_len h1 h2, h2]) (by omega)).mpr rfl
  have a2 := (addP_iff (p := subP (subP j p) q) (q := q) (j := subP j p) (by rw [subP_len (subP_len h1 h2) h3, h3]) (by rw [subP_len h1 h2, h3])).mpr rfl
  refine ((addP_iff (p := subP (subP j p) q) (q := addP p q) (j := j) ?_ ?_).mp ?_).symm
  · rw [subP_len (subP_len h1 h2) h3, addP_len h2 h3]
  · rw [h1, addP_len h2 h3]
  · rw [addP_comm p q, ← addP_assoc, ← a2]
    exact a1
/-- what a product's coefficients are, of those of the one factor -/
def mulF (F : List Int → Int) : Ts → List Int → Int
  | [], _ => 0
  | q :: B, j => q.2 * F (subP j q.1) + mulF F B j
theorem mulF_zero : ∀ (B : Ts) (j : List Int), mulF (fun _ => 0) B j = 0
  | [], _ => rfl
  | q :: B, j => by rw [mulF, mulF_zero B, Int.mul_zero]; rfl
theorem mulF_add (F G : List Int → Int) : ∀ (B : Ts) (j : List Int), mulF (fun k => F k + G k) B j = mulF F B j + mulF G B j
  | [], _ => rfl
  | q :: B, j => by
    rw [mulF, mulF, mulF, mulF_add F G B, Int.mul_add]
    omega
theorem mulF_congr {F G : List Int → Int} {m : Nat} (h : ∀ k, k.length = m → F k = G k) : ∀ {B : Ts} {j : List Int}, (∀ q ∈ B, q.1.length = m) → j.length = m → mulF F B j = mulF G B j
  | [], _, _, _ => rfl
  | q :: B, j, hB, hj => by
    rw [mulF, mulF, h _ (subP_len hj (hB q List.mem_cons_self)), mulF_congr h (fun r hr => hB r (List.mem_cons_of_mem _ hr)) hj]
theorem mulF_perm (F : List Int → Int) (j : List Int) {V W : Ts} (h : V.Perm W) : mulF F V j = mulF F W j := by
  induction h with
  | nil => rfl
  | cons x _ ih => simp only [mulF, ih]
  | swap x y l => simp only [mulF]; omega
  | trans _ _ h1 h2 => rw [h1, h2]
/-- all products of two sums' terms -/
def prodsT (A B : Ts) : Ts := A.flatMap fun p => B.map fun q => (addP p.1 q.1, p.2 * q.2)
theorem tot_app (j : List Int) : ∀ V W : Ts, tot idk j (V ++ W) = tot idk j V + tot idk j W
  | [], W => by simp [tot]
  | q :: V, W => by
    rw [List.cons_append, tot, tot, tot_app j V W]
    omega
theorem tot_row {m : Nat} {p : List Int × Int} (hp : p.1.length = m) : ∀ {B : Ts} {j : List Int}, (∀ q ∈ B, q.1.length = m) → j.length = m → tot idk j (B.map fun q => (addP p.1 q.1, p.2 * q.2)) = mulF (fun k => if k = p.1 then p.2 else 0) B j
  | [], _, _, _ => rfl
  | q :: B, j, hB, hj => by
    rw [List.map_cons, tot, mulF, tot_row hp (fun r hr => hB r (List.mem_cons_of_mem _ hr)) hj]
    have hq := hB q List.mem_cons_self
    have := addP_iff (p := p.1) (q := q.1) (j := j) (by omega) (by omega)
    by_cases e : j = addP p.1 q.1
    · rw [if_pos e, if_pos (this.mp e), Int.mul_comm]
    · rw [if_neg e, if_neg (fun z => e (this.mpr z)), Int.mul_zero]
theorem tot_prods {m : Nat} : ∀ {A B : Ts} {j : List Int}, (∀ q ∈ A, q.1.length = m) → (∀ q ∈ B, q.1.length = m) → j.length = m → tot idk j (prodsT A B) = mulF (fun k => tot idk k A) B j
  | [], B, j, _, hB, hj => (mulF_zero B j).symm
  | p :: A, B, j, hA, hB, hj => by
    unfold prodsT
    rw [List.flatMap_cons, tot_app, tot_row (hA p List.mem_cons_self) hB hj]
    have ih := tot_prods (A := A) (B := B) (fun r hr => hA r (List.mem_cons_of_mem _ hr)) hB hj
    unfold prodsT at ih
    rw [ih, ← mulF_add]
    rfl
/-- the terms of two sums, multiplied and added up -/
def mulT (A B : Ts) : Ts := gather idk [] (prodsT A B)
theorem prodsT_len {m : Nat} {A B : Ts} (hA : ∀ q ∈ A, q.1.length = m) (hB : ∀ q ∈ B, q.1.length = m) : ∀ q ∈ prodsT A B, q.1.length = m := fun q hq => by
  obtain ⟨p, hp, h⟩ := List.mem_flatMap.mp hq
  obtain ⟨r, hr, rfl⟩ := List.mem_map.mp h
  exact addP_len (hA p hp) (hB r hr)
theorem mulT_nodup (A B : Ts) : NodupK (mulT A B) := gather_nodup _ _ _ List.nodup_nil
theorem mulT_len {m : Nat} {A B : Ts} (hA : ∀ q ∈ A, q.1.length = m) (hB : ∀ q ∈ B, q.1.length = m) : ∀ q ∈ mulT A B, q.1.length = m :=
  gather_keys _ _ (fun q h => by cases h) (prodsT_len hA hB)
theorem mulT_val {m : Nat} {A B : Ts} {j : List Int} (nA : NodupK A) (hA : ∀ q ∈ A, q.1.length = m) (hB : ∀ q ∈ B, q.1.length = m) (hj : j.length = m) : val (mulT A B) j = mulF (val A) B j := by
  unfold mulT
  rw [val_gather, tot_prods hA hB hj]
  show 0 + _ = _
  rw [Int.zero_add]
  exact mulF_congr (fun k _ => tot_val k nA) hB hj
theorem tot_prods_comm (j : List Int) (A B : Ts) : tot idk j (prodsT A B) = tot idk j (prodsT B A) := by
  induction A with
  | nil =>
    induction B with
    | nil => rfl
    | cons q B ih => exact ih
  | cons p A ih =>
    have h : ∀ B : Ts, tot idk j (prodsT B (p :: A)) = tot idk j (B.map fun q => (addP p.1 q.1, p.2 * q.2)) + tot idk j (prodsT B A) := fun B => by
      induction B with
      | nil => rfl
      | cons q B ih2 =>
        have e : prodsT (q :: B) (p :: A) = (addP q.1 p.1, q.2 * p.2) :: ((A.map fun r => (addP q.1 r.1, q.2 * r.2)) ++ prodsT B (p :: A)) := rfl
        have e2 : prodsT (q :: B) A = (A.map fun r => (addP q.1 r.1, q.2 * r.2)) ++ prodsT B A := rfl
        rw [e, e2, tot, tot_app, tot_app, ih2, List.map_cons, tot, addP_comm q.1 p.1, Int.mul_comm q.2 p.2]
        omega
    have e : prodsT (p :: A) B = (B.map fun q => (addP p.1 q.1, p.2 * q.2)) ++ prodsT A B := rfl
    rw [e, tot_app, ih, h]
theorem mulT_comm_val {A B : Ts} (j : List Int) : val (mulT A B) j = val (mulT B A) j := by
  unfold mulT
  rw [val_gather, val_gather, tot_prods_comm]
/-- a product's powers are sums of the factors' powers -/
theorem mulT_keys {A B : Ts} {q : List Int × Int} (h : q ∈ mulT A B) : ∃ a ∈ A, ∃ b ∈ B, q.1 = addP a.1 b.1 := by
  refine gather_from (z := idk) (P := fun k => ∃ a ∈ A, ∃ b ∈ B, k = addP a.1 b.1) (W := prodsT A B) (A := []) (fun q h => by cases h) (fun q hq => ?_) q h
  obtain ⟨p, hp, h⟩ := List.mem_flatMap.mp hq
  obtain ⟨r, hr, rfl⟩ := List.mem_map.mp h
  exact ⟨p, hp, r, hr, rfl⟩
theorem nodup_le {α : Type} [DecidableEq α] : ∀ {l s : List α}, l.Nodup → (∀ x ∈ l, x ∈ s) → l.length ≤ s.length
  | [], _, _, _ => Nat.zero_le _
  | x :: l, s, h, hs => by
    obtain ⟨h1, h2⟩ := List.nodup_cons.mp h
    have hx := hs x List.mem_cons_self
    have ih := nodup_le (s := s.erase x) h2 fun y hy => (List.mem_erase_of_ne (fun e => h1 (by rw [← e]; exact hy))).mpr (hs y (List.mem_cons_of_mem _ hy))
    rw [List.length_erase_of_mem hx] at ih
    have := List.length_pos_of_mem hx
    rw [List.length_cons]
    omega
/-- a list of powers, each once, within some others -/
theorem keys_le {C : Ts} (h : NodupK C) {S : List (List Int)} (hs : ∀ q ∈ C, q.1 ∈ S) : C.length ≤ S.length := by
  have := nodup_le (l := C.map (fun q : List Int × Int => q.1)) (s := S) h fun k hk => by
    obtain ⟨q, hq, rfl⟩ := List.mem_map.mp hk
    exact hs q hq
  rw [List.length_map] at this
  exact this
theorem mulF_small {F : List Int → Int} {α β : Nat} (hF : ∀ k, (F k).natAbs < 2 ^ α) : ∀ {B : Ts} (j : List Int), (∀ q ∈ B, q.2.natAbs < 2 ^ β) → (mulF F B j).natAbs ≤ B.length * 2 ^ (α + β)
  | [], _, _ => Nat.zero_le _
  | q :: B, j, hB => by
    have ih := mulF_small hF (B := B) j fun r hr => hB r (List.mem_cons_of_mem _ hr)
    have h1 : (q.2 * F (subP j q.1)).natAbs ≤ 2 ^ (α + β) := by
      rw [Int.natAbs_mul, Nat.add_comm, Nat.pow_add]
      exact Nat.mul_le_mul (Nat.le_of_lt (hB q List.mem_cons_self)) (Nat.le_of_lt (hF _))
    rw [mulF, List.length_cons, Nat.succ_mul]
    have := Int.natAbs_add_le (q.2 * F (subP j q.1)) (mulF F B j)
    omega
end NH
set_option Elab.async false
set_option linter.all false
set_option maxRecDepth 100000
namespace NH
open PySem PySem.Spec PyProof.Rows L2 R1 ZN PK
/-! ### powers packed into one integer -/
def keyB (b : Nat) : List Int → Int
  | [] => 0
  | x :: p => x * 2 ^ (b * p.length) + keyB b p
theorem foldl_key (b : Nat) : ∀ (p : List Int) (k : Int), p.foldl (fun k x => k * 2 ^ b + x) k = k * 2 ^ (b * p.length) + keyB b p
  | [], k => by simp [keyB]
  | x :: p, k => by
    rw [List.foldl_cons, foldl_key b p, keyB, List.length_cons, Nat.mul_succ, Int.pow_add, Int.add_mul]
    have : k * 2 ^ b * 2 ^ (b * p.length) = k * (2 ^ (b * p.length) * 2 ^ b) := by
      rw [Int.mul_assoc, Int.mul_comm (2 ^ b)]
    omega
theorem keyB_foldl (b : Nat) (p : List Int) : keyB b p = p.foldl (fun k x => k * 2 ^ b + x) 0 := by
  rw [foldl_key, Int.zero_mul, Int.zero_add]
theorem keyB_snoc (b : Nat) (p : List Int) (x : Int) : keyB b (p ++ [x]) = keyB b p * 2 ^ b + x := by
  rw [keyB_foldl, keyB_foldl, List.foldl_append]
  rfl
theorem keyB_add (b : Nat) : ∀ {p q : List Int}, p.length = q.length → keyB b (addP p q) = keyB b p + keyB b q
  | [], [], _ => rfl
  | x :: p, y :: q, h => by
    have h := Nat.succ.inj h
    show (x + y) * 2 ^ (b * (addP p q).length) + keyB b (addP p q) = x * 2 ^ (b * p.length) + keyB b p + (y * 2 ^ (b * q.length) + keyB b q)
    rw [keyB_add b h, addP_len (m := p.length) rfl h.symm, ← h, Int.add_mul]
    omega
  | [], _ :: _, h => by cases h
  | _ :: _, [], h => by cases h
/-- powers small enough for so many bits -/
def InB (b : Nat) (p : List Int) : Prop := ∀ x ∈ p, 2 * x.natAbs + 2 ≤ 2 ^ b
theorem pow_pos' (n : Nat) : 0 < 2 ^ n := Nat.pow_pos (by decide)
theorem keyB_small {b : Nat} : ∀ {p : List Int}, InB b p → 2 * (keyB b p).natAbs < 2 ^ (b * p.length)
  | [], _ => by simp [keyB]
  | x :: p, h => by
    have ih := keyB_small (fun y hy => h y (List.mem_cons_of_mem _ hy))
    have hx := h x List.mem_cons_self
    rw [keyB, List.length_cons, Nat.mul_succ, Nat.pow_add]
    have h1 := Int.natAbs_add_le (x * 2 ^ (b * p.length)) (keyB b p)
    rw [Int.natAbs_mul, Int.natAbs_pow] at h1
    have e2 : (2 : Int).natAbs = 2 := rfl
    rw [e2] at h1
    have hT := pow_pos' (b * p.length)
    generalize 2 ^ (b * p.length) = T at ih h1 hT ⊢
    have h2 : (2 * x.natAbs + 2) * T ≤ 2 ^ b * T := Nat.mul_le_mul_right T hx
    rw [Nat.add_mul, Nat.mul_assoc] at h2
    rw [Nat.mul_comm T]
    omega
theorem keyB_lt {b : Nat} : ∀ {p q : List Int}, p.length = q.length → InB b p → InB b q → HT.lexLt p q = true → keyB b p < keyB b q
  | [], [], _, _, _, h => by cases h
  | x :: p, y :: q, hl, hp, hq, h => by
    have hl' : p.length = q.length := Nat.succ.inj hl
    have hp' : InB b p := fun z hz => hp z (List.mem_cons_of_mem _ hz)
    have hq' : InB b q := fun z hz => hq z (List.mem_cons_of_mem _ hz)
    rw [HT.lexLt_cons] at h
    by_cases e : x = y
    · subst e
      rw [if_pos rfl] at h
      rw [keyB, keyB, hl']
      have := keyB_lt hl' hp' hq' h
      omega
    · rw [if_neg e] at h
      have h : x < y := of_decide_eq_true h
      rw [keyB, keyB, hl']
      have a1 := keyB_small hp'
      have a2 := keyB_small hq'
      rw [hl'] at a1
      have hxy : (x + 1) * (2 ^ (b * q.length) : Int) ≤ y * 2 ^ (b * q.length) := Int.mul_le_mul_of_nonneg_right (by omega) (Int.le_of_lt (Int.pow_pos (by decide)))
      rw [Int.add_mul, Int.one_mul] at hxy
      have e3 : ((2 : Int) ^ (b * q.length)) = ((2 ^ (b * q.length) : Nat) : Int) := by rw [Int.natCast_pow]; rfl
      generalize hT : (2 : Nat) ^ (b * q.length) = T at a1 a2 e3
      generalize (2 : Int) ^ (b * q.length) = U at hxy e3 ⊢
      generalize x * U = X at hxy ⊢
      generalize y * U = Y at hxy ⊢
      omega
  | [], _ :: _, h, _, _, _ => by cases h
  | _ :: _, [], h, _, _, _ => by cases h
theorem keyB_inj {b : Nat} {p q : List Int} (hl : p.length = q.length) (hp : InB b p) (hq : InB b q) (e : keyB b p = keyB b q) : p = q := by
  cases h1 : HT.lexLt p q with
  | true =>
    have := keyB_lt hl hp hq h1
    omega
  | false =>
    cases h2 : HT.lexLt q p with
    | true =>
      have := keyB_lt hl.symm hq hp h2
      omega
    | false => exact lex_total hl h1 h2
theorem keyB_of_lt {b : Nat} {p q : List Int} (hl : p.length = q.length) (hp : InB b p) (hq : InB b q) (e : keyB b p < keyB b q) : HT.lexLt p q = true := by
  cases h1 : HT.lexLt p q with
  | true => rfl
  | false =>
    cases h2 : HT.lexLt q p with
    | true =>
      have := keyB_lt hl.symm hq hp h2
      omega
    | false =>
      have := lex_total hl h1 h2
      subst this
      omega
/-- digits from 0 on -/
def Dig (b : Nat) (p : List Int) : Prop := ∀ x ∈ p, 0 ≤ x ∧ x < 2 ^ b
theorem keyB_dig {b : Nat} : ∀ {p : List Int}, Dig b p → 0 ≤ keyB b p ∧ keyB b p < 2 ^ (b * p.length)
  | [], _ => by simp [keyB]
  | x :: p, h => by
    obtain ⟨i1, i2⟩ := keyB_dig (fun y hy => h y (List.mem_cons_of_mem _ hy))
    obtain ⟨h1, h2⟩ := h x List.mem_cons_self
    have hT : (0 : Int) < 2 ^ (b * p.length) := Int.pow_pos (by decide)
    have a1 := Int.mul_nonneg h1 (Int.le_of_lt hT)
    have a2 : (x + 1) * (2 ^ (b * p.length) : Int) ≤ 2 ^ b * 2 ^ (b * p.length) := Int.mul_le_mul_of_nonneg_right (by omega) (Int.le_of_lt hT)
    rw [Int.add_mul, Int.one_mul] at a2
    rw [keyB, List.length_cons, Nat.mul_succ, Int.pow_add, Int.mul_comm (2 ^ (b * p.length)) (2 ^ b)]
    generalize (2 : Int) ^ b * 2 ^ (b * p.length) = U at a2 ⊢
    generalize (2 : Int) ^ (b * p.length) = T at *
    omega
/-- a digit is read back -/
theorem keyB_at {b : Nat} : ∀ {p : List Int} {i : Nat} {x : Int}, Dig b p → p[i]? = some x → keyB b p / 2 ^ (b * (p.length - 1 - i)) % 2 ^ b = x
  | y :: p, 0, x, h, e => by
    cases e
    obtain ⟨i1, i2⟩ := keyB_dig (fun y hy => h y (List.mem_cons_of_mem _ hy))
    obtain ⟨h1, h2⟩ := h y List.mem_cons_self
    have hT : (0 : Int) < 2 ^ (b * p.length) := Int.pow_pos (by decide)
    rw [keyB, List.length_cons, Nat.add_sub_cancel, Nat.sub_zero, Int.add_comm, Int.add_mul_ediv_right _ _ (by omega), Int.ediv_eq_zero_of_lt i1 i2, Int.zero_add]
    exact Int.emod_eq_of_lt h1 h2
  | y :: p, i + 1, x, h, e => by
    have e : p[i]? = some x := e
    have hi := (List.getElem?_eq_some_iff.mp e).1
    have ih := keyB_at (p := p) (i := i) (fun y hy => h y (List.mem_cons_of_mem _ hy)) e
    have e1 : (y :: p).length - 1 - (i + 1) = p.length - 1 - i := by rw [List.length_cons]; omega
    rw [e1, keyB, ← ih]
    have e2 : b * p.length = b * (p.length - 1 - i) + (b + b * i) := by
      have : p.length = (p.length - 1 - i) + (1 + i) := by omega
      have h3 : b * p.length = b * ((p.length - 1 - i) + (1 + i)) := congrArg (b * ·) this
      rw [h3, Nat.mul_add, Nat.mul_add, Nat.mul_one]
    rw [e2, Int.pow_add, Int.pow_add]
    have hT : (2 : Int) ^ (b * (p.length - 1 - i)) ≠ 0 := Int.ne_of_gt (Int.pow_pos (by decide))
    generalize (2 : Int) ^ (b * (p.length - 1 - i)) = T at *
    rw [show y * (T * (2 ^ b * 2 ^ (b * i))) = (y * 2 ^ (b * i) * 2 ^ b) * T by
      rw [Int.mul_comm T, Int.mul_comm (2 ^ b), ← Int.mul_assoc, ← Int.mul_assoc]]
    rw [Int.add_comm, Int.add_mul_ediv_right _ _ hT, Int.add_mul_emod_self_right]
  | [], _, _, _, e => by simp at e
/-! ### packed terms -/
theorem any_congr' {α : Type} {f g : α → Bool} : ∀ {l : List α}, (∀ x ∈ l, f x = g x) → l.any f = l.any g
  | [], _ => rfl
  | x :: l, h => by rw [List.any_cons, List.any_cons, h x List.mem_cons_self, any_congr' fun y hy => h y (List.mem_cons_of_mem _ hy)]
theorem flatMap_congr' {α β : Type} {f g : α → List β} : ∀ {l : List α}, (∀ x ∈ l, f x = g x) → l.flatMap f = l.flatMap g
  | [], _ => rfl
  | x :: l, h => by rw [List.flatMap_cons, List.flatMap_cons, h x List.mem_cons_self, flatMap_congr' fun y hy => h y (List.mem_cons_of_mem _ hy)]
def pk (b : Nat) (q : List Int × Int) : Int × Int := (keyB b q.1, q.2)
/-- terms of m letters with powers small enough -/
def Box (b m : Nat) (T : Ts) : Prop := ∀ q ∈ T, q.1.length = m ∧ InB b q.1
theorem getI_pk {b m : Nat} {k : List Int} (hk : k.length = m) (hkb : InB b k) : ∀ {T : Ts}, Box b m T → getI (T.map (pk b)) (keyB b k) = getO T k
  | [], _ => rfl
  | q :: T, h => by
    have ih := getI_pk hk hkb (T := T) fun r hr => h r (List.mem_cons_of_mem _ hr)
    obtain ⟨h1, h2⟩ := h q List.mem_cons_self
    unfold getI getO at ih ⊢
    rw [List.map_cons, List.find?_cons, List.find?_cons]
    have : decide ((pk b q).1 = keyB b k) = decide (q.1 = k) := by
      refine decide_eq_decide.mpr ⟨fun e => keyB_inj (by omega) h2 hkb e, fun e => by rw [← e]; rfl⟩
    rw [this]
    cases decide (q.1 = k) with
    | true => rfl
    | false => exact ih
theorem vI_pk {b m : Nat} {k : List Int} (hk : k.length = m) (hkb : InB b k) {T : Ts} (h : Box b m T) : vI (T.map (pk b)) (keyB b k) = val T k := by
  unfold vI val
  rw [getI_pk hk hkb h]
theorem setI_pk {b m : Nat} {k : List Int} {v : Int} (hk : k.length = m) (hkb : InB b k) {T : Ts} (h : Box b m T) : setI (T.map (pk b)) (keyB b k) v = (setD T k v).map (pk b) := by
  have key : ∀ q ∈ T, ((pk b q).1 = keyB b k ↔ q.1 = k) := fun q hq => ⟨fun e => keyB_inj (by rw [(h q hq).1, hk]) (h q hq).2 hkb e, fun e => by rw [← e]; rfl⟩
  unfold setI setD
  have ea : ((T.map (pk b)).any fun q => decide (q.1 = keyB b k)) = T.any fun q => decide (q.1 = k) := by
    rw [List.any_map]
    refine any_congr' fun q hq => decide_eq_decide.mpr (key q hq)
  rw [ea]
  by_cases e : (T.any fun q => decide (q.1 = k)) = true
  · rw [if_pos e, if_pos e, List.map_map, List.map_map]
    refine List.map_congr_left fun q hq => ?_
    show (if (pk b q).1 = keyB b k then ((pk b q).1, v) else pk b q) = pk b (if q.1 = k then (q.1, v) else q)
    by_cases z : q.1 = k
    · rw [if_pos z, if_pos ((key q hq).mpr z)]
      rfl
    · rw [if_neg z, if_neg (fun y => z ((key q hq).mp y))]
  · rw [if_neg e, if_neg e, List.map_append]
    rfl
theorem box_set {b m : Nat} {k : List Int} {v : Int} (hk : k.length = m) (hkb : InB b k) {T : Ts} (h : Box b m T) : Box b m (setD T k v) := fun q hq => by
  rcases setD_mem hq with ⟨hq, _⟩ | rfl
  · exact h q hq
  · exact ⟨hk, hkb⟩
theorem gath_pk {b m : Nat} : ∀ {W A : Ts}, Box b m A → Box b m W → gath (A.map (pk b)) (W.map (pk b)) = (gather idk A W).map (pk b) ∧ Box b m (gather idk A W)
  | [], A, hA, _ => ⟨rfl, hA⟩
  | q :: W, A, hA, hW => by
    obtain ⟨h1, h2⟩ := hW q List.mem_cons_self
    have e : addI (A.map (pk b)) (pk b q).1 (pk b q).2 = (addD A q.1 q.2).map (pk b) := by
      unfold addI addD
      show setI _ (keyB b q.1) (vI _ (keyB b q.1) + q.2) = _
      rw [vI_pk h1 h2 hA, setI_pk h1 h2 hA]
    rw [List.map_cons, gath, gather, e]
    exact gath_pk (box_set h1 h2 hA) fun r hr => hW r (List.mem_cons_of_mem _ hr)
theorem filter_pk (b : Nat) (T : Ts) : (T.map (pk b)).filter nzI = (T.filter nz).map (pk b) := by
  rw [List.filter_map]
  rfl
theorem prods_pk {b m : Nat} {A B : Ts} (hA : ∀ q ∈ A, q.1.length = m) (hB : ∀ q ∈ B, q.1.length = m) : prods (A.map (pk b)) (B.map (pk b)) = (prodsT A B).map (pk b) := by
  unfold prods prodsT
  rw [List.flatMap_map, List.map_flatMap]
  refine flatMap_congr' fun p hp => ?_
  rw [List.map_map, List.map_map]
  refine List.map_congr_left fun q hq => ?_
  show (keyB b p.1 + keyB b q.1, p.2 * q.2) = (keyB b (addP p.1 q.1), p.2 * q.2)
  rw [keyB_add b (by rw [hA p hp, hB q hq])]
theorem nodI_pk {b m : Nat} {T : Ts} (h : Box b m T) (n : NodupK T) : NodI (T.map (pk b)) := by
  unfold NodI NodupK at *
  rw [List.map_map]
  rw [List.Nodup, List.pairwise_map] at n ⊢
  refine n.imp_of_mem fun {x y} hx hy hne e => hne (keyB_inj (by rw [(h x hx).1, (h y hy).1]) (h x hx).2 (h y hy).2 e)
theorem val_filter {D : Ts} (h : NodupK D) (j : List Int) : val (D.filter nz) j = val D j := by
  have n2 : NodupK (D.filter nz) := by
    unfold NodupK at *
    exact h.sublist (List.filter_sublist.map _)
  unfold val
  cases e : getO (D.filter nz) j with
  | some v =>
    have := (getO_mem n2).mp e
    rw [(getO_mem h).mpr (List.mem_filter.mp this).1]
  | none =>
    cases e2 : getO D j with
    | none => rfl
    | some v =>
      have hm := (getO_mem h).mp e2
      by_cases z : v = 0
      · subst z
        rfl
      · have := (getO_mem n2).mpr (List.mem_filter.mpr ⟨hm, decide_eq_true z⟩)
        rw [e] at this
        cases this
theorem nodupK_filter {D : Ts} (h : NodupK D) : NodupK (D.filter nz) := by
  unfold NodupK at *
  exact h.sublist (List.filter_sublist.map _)
end NH
set_option Elab.async false
set_option linter.all false
set_option maxRecDepth 100000
set_option maxHeartbeats 1000000
namespace RS
open PySem PySem.Spec PyProof.Rows L2
/-- sorted(d) of a dict with keys of ints, any number of them -/
def rSortedK : List V → Hp → VK → Prop := fun vs H Q => ∃ (a : Addr) (kvs : List (Key × V)) (ns : List Int), vs = [.ref a] ∧ Rd H a (.dK kvs) ∧ kvs.map (·.1) = ns.map Sum.inl ∧
  ∀ (ys : List Int) (p : Addr), ys.Perm ns → ys.Pairwise (· ≤ ·) → H p = none → Q (.ref p) (upd H p (.lst (ys.map V.int)))
theorem cr_sortedK {X : Cx} (hcalm : X.calm = true) : CallR X (.builtin "sorted") rSortedK := by
  intro pins s σ H xs us Q I r q
  obtain ⟨a, kvs, ks, rfl, hd, hks, q⟩ := q
  rw [Vals.ref1 r]
  obtain ⟨z, lo, vs, rel, dd⟩ := dk_rd I.hok hd
  obtain ⟨ep, hat⟩ := dd.dictAt
  have hkeys : vs.map (·.1) = ks.map Sum.inl := rel.keys.symm.trans hks
  have hl : vs.length = ks.length := by
    have e := congrArg List.length hkeys
    rw [List.length_map, List.length_map] at e
    exact e
  have h16 : vs.length ≤ sizeLine := by
    have : kvs.length = vs.length := Paired.length rel
    omega
  refine Calls.call_function_entry PyProof.Rows.kind_sorted PyProof.Rows.plain_sorted PyProof.Rows.entry_sorted (PyProof.Rows.args_sorted1 _) ?_
  unfold Builtin.«sorted»
  refine wpAny_bind (m := checkCount "sorted" 1 1 _) (wpAny_pure ?_)
  refine wpAny_bind (PySem.W.kdu_collect (A := X.A.in1) (PySem.W.kdl_dict (knd := mixKind X.prog X.w) (kvs := vs) (ep := ep) lo) (I.ok.hd hcalm) hat h16 fun h' tk acc hk hacc => ?_)
  have hal : acc.toList.length = ks.length := by rw [Array.length_toList, hacc.1, hl]
  have hS : IntsAre acc.toList ks := ints_each hal fun j v e => by
    obtain ⟨k, x, e1, e2⟩ := hacc.2 j v (by rw [← Array.getElem?_toList]; exact e)
    have e3 : (vs.map (·.1))[j]? = some k := by rw [List.getElem?_map, e1]; rfl
    rw [hkeys, List.getElem?_map] at e3
    cases e4 : ks[j]? with
    | none => rw [e4] at e3; cases e3
    | some y =>
      rw [e4] at e3
      have e5 : Sum.inl y = k := Option.some.inj e3
      subst e5
      rcases keyIs_shape (show keyIs (Sum.inl y) v = true from e2) with ⟨i, t, ek, ev⟩ | ⟨z, t, ek, ev⟩
      · cases ek
        exact ⟨y, t, rfl, ev⟩
      · cases ek
  have I1 : Inv X pins σ H { s with heap := h', toks := tk } := I.kept hk
  have hz : acc.toList.length ≤ sizeLine := by omega
  refine wpAny_bind (wpAny_newList ?_ hz)
  have hoL : (h'.push (seqObj "list" acc.toList.toArray 0)).get? h'.objs.size = some (seqObj "list" acc.toList.toArray 0) := Heap.get?_push_size _ rfl
  show wpAny _ _ _ _ _ { s with heap := h'.push (seqObj "list" acc.toList.toArray 0), toks := tk }
  refine wpAny_bind (wpAny_holding (wpAny_call_entry PyProof.Rows.slot_list_sort ⟨_, hoL, rfl⟩ PyProof.Rows.entry_list_sort
    (SrtO.list_sort_ord (s := { s with heap := h'.push (seqObj "list" acc.toList.toArray 0), toks := tk }) SrtO.swo_int hoL hz (fun h2 => SrtO.ints_sortable hS h2) fun out hs hb => ⟨_, rfl, ?_⟩) (PyProof.Rows.args_list_sort _)))
  obtain ⟨k1, k2, k3⟩ := SrtO.ints_out hS hs hb
  obtain ⟨e', he'⟩ := PyProof.Rows.sortedHeap_at (vs := acc.toList) (out := out.toArray) hoL
  generalize hns : out.map SrtO.iv = ns' at k1 k2 k3
  have hlen : (ns'.map V.int).length ≤ sizeLine := by
    rw [List.length_map, k2.length_eq]
    omega
  refine wpAny_pure ⟨_, rfl, .ref h'.objs.size, upd H h'.objs.size (.lst (ns'.map V.int)), I1.laid (t' := tk) (fun b u e => ?_) (Nat.le_refl _)
    (show ObjOk X.prog X.w _ _ _ (.lst (ns'.map V.int)) from ⟨hlen, _, e', vals_of_ints k1, he'⟩), rfl, q ns' _ k2 k3 (I1.hok.fresh (Nat.le_refl _))⟩
  have hb : b < h'.objs.size := Heap.lt_size e
  rw [PyProof.Rows.sortedHeap_old (Nat.ne_of_lt hb) (by rw [size_push']; exact Nat.lt_succ_of_lt hb)]
  exact Heap.get?_push_of_some _ e
end RS
set_option Elab.async false
set_option linter.all false
set_option maxRecDepth 100000
set_option maxHeartbeats 1000000
set_option exponentiation.threshold 100000
namespace NH
open PySem PySem.Spec PyProof.Rows L2 R1 ZN PK RS
section
variable {P : Program} {w : World} {K : PySem.W.Frag} {mg : Str → Option Value} {base : Heap} {f : Nat → Addr} {d : Nat → FuncData}
/-- how far from 0 the powers go -/
structure IsReach (T : Ts) (R : Nat) : Prop where
  le : ∀ q ∈ T, ∀ x ∈ q.1, x.natAbs ≤ R
  lub : ∀ B : Nat, (∀ q ∈ T, ∀ x ∈ q.1, x.natAbs ≤ B) → R ≤ B
def absI (i : Int) : Int := if i < 0 then -i else i
theorem absI_nat (i : Int) : absI i = (i.natAbs : Nat) := by
  unfold absI
  split <;> omega
def spReach : Sp := fun vs H Q _ => ∃ (t : Addr) (m : Nat) (L : List Trm), vs = [.ref t] ∧ SumAt H t L ∧ L.length ≤ 4000 ∧ L ≠ [] ∧ 0 < m ∧ m ≤ 4000 ∧ (∀ r ∈ L, r.ns.length = m) ∧
  ∀ H' (R : Nat), Same H H' → IsReach (L.map Trm.d) R → Q (.int R) H'
theorem ok_reach {k : Nat} (D : Defs K mg f d) : FnOk P w K mg base CX0 (k + 1) (f i_reach_of) (d i_reach_of) ["told"] spReach := by
  refine D.F_reach_of.ok sc_reach_of (fun vs H Q E h => ?_) (fun cdv A outer s H vs Q E hr h => ?_)
  · obtain ⟨t, m, L, rfl, _⟩ := h
    rfl
  · obtain ⟨t, m, L, rfl, hS, hL, hne, hm0, hm, hlen, q⟩ := h
    have nd := sc_reach_of.nd
    refine ⟨_, pss_one (ps_ret (pe_callB (cr_max rfl) (by rfl) D.z_max (by decide +kernel) (pa_cons (pe_lc (own := [("powers", 1), ("_", 2)]) (g := (gTup K 2 (gCons (gName 1) (gCons (gName 2) gNil)))) (by rfl) nd (pi_tup (pv 0)) (blkOk_by (own := [("powers", 1), ("_", 2)]) (N := N_reach_of) (sc := defScope s_reach_of) (by decide +kernel))
          (fun _ _ _ _ _ => pg_tup rfl (pgs_cons (pg_name (i := 1) nd rfl (.inl rfl)) (pgs_cons (pg_name (i := 2) nd rfl (.inl rfl)) pgs_nil))) (fun _ _ _ _ _ => pts_nil) (fun _ _ _ _ _ => pe_callB (r := rMax K) (cr_max rfl) (by rfl) D.z_max (by decide +kernel) (pa_cons (pe_lc (wi := iTup K (tVar 1)) (own := [("power", 3)]) (g := gName 3) (by rfl) nd (pi_tup (pv 1)) (blkOk_by (own := [("power", 3)]) (N := N_reach_of) (by rfl))
          (fun _ _ _ _ _ => pg_name (i := 3) nd rfl (.inl rfl)) (fun _ _ _ _ _ => pts_nil) (fun _ _ _ _ _ => pe_callB call_abs (by rfl) D.z_abs (by decide +kernel) (pa_cons (pv 3) pa_nil))) pa_nil))) pa_nil))), ?_⟩
    refine ⟨.ref t, rfl, t, rfl, ⟨_, hS.sq⟩, fun E nE => ?_⟩
    refine lc_tup (xs := L.map Trm.v) (fun j H' => ∃ rs : List Nat, H' E = some (.lst ((rs.map fun n : Nat => (n : Int)).map V.int)) ∧ rs.length = j ∧ (∀ R ∈ rs, ∃ r ∈ L, ∃ x ∈ r.ns, x.natAbs = R) ∧ (∀ r ∈ L.take j, ∀ x ∈ r.ns, ∃ R ∈ rs, x.natAbs ≤ R) ∧ But E H H') ⟨[], upd_same, rfl, (fun R h => by cases h), (fun r h => by simp at h), But.start⟩ (fun i H' _ h => ?_) (fun i x H1 hx h => ?_) (fun H1 h => ?_)
    · obtain ⟨_, _, _, _, _, kp⟩ := h
      exact sqtOf (kp.at_ nE hS.at_)
    · obtain ⟨rs, hE, hrs, h1, h2, kp⟩ := h
      rw [List.getElem?_map] at hx
      obtain ⟨r, hr1, rfl⟩ := Option.map_eq_some_iff.mp hx
      have hrm := List.mem_of_getElem? hr1
      obtain ⟨o1, o2⟩ := hS.rows r hrm
      have hil := (List.getElem?_eq_some_iff.mp hr1).1
      have up : ∀ {b o}, H b = some o → H1 b = some o := fun {b o} e => kp.at_ nE e
      refine ⟨r.t, _, rfl, sqtOf (up o1), rfl, _, _, rfl, _, _, rfl, rfl, rfl, .ref r.p, rfl, r.p, rfl, ⟨_, sqtOf (up o2)⟩, fun F nF => ?_⟩
      refine lc_tup (xs := r.ns.map V.int) (fun j H' => H' F = some (.lst (((r.ns.take j).map absI).map V.int)) ∧ But F H1 H') ⟨upd_same, But.start⟩ (fun j H' _ h => sqtOf (h.2.at_ nF (up o2))) (fun j x H2 hx h => ?_) (fun H2 h => ?_)
      · rw [List.getElem?_map] at hx
        obtain ⟨v, hv, rfl⟩ := Option.map_eq_some_iff.mp hx
        refine ⟨rfl, .int v, rfl, v, rfl, _, h.1, ?_, ?_, h.2.step (Same.refl _)⟩
        · have := hlen r hrm
          rw [List.length_map, List.length_map, List.length_take, sizeLine_eq]
          omega
        · rw [upd_same, List.take_add_one, hv, List.map_append, List.map_append]
          rfl
      · obtain ⟨hF, kp2⟩ := h
        rw [List.length_map, List.take_length] at hF
        refine ⟨F, _, rfl, sqlOf hF, ?_, fun R hR hub => ?_⟩
        · rw [List.length_map, hlen r hrm]
          exact hm0
        obtain ⟨v, hv, rfl⟩ := List.mem_map.mp hR
        rw [absI_nat]
        refine ⟨_, kp2.at_ nF hE, ?_, rs ++ [v.natAbs], ?_, ?_, ?_, ?_, kp.step (kp2.same nF)⟩
        · rw [List.length_map, List.length_map, hrs, sizeLine_eq]
          omega
        · rw [upd_same, List.map_append, List.map_append]
          rfl
        · rw [List.length_append, hrs]
          rfl
        · intro R hR'
          rcases List.mem_append.mp hR' with hR' | hR'
          · exact h1 R hR'
          · cases List.mem_singleton.mp hR'
            exact ⟨r, hrm, v, hv, rfl⟩
        · intro r' hr' x hx'
          rw [List.take_add_one, hr1] at hr'
          rcases List.mem_append.mp hr' with hr' | hr'
          · obtain ⟨R, a, b⟩ := h2 r' hr' x hx'
            exact ⟨R, List.mem_append_left _ a, b⟩
          · cases List.mem_singleton.mp hr'
            refine ⟨v.natAbs, List.mem_append_right _ (List.mem_singleton.mpr rfl), ?_⟩
            have := hub (absI x) (List.mem_map_of_mem hx')
            rw [absI_nat, absI_nat] at this
            omega
    · obtain ⟨rs, hE, hrs, h1, h2, kp⟩ := h
      rw [List.length_map] at hrs h2
      rw [List.take_length] at h2
      refine ⟨E, _, rfl, sqlOf hE, ?_, fun R hR hub => ?_⟩
      · rw [List.length_map, hrs]
        exact List.length_pos_iff.mpr hne
      obtain ⟨v, hv, rfl⟩ := List.mem_map.mp hR
      refine q _ v (kp.same nE) ⟨fun q hq x hx => ?_, fun B hB => ?_⟩
      · obtain ⟨r, hr, rfl⟩ := List.mem_map.mp hq
        obtain ⟨R, a, b⟩ := h2 r hr x hx
        have := hub R (List.mem_map_of_mem a)
        omega
      · obtain ⟨r, hr, x, hx, e⟩ := h1 v hv
        rw [← e]
        exact hB r.d (List.mem_map_of_mem hr) x hx
def spWidth : Sp := fun vs H Q _ => ∃ R : Nat, vs = [.int R] ∧ ∀ b : Nat, R < 2 ^ b → (∀ n, R < 2 ^ n → b ≤ n) → Q (.int ((b + 1 : Nat) : Int)) H
theorem ok_width {k : Nat} (D : Defs K mg f d) : FnOk P w K mg base CX0 (k + 1) (f i_width_for) (d i_width_for) ["reach"] spWidth := by
  refine D.F_width_for.ok sc_width_for (fun vs H Q E h => ?_) (fun cdv A outer s H vs Q E hr h => ?_)
  · obtain ⟨R, rfl, _⟩ := h
    rfl
  · obtain ⟨R, rfl, q⟩ := h
    refine ⟨_, pss_one (ps_ret (pe_op op_add (pe_bits (pv 0)) pe_int)), ?_⟩
    refine ⟨.int R, rfl, R, rfl, _, 1, rfl, rfl, ?_⟩
    have := q (Builtin.Int.intBits (R : Int)) (by have := PyProof.Rows.natAbs_lt_pow_bits (R : Int); simpa using this) fun n hn => PyProof.Rows.intBits_le (by simpa using hn)
    exact this
/-! ### packed -/
def spPacked : Sp := fun vs H Q _ => ∃ (t : Addr) (m b : Nat) (L : List Trm), vs = [.ref t, .int (b : Nat)] ∧ SumAt H t L ∧ L.length ≤ 4000 ∧ b * m ≤ 10000 ∧ b ≤ 10000 ∧ NodupK (L.map Trm.d) ∧ Box b m (L.map Trm.d) ∧
  ∀ H' (e : Addr), Same H H' → H e = none → IdAt H' e ((L.map Trm.d).map (pk b)) → Q (.ref e) H'
theorem nodup_getElem {α β : Type} {g : α → β} {l : List α} (h : (l.map g).Nodup) {i : Nat} {x : α} (e : l[i]? = some x) : g x ∉ (l.take i).map g := fun hx => by
  obtain ⟨y, hy, ey⟩ := List.mem_map.mp hx
  obtain ⟨j, hj⟩ := List.getElem?_of_mem hy
  have hji : j < i := by
    have := (List.getElem?_eq_some_iff.mp hj).1
    rw [List.length_take] at this
    omega
  rw [List.getElem?_take_of_lt hji] at hj
  obtain ⟨i1, e1⟩ := List.getElem?_eq_some_iff.mp e
  obtain ⟨i2, e2⟩ := List.getElem?_eq_some_iff.mp hj
  have := List.pairwise_iff_getElem.mp h j i (by rw [List.length_map]; exact i2) (by rw [List.length_map]; exact i1) hji
  rw [List.getElem_map, List.getElem_map, e1, e2] at this
  exact this ey
theorem ok_packed {k : Nat} (D : Defs K mg f d) : FnOk P w K mg base CX0 (k + 1) (f i_packed) (d i_packed) ["told", "bits"] spPacked := by
  refine D.F_packed.ok sc_packed (fun vs H Q E h => ?_) (fun cdv A outer s H vs Q E hr h => ?_)
  · obtain ⟨t, m, b, L, rfl, _⟩ := h
    rfl
  · obtain ⟨t, m, b, L, rfl, hS, hL, hbm, hbs, hnd, hbox, q⟩ := h
    have nd := sc_packed.nd
    have hu := hu_of hr
    refine ⟨_, pss_cons (ps_set (i := 2) nd rfl (.inl rfl) (pe_dnewK))
      (pss_cons (ps_for PassesOwn.never rfl (pi_tup (pv 0)) (pg_tup rfl (pgs_cons (pg_name (i := 3) nd rfl (.inl rfl)) (pgs_cons (pg_name (i := 4) nd rfl (.inl rfl)) pgs_nil)))
        (pss_cons (ps_set (i := 5) nd rfl (.inl rfl) (pe_int))
          (pss_cons (ps_for PassesOwn.never rfl (pi_tup (pv 3)) (pg_name (i := 6) nd rfl (.inl rfl))
            (pss_one (ps_set (i := 5) nd rfl (.inl rfl) (pe_op op_add (pe_op op_shlN (pv 5) (pv 1)) (pv 6)))))
          (pss_one (ps_dput hu (pv 2) (pv 5) (pv 4) rfl)))))
      (pss_one (ps_ret (pv 2)))), ?_⟩
    refine fun e ne => ?_
    have s1 : Same H (upd H e (.dK [])) := same_new ne
    have hI := nodI_pk hbox hnd
    refine ⟨.ref t, rfl, t, rfl, ⟨_, (hS.same s1).sq⟩, for_it (walk_tup (K := K) (a := t) (xs := L.map Trm.v)) (fun i σ H' => ∃ y3 y4 y5 y6, σ = [some (.ref t), some (.int (b : Nat)), some (.ref e), y3, y4, y5, y6] ∧ H' e = some (.dK (((((L.map Trm.d).map (pk b)).take i)).map encI)) ∧ But e H H')
      ⟨none, none, none, none, rfl, upd_same, But.start⟩ (fun i σ H' _ h => ?_) (fun i x σ H' H2 hi h hy => ?_) (fun σ H2 h => ?_)⟩
    · obtain ⟨_, _, _, _, _, _, kp⟩ := h
      exact (hS.same (kp.same ne)).sq
    · obtain ⟨y3, y4, y5, y6, rfl, he, kp⟩ := h
      obtain ⟨rfl, e1⟩ := hy
      rw [List.getElem?_map] at e1
      obtain ⟨r, hr1, rfl⟩ := Option.map_eq_some_iff.mp e1
      have hrm := List.mem_of_getElem? hr1
      have hrd : (L.map Trm.d)[i]? = some r.d := by rw [List.getElem?_map, hr1]; rfl
      have hrp : ((L.map Trm.d).map (pk b))[i]? = some (pk b r.d) := by rw [List.getElem?_map, hrd]; rfl
      have s2 : Same H H2 := kp.same ne
      obtain ⟨o1, o2⟩ := (hS.same s2).rows r hrm
      have hb := hbox r.d (List.mem_map_of_mem hrm)
      refine ⟨r.t, _, rfl, sqtOf o1, rfl, _, _, rfl, _, _, rfl, rfl, ?_⟩
      dsimp only [tSeq, tAsg, gName]
      refine ⟨.ref r.p, rfl, r.p, rfl, ⟨_, sqtOf o2⟩, for_tup (xs := r.ns.map V.int) (fun j σ H' => ∃ y6, σ = [some (.ref t), some (.int (b : Nat)), some (.ref e), some (.ref r.p), some (.int r.c), some (.int (keyB b (r.ns.take j))), y6] ∧ H' = H2) ⟨y6, rfl, rfl⟩ (fun j σ H' _ h => ?_) (fun j x σ H' hx h => ?_) (fun σ H' h => ?_)⟩
      · obtain ⟨_, rfl, rfl⟩ := h
        exact sqtOf o2
      · obtain ⟨y6, rfl, rfl⟩ := h
        rw [List.getElem?_map] at hx
        obtain ⟨v, hv, rfl⟩ := Option.map_eq_some_iff.mp hx
        have hjl := (List.getElem?_eq_some_iff.mp hv).1
        have hsm : 2 * (keyB b (r.ns.take j)).natAbs < 2 ^ (b * (r.ns.take j).length) := keyB_small fun x hx => hb.2 x (List.mem_of_mem_take hx)
        have hbj : b * (r.ns.take j).length ≤ 10000 := Nat.le_trans (Nat.mul_le_mul_left _ (by rw [List.length_take]; have := hb.1; show _ ≤ m; have : r.ns.length = m := hb.1; omega)) hbm
        have hsm2 : (keyB b (r.ns.take j)).natAbs < 2 ^ 10000 := by
          have : (2 : Nat) ^ (b * (r.ns.take j).length) ≤ 2 ^ 10000 := Nat.pow_le_pow_right (by decide) hbj
          generalize (2 : Nat) ^ 1000000 = Z at this ⊢
          omega
        refine ⟨.int _, rfl, .int (b : Nat), rfl, _, b, rfl, rfl, shl_ok hsm2 (by omega), .int v, rfl, _, v, rfl, rfl, some (.int v), ?_, rfl⟩
        rw [List.take_add_one, hv]
        show _ = [_, _, _, _, _, some (V.int (keyB b (List.take j r.ns ++ [v]))), _]
        rw [keyB_snoc]
        rfl
      · obtain ⟨y6', rfl, rfl⟩ := h
        rw [List.length_map, List.take_length]
        have hnew : keyB b r.ns ∉ (((L.map Trm.d).map (pk b)).take i).map (·.1) := by
          rw [List.map_take]
          have := nodup_getElem (g := fun q : Int × Int => q.1) hI hrp
          rw [List.map_take] at this
          exact this
        refine ⟨.int r.c, rfl, .ref e, rfl, .int (keyB b r.ns), rfl, e, _, rfl, DPut.k (k := Sum.inl (keyB b r.ns)) he ?_, ?_⟩
        · rw [List.length_map, List.length_take, sizeLine_eq, List.length_map, List.length_map]
          omega
        · refine ⟨_, _, _, _, rfl, ?_, kp.step (Same.refl _)⟩
          rw [upd_same]
          have e1 := PK.putK_enc (keyB b r.ns) r.c (((L.map Trm.d).map (pk b)).take i)
          rw [e1, setI_new hnew, List.take_add_one, hrp]
          rfl
    · obtain ⟨y3, y4, y5, y6, rfl, he, kp⟩ := h
      rw [List.take_of_length_le (by rw [List.length_map, List.length_map, List.length_map]; exact Nat.le_refl _)] at he
      exact ⟨_, rfl, q H2 e (kp.same ne) ne ⟨he, hI⟩⟩
end
end NH
set_option Elab.async false
set_option linter.all false
set_option maxRecDepth 100000
set_option maxHeartbeats 1000000
set_option exponentiation.threshold 100000
namespace NH
open PySem PySem.Spec PyProof.Rows L2 R1 ZN PK RS
section
variable {P : Program} {w : World} {K : PySem.W.Frag} {mg : Str → Option Value} {base : Heap} {f : Nat → Addr} {d : Nat → FuncData}
/-! ### unpacker, powers_at -/
def shiftsOf (m b : Nat) : List Int := (List.range m).map fun i => ((b * (m - 1 - i) : Nat) : Int)
def halfOf (b : Nat) : Int := 2 ^ (b - 1)
/-- what unpacker tells, at z -/
structure FormAt (H : Hp) (z : Addr) (m b : Nat) : Prop where
  ex : ∃ sh : Addr, H z = some (.tup [.int (keyB b (List.replicate m (halfOf b))), .int (2 ^ b - 1), .ref sh, .int (halfOf b)]) ∧ H sh = some (.lst ((shiftsOf m b).map V.int))
theorem FormAt.same {H H' : Hp} {z : Addr} {m b : Nat} (h : FormAt H z m b) (s : Same H H') : FormAt H' z m b := let ⟨sh, a, c⟩ := h.ex; ⟨sh, s _ _ a, s _ _ c⟩
theorem shifts_sum (b : Nat) (h : Int) : ∀ m, (((List.range m).map fun i => ((b * (m - 1 - i) : Nat))).map fun x => h * 2 ^ x).sum = keyB b (List.replicate m h)
  | 0 => rfl
  | m + 1 => by
    rw [List.range_succ_eq_map, List.map_cons, List.map_cons, List.sum_cons, List.replicate_succ, keyB, List.length_replicate, ← shifts_sum b h m, List.map_map, List.map_map, List.map_map]
    congr 2
    refine List.map_congr_left fun i _ => ?_
    show h * 2 ^ (b * (m + 1 - 1 - (i + 1))) = h * 2 ^ (b * (m - 1 - i))
    rw [show m + 1 - 1 - (i + 1) = m - 1 - i by omega]
theorem two_ok4 {a b c e : V} : [a, b, c, e].length ≤ sizeLine := by
  rw [sizeLine_eq]
  show 4 ≤ 16777216
  decide
def spUnpacker : Sp := fun vs H Q _ => ∃ m b : Nat, vs = [.int (m : Nat), .int (b : Nat)] ∧ 1 ≤ b ∧ b ≤ 10000 ∧ b * m ≤ 10000 ∧ m ≤ 4000 ∧
  ∀ H' (z : Addr), Same H H' → H z = none → FormAt H' z m b → Q (.ref z) H'
theorem ok_unpacker {k : Nat} (D : Defs K mg f d) : FnOk P w K mg base CX0 (k + 1) (f i_unpacker) (d i_unpacker) ["many", "bits"] spUnpacker := by
  refine D.F_unpacker.ok sc_unpacker (fun vs H Q E h => ?_) (fun cdv A outer s H vs Q E hr h => ?_)
  · obtain ⟨m, b, rfl, _⟩ := h
    rfl
  · obtain ⟨m, b, rfl, hb1, hb, hbm, hm, q⟩ := h
    have nd := sc_unpacker.nd
    refine ⟨_, pss_cons (ps_set (i := 2) nd rfl (.inr rfl) (pe_op op_oneShl pe_int (pe_op op_sub (pv 1) pe_int)))
      (pss_cons (ps_setLc (i := 3) (own := [("at", 4)]) (g := gName 4) (by rfl) nd rfl rfl (sw_true rfl rfl rfl (by decide +kernel)) (pi_revR (by rfl) D.z_reversed (prg_1 (by rfl) D.z_range (pv 0))) (blkOk_by (own := [("at", 4)]) (N := N_unpacker) (sc := defScope s_unpacker) (by decide +kernel))
          (fun _ _ _ _ _ => pg_name (i := 4) nd rfl (.inl rfl)) (fun _ _ _ _ _ => pts_nil) (fun _ _ _ _ _ => pe_op op_mulX (pv 1) (pv 4)))
      (pss_one (ps_ret (pe_tup (pa_cons (pe_callB (cr_sum rfl) (by rfl) D.z_sum (by decide +kernel) (pa_cons (pe_lc (own := [("shift", 5)]) (g := gName 5) (by rfl) nd (pi_list (pv 3)) (blkOk_by (own := [("shift", 5)]) (N := N_unpacker) (sc := defScope s_unpacker) (by decide +kernel))
          (fun _ _ _ _ _ => pg_name (i := 5) nd rfl (.inl rfl)) (fun _ _ _ _ _ => pts_nil) (fun _ _ _ _ _ => pe_op op_shlN (pv 2) (pv 5))) pa_nil)) (pa_cons (pe_op op_sub (pe_op op_oneShl pe_int (pv 1)) pe_int) (pa_cons (pv 3) (pa_cons (pv 2) pa_nil)))))))), ?_⟩
    dsimp only [tSeq, tAsg, gName, tNext]
    have e1 : ((b : Nat) : Int) - 1 = ((b - 1 : Nat) : Int) := by omega
    refine ⟨.int (b : Nat), rfl, _, 1, rfl, rfl, b - 1, rfl, by rw [← e1], by omega, ?_⟩
    refine ⟨_, rfl, m, rfl, by omega, by omega, by omega, by omega, fun S nS => ?_⟩
    have em : (((m : Nat) : Int) - 0).toNat = m := by omega
    rw [em]
    refine lc_it (walk_rangeC) (fun j H' => H' S = some (.lst (((shiftsOf m b).take j).map V.int)) ∧ But S H H') ⟨upd_same, But.start⟩ (fun _ _ _ _ => trivial) (fun j x H1 H2 hj h hy => ?_) (fun H1 h => ?_)
    · obtain ⟨hS, kp⟩ := h
      obtain ⟨rfl, rfl⟩ := hy
      refine ⟨rfl, .int (b : Nat), rfl, _, rfl, _, _, rfl, rfl, mulx (a := 20) (b := 20) (by omega) (by omega) (by decide), _, hS, ?_, ?_, kp.step (Same.refl _)⟩
      · rw [List.length_map, List.length_take, sizeLine_eq]
        omega
      · have hjl : (shiftsOf m b)[j]? = some (((b * (m - 1 - j) : Nat)) : Int) := by
          unfold shiftsOf
          rw [List.getElem?_map, List.getElem?_range hj]
          rfl
        rw [upd_same, List.take_add_one, hjl, List.map_append]
        have e2 : (0 : Int) + ((m : Nat) : Int) - 1 + ((j : Nat) : Int) * -1 = ((m - 1 - j : Nat) : Int) := by omega
        rw [e2]
        rfl
    · obtain ⟨hS, kp⟩ := h
      have lS : (shiftsOf m b).length = m := by unfold shiftsOf; rw [List.length_map, List.length_range]
      rw [List.take_of_length_le (by rw [lS]; exact Nat.le_refl _)] at hS
      have s1 := kp.same nS
      refine ⟨.ref S, rfl, S, rfl, ⟨_, sqlOf hS⟩, fun F nF => ?_⟩
      refine lc_list (xs := (shiftsOf m b).map V.int) (fun j H' => H' F = some (.lst ((((((List.range m).map fun i => ((b * (m - 1 - i) : Nat))).map fun x => halfOf b * 2 ^ x)).take j).map V.int)) ∧ But F H1 H') ⟨upd_same, But.start⟩ (fun j H' _ h => sqlOf (h.2.at_ nF hS)) (fun j x H2 hx h => ?_) (fun H2 h => ?_)
      · obtain ⟨hF, kp2⟩ := h
        rw [List.getElem?_map] at hx
        obtain ⟨v, hv, rfl⟩ := Option.map_eq_some_iff.mp hx
        have hjl := (List.getElem?_eq_some_iff.mp hv).1
        rw [lS] at hjl
        have hv2 : v = ((b * (m - 1 - j) : Nat) : Int) := by
          unfold shiftsOf at hv
          rw [List.getElem?_map, List.getElem?_range hjl] at hv
          exact (Option.some.inj hv).symm
        subst hv2
        have hle : b * (m - 1 - j) ≤ 10000 := Nat.le_trans (Nat.mul_le_mul_left _ (by omega)) hbm
        refine ⟨rfl, _, rfl, _, rfl, _, _, rfl, rfl, shl_ok (n := 10001) ?_ (by omega), _, hF, ?_, ?_, kp2.step (Same.refl _)⟩
        · rw [Int.natAbs_pow]
          exact Nat.pow_lt_pow_right (by decide) (by omega)
        · rw [List.length_map, List.length_take, List.length_map, List.length_map, List.length_range, sizeLine_eq]
          omega
        · rw [upd_same, List.take_add_one, List.getElem?_map, List.getElem?_map, List.getElem?_range hjl, List.map_append]
          rfl
      · obtain ⟨hF, kp2⟩ := h
        rw [List.length_map, lS, List.take_of_length_le (by rw [List.length_map, List.length_map, List.length_range]; exact Nat.le_refl _)] at hF
        refine ⟨F, _, rfl, sqlOf hF, ?_⟩
        rw [shifts_sum]
        refine ⟨.int (b : Nat), rfl, b, rfl, rfl, by omega, _, 1, rfl, rfl, _, rfl, _, rfl, two_ok4, fun z nz => ?_⟩
        have s2 := kp2.same nF
        have s3 := same_new (o := .tup [.int (keyB b (List.replicate m (halfOf b))), .int (2 ^ b - 1), .ref S, .int (halfOf b)]) nz
        exact q _ z ((s1.trans s2).trans s3) ((s1.trans s2).free nz) ⟨S, upd_same, s3 _ _ (s2 _ _ hS)⟩
def spPowersAt : Sp := fun vs H Q _ => ∃ (z : Addr) (m b : Nat) (p : List Int), vs = [.int (keyB b p), .ref z] ∧ FormAt H z m b ∧ 1 ≤ b ∧ b ≤ 10000 ∧ m ≤ 4000 ∧ p.length = m ∧ InB b p ∧
  ∀ H' (e : Addr), Same H H' → H e = none → H' e = some (.tup (p.map V.int)) → Q (.ref e) H'
theorem digit_read {b m : Nat} {p : List Int} {j : Nat} {x : Int} (hb : 1 ≤ b) (hl : p.length = m) (hp : InB b p) (hx : p[j]? = some x) : (keyB b p + keyB b (List.replicate m (halfOf b))) / 2 ^ (b * (m - 1 - j)) % 2 ^ b - halfOf b = x := by
  have e2 : (2 : Int) ^ b = 2 * halfOf b := by
    unfold halfOf
    obtain ⟨c, rfl⟩ : ∃ c, b = c + 1 := ⟨b - 1, by omega⟩
    rw [Int.pow_succ, Nat.add_sub_cancel, Int.mul_comm]
  have e3 : (2 : Int) ^ b = ((2 ^ b : Nat) : Int) := by rw [Int.natCast_pow]; rfl
  have hm : ∀ (p : List Int) (m : Nat), p.length = m → addP p (List.replicate m (halfOf b)) = p.map fun x => x + halfOf b := fun p => by
    induction p with
    | nil => intro m h; cases h; rfl
    | cons y p ih =>
      intro m h
      cases h
      show (y + halfOf b) :: addP p (List.replicate p.length (halfOf b)) = _
      rw [ih _ rfl]
      rfl
  rw [← keyB_add b (by rw [List.length_replicate, hl]), hm p m hl]
  have hd : Dig b (p.map fun x => x + halfOf b) := fun y hy => by
    obtain ⟨v, hv, rfl⟩ := List.mem_map.mp hy
    have := hp v hv
    show 0 ≤ v + halfOf b ∧ v + halfOf b < 2 ^ b
    omega
  have := keyB_at (i := j) (x := x + halfOf b) hd (by rw [List.getElem?_map, hx]; rfl)
  rw [List.length_map, hl] at this
  rw [this]
  omega
theorem ok_powersAt {k : Nat} (D : Defs K mg f d) : FnOk P w K mg base CX0 (k + 1) (f i_powers_at) (d i_powers_at) ["key", "form"] spPowersAt := by
  refine D.F_powers_at.ok sc_powers_at (fun vs H Q E h => ?_) (fun cdv A outer s H vs Q E hr h => ?_)
  · obtain ⟨z, m, b, p, rfl, _⟩ := h
    rfl
  · obtain ⟨z, m, b, p, rfl, hF, hb1, hb, hm, hl, hp, q⟩ := h
    obtain ⟨sh, hz, hsh⟩ := hF.ex
    have nd := sc_powers_at.nd
    refine ⟨_, pss_cons (ps_asg (pv 1) (pg_tup rfl (pgs_cons (pg_name (i := 2) nd rfl (.inl rfl)) (pgs_cons (pg_name (i := 3) nd rfl (.inr rfl)) (pgs_cons (pg_name (i := 4) nd rfl (.inl rfl)) (pgs_cons (pg_name (i := 5) nd rfl (.inr rfl)) pgs_nil))))))
      (pss_cons (ps_set (i := 6) nd rfl (.inr rfl) (pe_op op_add (pv 0) (pv 2)))
      (pss_one (ps_ret (pe_callTy call_tuple_of (by rfl) D.z_tuple (by decide +kernel) (pa_cons (pe_lc (own := [("shift", 7)]) (g := gName 7) (by rfl) nd (pi_list (pv 4)) (blkOk_by (own := [("shift", 7)]) (N := N_powers_at) (sc := defScope s_powers_at) (by decide +kernel))
          (fun _ _ _ _ _ => pg_name (i := 7) nd rfl (.inl rfl)) (fun _ _ _ _ _ => pts_nil) (fun _ _ _ _ _ => pe_op op_sub (pe_op op_andM (pe_op op_shrN (pv 6) (pv 7)) (pv 3)) (pv 5))) pa_nil))))), ?_⟩
    dsimp only [tSeq, tAsg, gName, tNext]
    refine ⟨.ref z, rfl, z, _, rfl, sqtOf hz, rfl, _, _, rfl, _, _, rfl, _, _, rfl, _, _, rfl, rfl, ?_⟩
    refine ⟨_, rfl, _, rfl, _, _, rfl, rfl, ?_⟩
    refine ⟨.ref sh, rfl, sh, rfl, ⟨_, sqlOf hsh⟩, fun E nE => ?_⟩
    have lS : (shiftsOf m b).length = m := by unfold shiftsOf; rw [List.length_map, List.length_range]
    refine lc_list (xs := (shiftsOf m b).map V.int) (fun j H' => H' E = some (.lst ((p.take j).map V.int)) ∧ But E H H') ⟨upd_same, But.start⟩ (fun j H' _ h => sqlOf (h.2.at_ nE hsh)) (fun j x H2 hx h => ?_) (fun H2 h => ?_)
    · obtain ⟨hE, kp⟩ := h
      rw [List.getElem?_map] at hx
      obtain ⟨v, hv, rfl⟩ := Option.map_eq_some_iff.mp hx
      have hjl := (List.getElem?_eq_some_iff.mp hv).1
      rw [lS] at hjl
      have hv2 : v = ((b * (m - 1 - j) : Nat) : Int) := by
        unfold shiftsOf at hv
        rw [List.getElem?_map, List.getElem?_range hjl] at hv
        exact (Option.some.inj hv).symm
      subst hv2
      obtain ⟨x, hxp⟩ : ∃ x, p[j]? = some x := ⟨p[j]'(by omega), List.getElem?_eq_getElem (by omega)⟩
      refine ⟨rfl, _, rfl, _, rfl, _, _, rfl, rfl, _, rfl, _, b, rfl, rfl, _, rfl, _, _, rfl, rfl, _, hE, ?_, ?_, kp.step (Same.refl _)⟩
      · rw [List.length_map, List.length_take, sizeLine_eq]
        omega
      · dsimp only
        rw [upd_same, digit_read hb1 hl hp hxp, List.take_add_one, hxp, List.map_append]
        rfl
    · obtain ⟨hE, kp⟩ := h
      rw [List.length_map, lS, List.take_of_length_le (by omega)] at hE
      refine ⟨E, _, rfl, .inl ⟨sqlOf hE, fun t nt => ?_⟩⟩
      have s1 := kp.same nE
      exact q _ t (s1.trans (same_new nt)) (s1.free nt) upd_same
end
end NH
set_option Elab.async false
set_option linter.all false
set_option maxRecDepth 100000
set_option maxHeartbeats 1000000
set_option exponentiation.threshold 100000
namespace NH
open PySem PySem.Spec PyProof.Rows L2 R1 ZN PK RS
section
variable {P : Program} {w : World} {K : PySem.W.Frag} {mg : Str → Option Value} {base : Heap} {f : Nat → Addr} {d : Nat → FuncData}
/-! ### unpacked -/
def spUnpacked : Sp := fun vs H Q _ => ∃ (e : Addr) (m b : Nat) (T : Ts), vs = [.ref e, .int (m : Nat), .int (b : Nat)] ∧ IdAt H e (T.map (pk b)) ∧ NodupK T ∧ Box b m T ∧ (∀ q ∈ T, q.2 ≠ 0) ∧ T.length ≤ 4000 ∧ 1 ≤ b ∧ b ≤ 10000 ∧ b * m ≤ 10000 ∧ m ≤ 4000 ∧
  ∀ H' (t : Addr) (L : List Trm), Same H H' → H t = none → SumAt H' t L → Norm T (L.map Trm.d) → L.length = T.length → Q (.ref t) H'
theorem perm_lift' {α β : Type} {f : α → β} {ys : List β} {T : List α} (h : ys.Perm (T.map f)) : ∃ T' : List α, T'.Perm T ∧ T'.map f = ys := R1.perm_lift h T rfl
theorem ok_unpacked {k : Nat} (D : Defs K mg f d) : FnOk P w K mg base CX0 (k + 2) (f i_unpacked) (d i_unpacked) ["terms", "many", "bits"] spUnpacked := by
  have G_unpacker : FnOk P w K mg base CX0 (k + 1) (f i_unpacker) (d i_unpacker) ["many", "bits"] spUnpacker := ok_unpacker D
  have G_powers_at : FnOk P w K mg base CX0 (k + 1) (f i_powers_at) (d i_powers_at) ["key", "form"] spPowersAt := ok_powersAt D
  refine D.F_unpacked.ok sc_unpacked (fun vs H Q E h => ?_) (fun cdv A outer s H vs Q E hr h => ?_)
  · obtain ⟨e, m, b, T, rfl, _⟩ := h
    rfl
  · obtain ⟨e, m, b, T, rfl, hI, hnd, hbox, hnz, hTl, hb1, hb, hbm, hm, q⟩ := h
    have nd := sc_unpacked.nd
    have hu := hu_of hr
    refine ⟨_, pss_cons (ps_set (i := 3) nd rfl (.inr rfl) (pe_call G_unpacker hr (by rfl) D.g_unpacker D.F_unpacker.kp D.b_unpacker .nil pass0 (pa_cons (pv 1) (pa_cons (pv 2) pa_nil))))
      (pss_one (ps_ret (pe_callTy call_tuple_of (by rfl) D.z_tuple (by decide +kernel) (pa_cons (pe_lc (own := [("key", 4)]) (g := gName 4) (by rfl) nd (pi_list (pe_callB (cr_sortedK rfl) (by rfl) D.z_sorted (by decide +kernel) (pa_cons (pv 0) pa_nil))) (blkOk_by (own := [("key", 4)]) (N := N_unpacked) (sc := defScope s_unpacked) (by decide +kernel))
          (fun _ _ _ _ _ => pg_name (i := 4) nd rfl (.inl rfl)) (fun _ _ _ _ _ => pts_nil) (fun _ _ _ _ _ => pe_tup (pa_cons (pe_call G_powers_at hr (by rfl) D.g_powers_at D.F_powers_at.kp D.b_powers_at .nil pass0 (pa_cons (pv 4) (pa_cons (pv 3) pa_nil))) (pa_cons (pe_dget hu (pv 0) (pv 4) (fun _ _ => rfl)) pa_nil)))) pa_nil)))), ?_⟩
    refine ⟨.int (m : Nat), rfl, .int (b : Nat), rfl, m, b, rfl, hb1, hb, hbm, hm, fun H1 z s1 nz hF => ?_⟩
    have hI1 := hI.same s1
    dsimp only [tSeq, tAsg, gName, tNext]
    refine ⟨.ref e, rfl, e, _, (T.map (pk b)).map (·.1), rfl, .inl hI1.at_, by rw [List.map_map, List.map_map, List.map_map, List.map_map]; rfl, fun ys p hp hs np => ?_⟩
    have hp2 : ys.Perm (T.map fun q : List Int × Int => keyB b q.1) := by
      rw [List.map_map] at hp
      exact hp
    obtain ⟨T', hT', rfl⟩ := perm_lift' hp2
    have hlT : T'.length = T.length := hT'.length_eq
    have s2 := same_new (o := .lst ((T'.map fun q : List Int × Int => keyB b q.1).map V.int)) np
    refine ⟨p, rfl, ⟨_, sqlOf upd_same⟩, fun E nE => ?_⟩
    have hp2 : upd H1 p (.lst ((T'.map fun q : List Int × Int => keyB b q.1).map V.int)) p = some (.lst ((T'.map fun q : List Int × Int => keyB b q.1).map V.int)) := upd_same
    have hI2 := hI1.same s2
    have hF2 := hF.same s2
    have s12 := s1.trans s2
    generalize upd H1 p (.lst ((T'.map fun q : List Int × Int => keyB b q.1).map V.int)) = H2 at *
    refine lc_list (xs := (T'.map fun q : List Int × Int => keyB b q.1).map V.int) (fun j H' => ∃ L : List Trm, H' E = some (.lst (L.map Trm.v)) ∧ RowsOk H' L ∧ L.map Trm.d = T'.take j ∧ But E H2 H') ⟨[], upd_same, (fun r h => by cases h), by simp, But.start⟩ (fun j H' _ h => ?_) (fun j x H3 hx h => ?_) (fun H3 h => ?_)
    · obtain ⟨_, _, _, _, kp⟩ := h
      exact sqlOf (kp.at_ nE hp2)
    · obtain ⟨L, hE, ho, ed, kp⟩ := h
      rw [List.map_map, List.getElem?_map] at hx
      obtain ⟨q1, hq1, rfl⟩ := Option.map_eq_some_iff.mp hx
      have hjl := (List.getElem?_eq_some_iff.mp hq1).1
      have hqm : q1 ∈ T := hT'.mem_iff.mp (List.mem_of_getElem? hq1)
      have s3 := kp.same nE
      obtain ⟨hl1, hb1'⟩ := hbox q1 hqm
      refine ⟨rfl, .int (keyB b q1.1), rfl, .ref z, rfl, z, m, b, q1.1, rfl, hF2.same s3, hb1, hb, hm, hl1, hb1', fun H4 t s4 nt ht => ?_⟩
      have hI4 := (hI2.same s3).same s4
      refine ⟨.ref e, rfl, .int (keyB b q1.1), rfl, e, .int q1.2, rfl, ?_, size2', fun u nu => ?_⟩
      · have := dget (k := keyB b q1.1) (.inl hI4.at_)
        rw [getI_pk hl1 hb1' hbox, (getO_mem hnd).mpr hqm] at this
        exact this
      · have su := same_new (o := .tup [.ref t, .int q1.2]) nu
        obtain ⟨g1, g2⟩ := rows_step (D := E) (t := u) (p := t) (ns := q1.1) (c := q1.2) (su _ _ (s4 _ _ hE)) ((ho.keep (same_keepT s4)).keep (same_keepT su)) upd_same (su _ _ ht)
        refine ⟨_, su _ _ (s4 _ _ hE), ?_, _, g1, g2, ?_, (kp.then s4).step su⟩
        · have := rows_len ed
          rw [List.length_take] at this
          rw [List.length_map, sizeLine_eq]
          omega
        · rw [List.map_append, ed, List.take_add_one, hq1]
          rfl
    · obtain ⟨L, hE, ho, ed, kp⟩ := h
      rw [List.take_of_length_le (by rw [List.length_map, List.length_map]; exact Nat.le_refl _)] at ed
      have s3 := s12.trans (kp.same nE)
      refine ⟨E, _, rfl, .inl ⟨sqlOf hE, fun t nt => ?_⟩⟩
      refine q _ t L (s3.trans (same_new nt)) (s3.free nt) ⟨upd_same, ho.keep (same_keepT (same_new nt))⟩ ⟨?_, fun q1 => ?_⟩ ?_
      · rw [ed]
        have hsl : (T'.map fun q : List Int × Int => keyB b q.1).Pairwise (· < ·) := by
          have hn : (T'.map fun q : List Int × Int => keyB b q.1).Nodup := by
            have h0 := nodI_pk hbox hnd
            unfold NodI at h0
            rw [List.map_map] at h0
            exact (hT'.map _).nodup_iff.mpr h0
          refine (hs.and hn).imp fun {x y} h => ?_
          have h1 := h.1
          have h2 := h.2
          omega
        rw [List.pairwise_map] at hsl
        refine hsl.imp_of_mem fun {x y} hx hy h => ?_
        obtain ⟨a1, a2⟩ := hbox x (hT'.mem_iff.mp hx)
        obtain ⟨b1, b2⟩ := hbox y (hT'.mem_iff.mp hy)
        exact keyB_of_lt (by omega) a2 b2 h
      · rw [ed, hT'.mem_iff]
        exact ⟨fun h => ⟨h, hnz q1 h⟩, fun h => h.1⟩
      · rw [rows_len ed, hlT]
/-! ### packed_times, of packed terms -/
structure PkAt (H : Hp) (e : Addr) (b m : Nat) (A : Ts) : Prop where
  at_ : IdAt H e (A.map (pk b))
  nd : NodupK A
  len : ∀ q ∈ A, q.1.length = m
  nz : ∀ q ∈ A, q.2 ≠ 0
theorem PkAt.same {H H' : Hp} {e : Addr} {b m : Nat} {A : Ts} (h : PkAt H e b m A) (s : Same H H') : PkAt H' e b m A := ⟨h.at_.same s, h.nd, h.len, h.nz⟩
/-- C is the product of A and B -/
structure IsProd (m : Nat) (A B C : Ts) : Prop where
  nd : NodupK C
  len : ∀ q ∈ C, q.1.length = m
  nz : ∀ q ∈ C, q.2 ≠ 0
  keys : ∀ q ∈ C, ∃ a ∈ A, ∃ b ∈ B, q.1 = addP a.1 b.1
  val : ∀ j : List Int, j.length = m → val C j = mulF (val A) B j
theorem isProd_of {m : Nat} {A B X Y : Ts} (nA : NodupK A) (hA : ∀ q ∈ A, q.1.length = m) (hB : ∀ q ∈ B, q.1.length = m) (h : (X = A ∧ Y = B) ∨ (X = B ∧ Y = A)) : IsProd m A B ((mulT X Y).filter nz) := by
  refine ⟨nodupK_filter (mulT_nodup _ _), fun q hq => ?_, fun q hq => of_decide_eq_true (List.mem_filter.mp hq).2, fun q hq => ?_, fun j hj => ?_⟩
  · rcases h with ⟨rfl, rfl⟩ | ⟨rfl, rfl⟩
    · exact mulT_len hA hB q (List.mem_filter.mp hq).1
    · exact mulT_len hB hA q (List.mem_filter.mp hq).1
  · obtain ⟨a, ha, b, hb, e⟩ := mulT_keys (List.mem_filter.mp hq).1
    rcases h with ⟨rfl, rfl⟩ | ⟨rfl, rfl⟩
    · exact ⟨a, ha, b, hb, e⟩
    · exact ⟨b, hb, a, ha, by rw [e, addP_comm]⟩
  · rw [val_filter (mulT_nodup _ _), ← mulT_val nA hA hB hj]
    rcases h with ⟨rfl, rfl⟩ | ⟨rfl, rfl⟩
    · rfl
    · exact mulT_comm_val j
def spPTg : Sp := fun vs H Q _ => ∃ (a b : Addr) (w m : Nat) (A B : Ts), vs = [.ref a, .ref b] ∧ PkAt H a w m A ∧ PkAt H b w m B ∧ A.length ≤ 1000 ∧ B.length ≤ 1000 ∧ (∀ q ∈ A, q.2.natAbs < 2 ^ 40000) ∧ (∀ q ∈ B, q.2.natAbs < 2 ^ 40000) ∧ (∀ p ∈ A, ∀ q ∈ B, InB w (addP p.1 q.1)) ∧
  ∀ H' (e : Addr) (C : Ts), Same H H' → H e = none → PkAt H' e w m C → IsProd m A B C → Q (.ref e) H'
theorem ok_ptg {k : Nat} (D : Defs K mg f d) : FnOk P w K mg base CX0 (k + 1) (f i_packed_times) (d i_packed_times) ["one", "other"] spPTg := by
  refine (ok_pt D).imp fun vs H Q E h => ?_
  obtain ⟨a, b, w, m, A, B, rfl, hA, hB, lA, lB, cA, cB, hin, q⟩ := h
  refine ⟨a, b, _, _, rfl, hA.at_, hB.at_, by rw [List.length_map]; exact lA, by rw [List.length_map]; exact lB, fun p hp => ?_, fun p hp => ?_, fun H' e X Y s ne hXY he => ?_⟩
  · obtain ⟨q, hq, rfl⟩ := List.mem_map.mp hp
    exact cA q hq
  · obtain ⟨q, hq, rfl⟩ := List.mem_map.mp hp
    exact cB q hq
  · obtain ⟨X', Y', rfl, rfl, hXY'⟩ : ∃ X' Y' : Ts, X = X'.map (pk w) ∧ Y = Y'.map (pk w) ∧ ((X' = A ∧ Y' = B) ∨ (X' = B ∧ Y' = A)) := by
      rcases hXY with ⟨rfl, rfl⟩ | ⟨rfl, rfl⟩
      · exact ⟨A, B, rfl, rfl, .inl ⟨rfl, rfl⟩⟩
      · exact ⟨B, A, rfl, rfl, .inr ⟨rfl, rfl⟩⟩
    have lX : ∀ q ∈ X', q.1.length = m := by rcases hXY' with ⟨rfl, rfl⟩ | ⟨rfl, rfl⟩ <;> first | exact hA.len | exact hB.len
    have lY : ∀ q ∈ Y', q.1.length = m := by rcases hXY' with ⟨rfl, rfl⟩ | ⟨rfl, rfl⟩ <;> first | exact hA.len | exact hB.len
    have hP := isProd_of (m := m) hA.nd hA.len hB.len hXY'
    have hbW : Box w m (prodsT X' Y') := fun q hq => by
      refine ⟨prodsT_len lX lY q hq, ?_⟩
      obtain ⟨p, hp, h⟩ := List.mem_flatMap.mp hq
      obtain ⟨r, hr, rfl⟩ := List.mem_map.mp h
      show InB w (addP p.1 r.1)
      rcases hXY' with ⟨rfl, rfl⟩ | ⟨rfl, rfl⟩
      · exact hin p hp r hr
      · rw [addP_comm]
        exact hin r hr p hp
    have hg := (gath_pk (A := []) (W := prodsT X' Y') (b := w) (m := m) (fun q h => by cases h) hbW).1
    rw [prods_pk lX lY] at he
    have he2 : IdAt H' e (((mulT X' Y').filter nz).map (pk w)) := by
      rw [← filter_pk]
      unfold mulT
      rw [← hg]
      exact he
    exact q H' e _ s ne ⟨he2, hP.nd, hP.len, hP.nz⟩ hP
end
end NH
set_option Elab.async false
set_option linter.all false
set_option maxRecDepth 100000
set_option maxHeartbeats 1000000
set_option exponentiation.threshold 100000
namespace NH
open PySem PySem.Spec PyProof.Rows L2 R1 ZN PK RS
/-! ### powers of a packed sum -/
def powF (F : List Int → Int) (B : Ts) : Nat → List Int → Int
  | 0 => F
  | n + 1 => mulF (powF F B n) B
structure PowOk (m w : Nat) (A B : Ts) (n RA RB α β : Nat) (S : Nat → List (List Int)) : Prop where
  rA : ∀ q ∈ A, ∀ x ∈ q.1, x.natAbs ≤ RA
  rB : ∀ q ∈ B, ∀ x ∈ q.1, x.natAbs ≤ RB
  fit : 2 * (RA + n * RB) + 2 ≤ 2 ^ w
  fitB : 2 * RB + 2 ≤ 2 ^ w
  s0 : ∀ q ∈ A, q.1 ∈ S 0
  sS : ∀ i, i < n → ∀ x ∈ S i, ∀ q ∈ B, addP x q.1 ∈ S (i + 1)
  sl : ∀ i, i ≤ n → (S i).length ≤ 1000
  cA : ∀ q ∈ A, q.2.natAbs < 2 ^ α
  cB : ∀ q ∈ B, q.2.natAbs < 2 ^ β
  lB : B.length ≤ 1000
  bits : α + n * (β + 10) ≤ 40000
  hb : β ≤ 200
  hn : n ≤ 100
structure IsPow (m : Nat) (A B : Ts) (n RA RB α β : Nat) (S : Nat → List (List Int)) (C : Ts) : Prop where
  nd : NodupK C
  len : ∀ q ∈ C, q.1.length = m
  r : ∀ q ∈ C, ∀ x ∈ q.1, x.natAbs ≤ RA + n * RB
  keys : ∀ q ∈ C, q.1 ∈ S n
  coef : ∀ q ∈ C, q.2.natAbs < 2 ^ (α + n * (β + 10))
  val : ∀ j : List Int, j.length = m → val C j = powF (val A) B n j
theorem val_lt {D : Ts} (h : NodupK D) {B : Nat} (hb : ∀ q ∈ D, q.2.natAbs < 2 ^ B) (j : List Int) : (val D j).natAbs < 2 ^ B := by
  unfold val
  cases z : getO D j with
  | none => exact Nat.pow_pos (by decide)
  | some v => exact hb _ ((getO_mem h).mp z)
theorem addP_mem {a b : List Int} {x : Int} {A B : Nat} (ha : ∀ y ∈ a, y.natAbs ≤ A) (hb : ∀ y ∈ b, y.natAbs ≤ B) (h : x ∈ addP a b) : x.natAbs ≤ A + B := by
  obtain ⟨i, hi, e⟩ := List.mem_iff_getElem.mp h
  unfold addP at e hi
  rw [List.getElem_zipWith] at e
  rw [List.length_zipWith] at hi
  have h1 := ha _ (List.getElem_mem (l := a) (n := i) (by omega))
  have h2 := hb _ (List.getElem_mem (l := b) (n := i) (by omega))
  omega
theorem inB_of {w R : Nat} {p : List Int} (h : ∀ x ∈ p, x.natAbs ≤ R) (hw : 2 * R + 2 ≤ 2 ^ w) : InB w p := fun x hx => by
  have := h x hx
  omega
theorem IsPow.zero {m w : Nat} {A B : Ts} {n RA RB α β : Nat} {S : Nat → List (List Int)} (h : PowOk m w A B n RA RB α β S) (nd : NodupK A) (len : ∀ q ∈ A, q.1.length = m) : IsPow m A B 0 RA RB α β S A :=
  ⟨nd, len, fun q hq x hx => by have := h.rA q hq x hx; omega, h.s0, fun q hq => by have := h.cA q hq; rw [Nat.zero_mul, Nat.add_zero]; exact this, fun _ _ => rfl⟩
theorem IsPow.next {m w : Nat} {A B C C' : Ts} {n i RA RB α β : Nat} {S : Nat → List (List Int)} (h : PowOk m w A B n RA RB α β S) (hi : i < n) (lB : ∀ q ∈ B, q.1.length = m) (hC : IsPow m A B i RA RB α β S C) (hP : IsProd m C B C') : IsPow m A B (i + 1) RA RB α β S C' := by
  refine ⟨hP.nd, hP.len, fun q hq x hx => ?_, fun q hq => ?_, fun q hq => ?_, fun j hj => ?_⟩
  · obtain ⟨a, ha, b, hb, e⟩ := hP.keys q hq
    rw [e] at hx
    have := addP_mem (hC.r a ha) (h.rB b hb) hx
    rw [Nat.succ_mul]
    omega
  · obtain ⟨a, ha, b, hb, e⟩ := hP.keys q hq
    rw [e]
    exact h.sS i hi _ (hC.keys a ha) b hb
  · rw [← val_mem2 hP.nd hq, hP.val _ (hP.len q hq)]
    have h1 := mulF_small (α := α + i * (β + 10)) (β := β) (fun k => val_lt hC.nd hC.coef k) q.1 h.cB
    have h2 : B.length * 2 ^ (α + i * (β + 10) + β) < 2 ^ 10 * 2 ^ (α + i * (β + 10) + β) := Nat.mul_lt_mul_of_pos_right (by have := h.lB; omega) (Nat.pow_pos (by decide))
    rw [← Nat.pow_add] at h2
    have e : α + (i + 1) * (β + 10) = 10 + (α + i * (β + 10) + β) := by
      rw [Nat.succ_mul]
      omega
    rw [e]
    exact Nat.lt_of_le_of_lt h1 h2
  · rw [hP.val j hj]
    exact mulF_congr hC.val lB hj
/-- powers times a number -/
def scaleP (n : Int) (p : List Int) : List Int := p.map fun x => x * n
theorem scaleP_zero (p : List Int) : scaleP 0 p = zerosP p.length := by
  unfold scaleP zerosP
  induction p with
  | nil => rfl
  | cons x p ih => rw [List.map_cons, ih, Int.mul_zero]; rfl
theorem scaleP_succ (n : Nat) : ∀ p : List Int, scaleP ((n + 1 : Nat) : Int) p = addP (scaleP (n : Int) p) p
  | [] => rfl
  | x :: p => by
    show x * ((n + 1 : Nat) : Int) :: scaleP ((n + 1 : Nat) : Int) p = (x * (n : Int) + x) :: addP (scaleP (n : Int) p) p
    rw [scaleP_succ n p, Int.natCast_succ, Int.mul_add, Int.mul_one]
theorem scaleP_len (n : Int) (p : List Int) : (scaleP n p).length = p.length := List.length_map ..
theorem keyB_scale (b : Nat) (n : Int) : ∀ p : List Int, keyB b (scaleP n p) = keyB b p * n
  | [] => by simp [keyB, scaleP]
  | x :: p => by
    have ih := keyB_scale b n p
    unfold scaleP at ih ⊢
    rw [List.map_cons, keyB, keyB, ih, List.length_map, Int.add_mul, Int.mul_right_comm]
theorem powF_one {F : List Int → Int} {m : Nat} {p : List Int} {c : Int} (hp : p.length = m) : ∀ (n : Nat) {j : List Int}, j.length = m → powF F [(p, c)] n j = c ^ n * F (subP j (scaleP (n : Int) p))
  | 0, j, hj => by
    have e : subP j (scaleP ((0 : Nat) : Int) p) = j := by
      have : scaleP ((0 : Nat) : Int) p = zerosP p.length := scaleP_zero p
      rw [this]
      refine (addP_iff (p := j) (q := zerosP p.length) (j := j) (by simp [zerosP]; omega) (by simp [zerosP]; omega)).mp ?_
      rw [addP_comm, addP_zeros (by omega)]
    rw [e, Int.pow_zero, Int.one_mul]
    rfl
  | n + 1, j, hj => by
    rw [powF, mulF, mulF, Int.add_zero, powF_one hp n (subP_len hj hp), subP_subP hj hp (by rw [scaleP_len]; exact hp), addP_comm p, ← scaleP_succ, Int.pow_succ, ← Int.mul_assoc, Int.mul_comm c]
section
variable {P : Program} {w : World} {K : PySem.W.Frag} {mg : Str → Option Value} {base : Heap} {f : Nat → Addr} {d : Nat → FuncData}
def spPB : Sp := fun vs H Q _ => ∃ (a b : Addr) (w m : Nat) (A B : Ts) (n RA RB α β : Nat) (S : Nat → List (List Int)), vs = [.ref a, .ref b, .int (n : Nat)] ∧ PkAt H a w m A ∧ PkAt H b w m B ∧ PowOk m w A B n RA RB α β S ∧ w * m ≤ 10000 ∧
  ∀ H' (e : Addr) (C : Ts), Same H H' → PkAt H' e w m C → IsPow m A B n RA RB α β S C → Q (.ref e) H'
theorem ok_pbp {k : Nat} (D : Defs K mg f d) : FnOk P w K mg base CX0 (k + 2) (f i_packed_by_power) (d i_packed_by_power) ["terms", "factor", "times"] spPB := by
  have G_packed_times : FnOk P w K mg base CX0 (k + 1) (f i_packed_times) (d i_packed_times) ["one", "other"] spPTg := ok_ptg D
  have G_whole_power : FnOk P w K mg base CX0 (k + 1) (f i_whole_power) (d i_whole_power) ["base", "times"] spWP := ok_wp D
  refine D.F_packed_by_power.ok sc_packed_by_power (fun vs H Q E h => ?_) (fun cdv A outer s H vs Q E hr h => ?_)
  · obtain ⟨a, b, w, m, A, B, n, RA, RB, α, β, S, rfl, _⟩ := h
    rfl
  · obtain ⟨a, b, w, m, A, B, n, RA, RB, α, β, S, rfl, hA, hB, hO, hwm, q⟩ := h
    have nd := sc_packed_by_power.nd
    have hu := hu_of hr
    refine ⟨_, pss_cons (ps_if (pt_cmpR op_eq (pe_callB call_lenD (by rfl) D.z_len PySem.boot_len (pa_cons (pv 1) pa_nil)) pe_int (nomark _))
        (pss_cons (ps_set (i := 3) nd rfl (.inl rfl) (pe_ix ix_list (pe_callTy (call_listD rfl) (by rfl) D.z_list (by decide +kernel) (pa_cons (pv 1) pa_nil)) pe_int (fun _ _ => rfl)))
          (pss_one (ps_ret (pe_call G_packed_times hr (by rfl) D.g_packed_times D.F_packed_times.kp D.b_packed_times .nil pass0 (pa_cons (pv 0) (pa_cons (pe_disp (pps_cons (pe_op op_mulX (pv 3) (pv 2)) (pe_call G_whole_power hr (by rfl) D.g_whole_power D.F_whole_power.kp D.b_whole_power .nil pass0 (pa_cons (pe_dget hu (pv 1) (pv 3) (fun _ _ => rfl)) (pa_cons (pv 2) pa_nil))) pps_nil) (by rfl) (by rfl) (fun z => by cases z) (by decide)) pa_nil))))))
        pss_nil)
      (pss_cons (ps_for PassesOwn.never rfl (pi_range1 (by rfl) D.z_range (pa_cons (pv 2) pa_nil)) (pg_name (i := 4) nd rfl (.inl rfl))
        (pss_one (ps_set (i := 0) nd rfl (.inl rfl) (pe_call G_packed_times hr (by rfl) D.g_packed_times D.F_packed_times.kp D.b_packed_times .nil pass0 (pa_cons (pv 0) (pa_cons (pv 1) pa_nil))))))
      (pss_one (ps_ret (pv 0)))), ?_⟩
    have hw40 : ∀ {i : Nat} {C : Ts}, i ≤ n → IsPow m A B i RA RB α β S C → (∀ q ∈ C, q.2.natAbs < 2 ^ 40000) ∧ C.length ≤ 1000 := fun {i C} hi hC => by
      refine ⟨fun q hq => Nat.lt_of_lt_of_le (hC.coef q hq) (Nat.pow_le_pow_right (by decide) (Nat.le_trans ?_ hO.bits)), Nat.le_trans (keys_le hC.nd hC.keys) (hO.sl i hi)⟩
      exact Nat.add_le_add_left (Nat.mul_le_mul_right _ hi) _
    have hcB : ∀ q ∈ B, q.2.natAbs < 2 ^ 40000 := fun q hq => Nat.lt_of_lt_of_le (hO.cB q hq) (Nat.pow_le_pow_right (by decide) (by have := hO.hb; omega))
    refine ⟨.ref b, rfl, b, _, rfl, hB.at_.at_, rfl, _, rfl, ite2 (fun e => ?_) (fun e => ?_)⟩
    · have e1 := V.int.inj (of_decide_eq_true e)
      rw [List.length_map, List.length_map] at e1
      obtain ⟨⟨p, c⟩, rfl⟩ : ∃ q0, B = [q0] := List.length_eq_one_iff.mp (by omega)
      have hpl : p.length = m := hB.len _ (List.mem_singleton.mpr rfl)
      have hc : c.natAbs < 2 ^ β := hO.cB _ (List.mem_singleton.mpr rfl)
      have hc0 : c ≠ 0 := hB.nz _ (List.mem_singleton.mpr rfl)
      have hrp : ∀ x ∈ p, x.natAbs ≤ RB := hO.rB _ (List.mem_singleton.mpr rfl)
      dsimp only [tSeq, tAsg, gName]
      refine ⟨.ref b, rfl, b, _, rfl, .inl hB.at_.at_, fun l nl => ⟨l, _, 0, _, rfl, rfl, sqlOf upd_same, atI_nat (j := 0) rfl, ?_⟩⟩
      have s1 := same_new (o := .lst (([(p, c)] |>.map (pk w) |>.map encI).map fun kv => kV kv.1)) nl
      refine ⟨.ref a, rfl, fun e ne => ?_⟩
      have hb1 := hB.at_.same s1
      have s2 := s1.trans (same_new (o := .dK []) ne)
      have hb2 := hB.at_.same s2
      have he2 : upd (upd H l (.lst (([(p, c)] |>.map (pk w) |>.map encI).map fun kv => kV kv.1))) e (.dK []) e = some (.dK []) := upd_same
      have ne0 := s1.free ne
      generalize upd (upd H l (.lst (([(p, c)] |>.map (pk w) |>.map encI).map fun kv => kV kv.1))) e (.dK []) = H2 at s2 hb2 he2
      have hn100 : ((n : Nat) : Int).natAbs < 2 ^ 100 := by
        have := hO.hn
        have h9 : (100 : Nat) < 2 ^ 100 := by decide
        rw [Int.natAbs_natCast]
        omega
      have hkw : (keyB w p).natAbs < 2 ^ 10000 := by
        have h0 : InB w p := inB_of hrp hO.fitB
        have := keyB_small h0
        have h3 : (2 : Nat) ^ (w * p.length) ≤ 2 ^ 10000 := Nat.pow_le_pow_right (by decide) (by rw [hpl]; exact hwm)
        generalize (2 : Nat) ^ 10000 = Z at h3 ⊢
        omega
      refine ⟨.int (keyB w p), rfl, .int (n : Nat), rfl, _, _, rfl, rfl, mulx (a := 10000) (b := 100) hkw hn100 (by decide), ?_⟩
      have hget : DGet H2 b (.int (keyB w p)) (some (.int c)) := by
        have := dget (k := keyB w p) (.inl hb2.at_)
        have e3 : getI ([(p, c)].map (pk w)) (keyB w p) = some c := by simp [getI, pk]
        rw [e3] at this
        exact this
      refine ⟨.ref b, rfl, .int (keyB w p), rfl, b, .int c, rfl, hget, .int (n : Nat), rfl, c, n, β, rfl, hc, hO.hb, hO.hn, ?_⟩
      refine ⟨he2, [(Sum.inl (keyB w p * (n : Nat)), .int (c ^ n))], rfl, by show 1 ≤ 15; decide, ?_⟩
      have eM : mergeK [] [((Sum.inl (keyB w p * (n : Nat)) : Key), V.int (c ^ n))] = [(Sum.inl (keyB w p * (n : Nat)), V.int (c ^ n))] := rfl
      rw [eM]
      have s3 : Same H (upd H2 e (.dK [(Sum.inl (keyB w p * (n : Nat)), V.int (c ^ n))])) := fun x o ec => by
        rw [upd_ne (ne_of_none ec ne0)]
        exact s2 _ _ ec
      have hsp : (scaleP (n : Int) p).length = m := by rw [scaleP_len]; exact hpl
      have rsp : ∀ x ∈ scaleP (n : Int) p, x.natAbs ≤ n * RB := fun x hx => by
        obtain ⟨v, hv, rfl⟩ := List.mem_map.mp hx
        rw [Int.natAbs_mul, Int.natAbs_natCast, Nat.mul_comm]
        exact Nat.mul_le_mul_left _ (hrp v hv)
      have hcn : (c ^ n).natAbs ≤ 2 ^ (n * β) := by
        rw [Int.natAbs_pow, Nat.mul_comm, Nat.pow_mul]
        exact Nat.pow_le_pow_left (Nat.le_of_lt hc) n
      have hPk : PkAt (upd H2 e (.dK [(Sum.inl (keyB w p * (n : Nat)), V.int (c ^ n))])) e w m [(scaleP (n : Int) p, c ^ n)] := by
        refine ⟨⟨?_, ?_⟩, ?_, fun q hq => ?_, fun q hq => ?_⟩
        · rw [upd_same]
          show _ = some (HO.dK [(Sum.inl (keyB w (scaleP (n : Int) p)), V.int (c ^ n))])
          rw [keyB_scale]
        · exact List.nodup_cons.mpr ⟨by simp, List.nodup_nil⟩
        · exact List.nodup_cons.mpr ⟨by simp, List.nodup_nil⟩
        · cases List.mem_singleton.mp hq
          exact hsp
        · cases List.mem_singleton.mp hq
          exact Int.pow_ne_zero hc0
      have lA := (hw40 (Nat.zero_le _) (IsPow.zero hO hA.nd hA.len))
      refine ⟨a, e, w, m, A, _, rfl, hA.same s3, hPk, lA.2, by show 1 ≤ 1000; decide, lA.1, fun q hq => ?_, fun x hx y hy => ?_, fun H4 r C s4 nr hC hP => q H4 r C (s3.trans s4) hC ?_⟩
      · cases List.mem_singleton.mp hq
        refine Nat.lt_of_le_of_lt hcn (Nat.pow_lt_pow_right (by decide) ?_)
        have : n * β ≤ 100 * 200 := Nat.mul_le_mul hO.hn hO.hb
        omega
      · cases List.mem_singleton.mp hy
        exact inB_of (fun z hz => addP_mem (hO.rA x hx) rsp hz) hO.fit
      · refine ⟨hP.nd, hP.len, fun x hx z hz => ?_, fun x hx => ?_, fun x hx => ?_, fun j hj => ?_⟩
        · obtain ⟨y, hy, t, ht, e5⟩ := hP.keys x hx
          cases List.mem_singleton.mp ht
          rw [e5] at hz
          exact addP_mem (hO.rA y hy) rsp hz
        · obtain ⟨y, hy, t, ht, e5⟩ := hP.keys x hx
          cases List.mem_singleton.mp ht
          have key : ∀ i : Nat, i ≤ n → addP y.1 (scaleP (i : Int) p) ∈ S i := fun i => by
            induction i with
            | zero =>
              intro _
              have e6 : scaleP ((0 : Nat) : Int) p = zerosP p.length := scaleP_zero p
              rw [e6, addP_comm, addP_zeros (by rw [hA.len y hy, hpl])]
              exact hO.s0 y hy
            | succ i ih =>
              intro hi
              rw [scaleP_succ, ← addP_assoc]
              exact hO.sS i (by omega) _ (ih (by omega)) (p, c) (List.mem_singleton.mpr rfl)
          rw [e5]
          exact key n (Nat.le_refl n)
        · rw [← val_mem2 hP.nd hx, hP.val _ (hP.len x hx), mulF, mulF, Int.add_zero, Int.natAbs_mul]
          have h1 := val_lt hA.nd hO.cA (subP x.1 (scaleP (n : Int) p))
          have h2 : (c ^ n).natAbs * (val A (subP x.1 (scaleP (n : Int) p))).natAbs < 2 ^ (n * β) * 2 ^ α := Nat.lt_of_le_of_lt (Nat.mul_le_mul_right _ hcn) (Nat.mul_lt_mul_of_pos_left h1 (Nat.pow_pos (by decide)))
          rw [← Nat.pow_add] at h2
          refine Nat.lt_of_lt_of_le h2 (Nat.pow_le_pow_right (by decide) ?_)
          rw [Nat.mul_add]
          omega
        · rw [hP.val j hj, powF_one hpl n hj, mulF, mulF, Int.add_zero]
    · dsimp only [tSeq, tAsg, gName, tNext]
      refine ⟨.int (n : Nat), rfl, n, rfl, by have := hO.hn; omega, by have := hO.hn; omega, for_range (lo := 0) (n := n) (fun i σ H' => ∃ (x : Addr) (C : Ts) (y4 : Option V), σ = [some (.ref x), some (.ref b), some (.int (n : Nat)), none, y4] ∧ Same H H' ∧ PkAt H' x w m C ∧ IsPow m A B i RA RB α β S C) ⟨a, A, none, rfl, Same.refl _, hA, IsPow.zero hO hA.nd hA.len⟩ (fun i σ H' hi h => ?_) (fun σ H' h => ?_)⟩
      · obtain ⟨x, C, y4, rfl, s1, hC, hI⟩ := h
        obtain ⟨c1, c2⟩ := hw40 (Nat.le_of_lt hi) hI
        refine ⟨.ref x, rfl, .ref b, rfl, x, b, w, m, C, B, rfl, hC, hB.same s1, c2, hO.lB, c1, hcB, fun y hy z hz => ?_, fun H4 r C' s4 nr hC' hP => ?_⟩
        · refine inB_of (fun u hu => addP_mem (hI.r y hy) (hO.rB z hz) hu) ?_
          have h1 := hO.fit
          have h2 : (i + 1) * RB ≤ n * RB := Nat.mul_le_mul_right _ hi
          rw [Nat.succ_mul] at h2
          omega
        · exact ⟨r, C', _, rfl, s1.trans s4, hC', hI.next hO hi hB.len hP⟩
      · obtain ⟨x, C, y4, rfl, s1, hC, hI⟩ := h
        exact ⟨_, rfl, q H' x C s1 hC hI⟩
end
end NH
set_option Elab.async false
set_option linter.all false
set_option maxRecDepth 100000
set_option maxHeartbeats 1000000
set_option exponentiation.threshold 100000
namespace NH
open PySem PySem.Spec PyProof.Rows L2 R1 ZN PK RS
/-! ### the reach as a number -/
def maxAbs : List Int → Nat
  | [] => 0
  | x :: p => max x.natAbs (maxAbs p)
def reachOf : Ts → Nat
  | [] => 0
  | q :: T => max (maxAbs q.1) (reachOf T)
theorem maxAbs_le : ∀ {p : List Int}, ∀ x ∈ p, x.natAbs ≤ maxAbs p
  | y :: p, x, h => by
    rcases List.mem_cons.mp h with rfl | h
    · exact Nat.le_max_left _ _
    · exact Nat.le_trans (maxAbs_le x h) (Nat.le_max_right _ _)
theorem maxAbs_lub {B : Nat} : ∀ {p : List Int}, (∀ x ∈ p, x.natAbs ≤ B) → maxAbs p ≤ B
  | [], _ => Nat.zero_le _
  | y :: p, h => Nat.max_le.mpr ⟨h y List.mem_cons_self, maxAbs_lub fun x hx => h x (List.mem_cons_of_mem _ hx)⟩
theorem reachOf_le : ∀ {T : Ts}, ∀ q ∈ T, ∀ x ∈ q.1, x.natAbs ≤ reachOf T
  | r :: T, q, h, x, hx => by
    rcases List.mem_cons.mp h with rfl | h
    · exact Nat.le_trans (maxAbs_le x hx) (Nat.le_max_left _ _)
    · exact Nat.le_trans (reachOf_le q h x hx) (Nat.le_max_right _ _)
theorem reachOf_lub {B : Nat} : ∀ {T : Ts}, (∀ q ∈ T, ∀ x ∈ q.1, x.natAbs ≤ B) → reachOf T ≤ B
  | [], _ => Nat.zero_le _
  | r :: T, h => Nat.max_le.mpr ⟨maxAbs_lub (h r List.mem_cons_self), reachOf_lub fun x hx => h x (List.mem_cons_of_mem _ hx)⟩
theorem IsReach.eq {T : Ts} {R : Nat} (h : IsReach T R) : R = reachOf T := Nat.le_antisymm (h.lub _ reachOf_le) (reachOf_lub h.le)
/-- a factor: the pair at u, of the sum at t and n -/
structure Fac where
  u : Addr
  t : Addr
  L : List Trm
  n : Nat
  β : Nat
  S : Nat → List (List Int)
abbrev Fac.T (F : Fac) : Ts := F.L.map Trm.d
def Fac.r (F : Fac) : Nat := reachOf F.T * F.n
structure FacOk (m : Nat) (F : Fac) : Prop where
  ne : F.L ≠ []
  good : Good m F.T
  len : F.L.length ≤ 1000
  n1 : 1 ≤ F.n
  n2 : F.n ≤ 100
  cB : ∀ q ∈ F.T, q.2.natAbs < 2 ^ F.β
  hb : F.β ≤ 200
  sS : ∀ i, i < F.n → ∀ x ∈ F.S i, ∀ q ∈ F.T, addP x q.1 ∈ F.S (i + 1)
  sl : ∀ i, i ≤ F.n → (F.S i).length ≤ 1000
structure FacAt (H : Hp) (F : Fac) : Prop where
  at_ : H F.u = some (.tup [.ref F.t, .int (F.n : Nat)])
  sum : SumAt H F.t F.L
theorem FacAt.same {H H' : Hp} {F : Fac} (h : FacAt H F) (s : Same H H') : FacAt H' F := ⟨s _ _ h.at_, h.sum.same s⟩
/-- the numbers along a row of factors -/
def rSum' (fs : List Fac) : Nat := (fs.map Fac.r).sum
def bSum (fs : List Fac) : Nat := (fs.map fun F => F.n * (F.β + 10)).sum
def gFold (m : Nat) (fs : List Fac) : List Int → Int := fs.foldl (fun G F => powF G F.T F.n) (val [(zerosP m, 1)])
/-- where the powers of each product begin and end -/
def sLinked (m : Nat) (S : Nat → List (List Int)) (fs : List Fac) : Prop := zerosP m ∈ S 0 ∧ ∀ i F, fs[i]? = some F → (∀ x ∈ S i, x ∈ F.S 0) ∧ (∀ x ∈ F.S F.n, x ∈ S (i + 1))
theorem sum_take {α : Type} {g : α → Nat} {l : List α} {i : Nat} {x : α} (h : l[i]? = some x) : ((l.take (i + 1)).map g).sum = ((l.take i).map g).sum + g x := by
  rw [List.take_add_one, h, List.map_append, List.sum_append]
  simp
theorem sum_take_le {α : Type} (g : α → Nat) : ∀ (l : List α) (i : Nat), ((l.take i).map g).sum ≤ (l.map g).sum
  | [], i => by simp
  | x :: l, 0 => by simp
  | x :: l, i + 1 => by
    rw [List.take_succ_cons, List.map_cons, List.map_cons, List.sum_cons, List.sum_cons]
    exact Nat.add_le_add_left (sum_take_le g l i) _
theorem good_nodup {m : Nat} {T : Ts} (h : Good m T) : NodupK T := by
  unfold NodupK
  rw [List.Nodup, List.pairwise_map]
  exact h.2.imp fun h => lex_ne h
theorem keyB_zeros (b : Nat) : ∀ m, keyB b (zerosP m) = 0
  | 0 => rfl
  | m + 1 => by
    show 0 * 2 ^ _ + keyB b (zerosP m) = 0
    rw [keyB_zeros b m, Int.zero_mul, Int.zero_add]
section
variable {P : Program} {w : World} {K : PySem.W.Frag} {mg : Str → Option Value} {base : Heap} {f : Nat → Addr} {d : Nat → FuncData}
def spProd : Sp := fun vs H Q _ => ∃ (l : Addr) (m : Nat) (fs : List Fac) (S : Nat → List (List Int)), vs = [.ref l, .int (m : Nat)] ∧ H l = some (.lst (fs.map fun F => V.ref F.u)) ∧ (∀ F ∈ fs, FacAt H F) ∧ (∀ F ∈ fs, FacOk m F) ∧ 0 < m ∧ m ≤ 400 ∧ fs.length ≤ 1000 ∧
  rSum' fs < 2 ^ 20 ∧ 1 + bSum fs ≤ 40000 ∧ sLinked m S fs ∧ (S fs.length).length ≤ 1000 ∧
  ∀ H' (t : Addr) (L : List Trm) (C : Ts), Same H H' → H t = none → SumAt H' t L → NodupK C → (∀ q ∈ C, q.1.length = m) → (∀ q ∈ C, q.1 ∈ S fs.length) → (∀ j : List Int, j.length = m → val C j = gFold m fs j) → Norm C (L.map Trm.d) → L.length ≤ 1000 → Q (.ref t) H'
theorem ok_prod {k : Nat} (D : Defs K mg f d) : FnOk P w K mg base CX0 (k + 3) (f i_product_of) (d i_product_of) ["factors", "many"] spProd := by
  have G_reach_of : FnOk P w K mg base CX0 (k + 2) (f i_reach_of) (d i_reach_of) ["told"] spReach := (ok_reach (k := k) D).mono (by omega)
  have G_width_for : FnOk P w K mg base CX0 (k + 2) (f i_width_for) (d i_width_for) ["reach"] spWidth := (ok_width (k := k) D).mono (by omega)
  have G_packed : FnOk P w K mg base CX0 (k + 2) (f i_packed) (d i_packed) ["told", "bits"] spPacked := (ok_packed (k := k) D).mono (by omega)
  have G_packed_by_power : FnOk P w K mg base CX0 (k + 2) (f i_packed_by_power) (d i_packed_by_power) ["terms", "factor", "times"] spPB := ok_pbp D
  have G_unpacked : FnOk P w K mg base CX0 (k + 2) (f i_unpacked) (d i_unpacked) ["terms", "many", "bits"] spUnpacked := ok_unpacked D
  refine D.F_product_of.ok sc_product_of (fun vs H Q E h => ?_) (fun cdv A outer s H vs Q E hr h => ?_)
  · obtain ⟨l, m, fs, S, rfl, _⟩ := h
    rfl
  · obtain ⟨l, m, fs, S, rfl, hl, hFa, hFo, hm0, hm, hfl, hrs, hbs, hS, hSl, q⟩ := h
    have nd := sc_product_of.nd
    have hu := hu_of hr
    refine ⟨_, pss_cons (ps_set (i := 4) nd rfl (.inl rfl) (pe_call G_width_for hr (by rfl) D.g_width_for D.F_width_for.kp D.b_width_for .nil pass0 (pa_cons (pe_callB (cr_sum rfl) (by rfl) D.z_sum (by decide +kernel) (pa_cons (pe_lc (own := [("told", 2), ("times", 3)]) (g := (gTup K 2 (gCons (gName 2) (gCons (gName 3) gNil)))) (by rfl) nd (pi_list (pv 0)) (blkOk_by (own := [("told", 2), ("times", 3)]) (N := N_product_of) (sc := defScope s_product_of) (by decide +kernel))
          (fun _ _ _ _ _ => pg_tup rfl (pgs_cons (pg_name (i := 2) nd rfl (.inl rfl)) (pgs_cons (pg_name (i := 3) nd rfl (.inl rfl)) pgs_nil))) (fun _ _ _ _ _ => pts_nil) (fun _ _ _ _ _ => pe_op op_mulX (pe_call G_reach_of hr (by rfl) D.g_reach_of D.F_reach_of.kp D.b_reach_of .nil pass0 (pa_cons (pv 2) pa_nil)) (pv 3))) pa_nil)) pa_nil)))
      (pss_cons (ps_set (i := 5) nd rfl (.inl rfl) (pe_disp (pps_cons pe_int pe_int pps_nil) (by rfl) (by rfl) (fun z => by cases z) (by decide)))
      (pss_cons (ps_for PassesOwn.never rfl (pi_list (pv 0)) (pg_tup rfl (pgs_cons (pg_name (i := 2) nd rfl (.inl rfl)) (pgs_cons (pg_name (i := 3) nd rfl (.inl rfl)) pgs_nil)))
        (pss_one (ps_set (i := 5) nd rfl (.inl rfl) (pe_call G_packed_by_power hr (by rfl) D.g_packed_by_power D.F_packed_by_power.kp D.b_packed_by_power .nil pass0 (pa_cons (pv 5) (pa_cons (pe_call G_packed hr (by rfl) D.g_packed D.F_packed.kp D.b_packed .nil pass0 (pa_cons (pv 2) (pa_cons (pv 4) pa_nil))) (pa_cons (pv 3) pa_nil)))))))
      (pss_one (ps_ret (pe_call G_unpacked hr (by rfl) D.g_unpacked D.F_unpacked.kp D.b_unpacked .nil pass0 (pa_cons (pv 5) (pa_cons (pv 1) (pa_cons (pv 4) pa_nil)))))))), ?_⟩
    have rle : ∀ {i : Nat} {F : Fac}, fs[i]? = some F → F.r ≤ rSum' fs := fun {i F} h => by
      have h1 := sum_take (g := Fac.r) h
      have h2 := sum_take_le Fac.r fs (i + 1)
      unfold rSum'
      omega
    refine ⟨.ref l, rfl, l, rfl, ⟨_, sqlOf hl⟩, fun E nE => ?_⟩
    refine lc_list (xs := fs.map fun F => V.ref F.u) (fun j H' => H' E = some (.lst ((((fs.take j).map Fac.r).map fun n : Nat => (n : Int)).map V.int)) ∧ But E H H') ⟨upd_same, But.start⟩ (fun j H' _ h => sqlOf (h.2.at_ nE hl)) (fun j x H1 hx h => ?_) (fun H1 h => ?_)
    · obtain ⟨hE, kp⟩ := h
      rw [List.getElem?_map] at hx
      obtain ⟨F, hF, rfl⟩ := Option.map_eq_some_iff.mp hx
      have hFm := List.mem_of_getElem? hF
      have hjl := (List.getElem?_eq_some_iff.mp hF).1
      have s1 := kp.same nE
      have fo := hFo F hFm
      have fa := (hFa F hFm).same s1
      refine ⟨F.u, _, rfl, sqtOf fa.at_, rfl, _, _, rfl, _, _, rfl, rfl, rfl, ?_⟩
      refine ⟨.ref F.t, rfl, F.t, m, F.L, rfl, fa.sum, by have := fo.len; omega, fo.ne, hm0, by omega, fo.good.len, fun H2 R s2 hR => ?_⟩
      have eR := hR.eq
      subst eR
      have hFr := rle hF
      have hR2 : reachOf F.T < 2 ^ 20 := by
        have : reachOf F.T * 1 ≤ F.r := Nat.mul_le_mul_left _ fo.n1
        omega
      refine ⟨.int (F.n : Nat), rfl, _, _, rfl, rfl, mulx (a := 20) (b := 20) (by rw [Int.natAbs_natCast]; exact hR2) (by rw [Int.natAbs_natCast]; have := fo.n2; omega) (by decide), _, s2 _ _ hE, ?_, ?_, (kp.then s2).step (Same.refl _)⟩
      · rw [List.length_map, List.length_map, List.length_map, List.length_take, sizeLine_eq]
        omega
      · rw [upd_same, List.take_add_one, hF, List.map_append, List.map_append, List.map_append]
        show _ = some (HO.lst (_ ++ [V.int ((F.r : Nat) : Int)]))
        unfold Fac.r
        rw [Int.natCast_mul]
    · obtain ⟨hE, kp⟩ := h
      have s1 := kp.same nE
      rw [List.length_map, List.take_length] at hE
      refine ⟨E, _, rfl, sqlOf hE, ?_⟩
      have esum : ∀ ns : List Nat, (ns.map fun n : Nat => (n : Int)).sum = ((ns.sum : Nat) : Int) := fun ns => by
        induction ns with
        | nil => rfl
        | cons n ns ih => rw [List.map_cons, List.sum_cons, List.sum_cons, ih, Int.natCast_add]
      rw [esum]
      refine ⟨rSum' fs, rfl, fun b hb hbn => ?_⟩
      have hb20 : b ≤ 20 := hbn 20 hrs
      dsimp only [tSeq, tAsg, gName, tNext]
      refine fun e ne => ?_
      refine ⟨upd_same, [(Sum.inl 0, .int 1)], rfl, by show 1 ≤ 15; decide, ?_⟩
      have eM : mergeK [] [((Sum.inl 0 : Key), V.int 1)] = [(Sum.inl 0, V.int 1)] := rfl
      rw [eM, upd_upd']
      have s2 := same_new (o := .dK [((Sum.inl 0 : Key), V.int 1)]) ne
      have he2 : upd H1 e (.dK [((Sum.inl 0 : Key), V.int 1)]) e = some (.dK [((Sum.inl 0 : Key), V.int 1)]) := upd_same
      have s12 := s1.trans s2
      generalize upd H1 e (.dK [((Sum.inl 0 : Key), V.int 1)]) = H2 at s2 he2 s12
      have hw2 : ∀ R : Nat, R ≤ rSum' fs → 2 * R + 2 ≤ 2 ^ (b + 1) := fun R h => by
        rw [Nat.pow_succ]
        omega
      have hP0 : PkAt H2 e (b + 1) m [(zerosP m, 1)] := by
        refine ⟨⟨?_, ?_⟩, ?_, fun q hq => ?_, fun q hq => ?_⟩
        · rw [he2]
          show _ = some (HO.dK [(Sum.inl (keyB (b + 1) (zerosP m)), V.int 1)])
          rw [keyB_zeros]
        · exact List.nodup_cons.mpr ⟨by simp, List.nodup_nil⟩
        · exact List.nodup_cons.mpr ⟨by simp, List.nodup_nil⟩
        · cases List.mem_singleton.mp hq
          exact List.length_replicate ..
        · cases List.mem_singleton.mp hq
          exact Int.one_ne_zero
      have hl2 := s12 _ _ hl
      have hwm : (b + 1) * m ≤ 10000 := by
        have : (b + 1) * m ≤ 21 * 400 := Nat.mul_le_mul (by omega) hm
        omega
      refine ⟨.ref l, rfl, l, rfl, ⟨_, sqlOf hl2⟩, for_list (xs := fs.map fun F => V.ref F.u) (fun i σ H' => ∃ (x : Addr) (C : Ts) (y2 y3 : Option V), σ = [some (.ref l), some (.int (m : Nat)), y2, y3, some (.int ((b + 1 : Nat) : Int)), some (.ref x)] ∧ Same H2 H' ∧ PkAt H' x (b + 1) m C ∧ (∀ q ∈ C, ∀ x ∈ q.1, x.natAbs ≤ rSum' (fs.take i)) ∧ (∀ q ∈ C, q.1 ∈ S i) ∧ (∀ q ∈ C, q.2.natAbs < 2 ^ (1 + bSum (fs.take i))) ∧ (∀ j : List Int, j.length = m → val C j = gFold m (fs.take i) j))
        ⟨e, [(zerosP m, 1)], none, none, rfl, Same.refl _, hP0, fun q hq x hx => ?_, fun q hq => ?_, fun q hq => ?_, fun j _ => rfl⟩ (fun i σ H' _ h => ?_) (fun i x σ H' hx h => ?_) (fun σ H' h => ?_)⟩
      · cases List.mem_singleton.mp hq
        have := List.eq_of_mem_replicate hx
        subst this
        exact Nat.zero_le _
      · cases List.mem_singleton.mp hq
        exact hS.1
      · cases List.mem_singleton.mp hq
        exact Nat.lt_of_lt_of_le (by decide : 1 < 2 ^ 1) (Nat.pow_le_pow_right (by decide) (by omega))
      · obtain ⟨_, _, _, _, _, s, _⟩ := h
        exact sqlOf (s _ _ hl2)
      · obtain ⟨x0, C, y2, y3, rfl, s3, hC, hr3, hk3, hc3, hv3⟩ := h
        rw [List.getElem?_map] at hx
        obtain ⟨F, hF, rfl⟩ := Option.map_eq_some_iff.mp hx
        have hFm := List.mem_of_getElem? hF
        have fo := hFo F hFm
        have s23 := s12.trans s3
        have fa := (hFa F hFm).same s23
        have hFr := rle hF
        have hRF : reachOf F.T ≤ rSum' fs := by
          have : reachOf F.T * 1 ≤ F.r := Nat.mul_le_mul_left _ fo.n1
          omega
        have hboxF : Box (b + 1) m F.T := fun q hq => ⟨(fo.good.1 q hq).1, inB_of (fun x hx => reachOf_le q hq x hx) (hw2 _ hRF)⟩
        refine ⟨F.u, _, rfl, sqtOf fa.at_, rfl, _, _, rfl, _, _, rfl, rfl, ?_⟩
        refine ⟨.ref x0, rfl, .ref F.t, rfl, .int ((b + 1 : Nat) : Int), rfl, F.t, m, b + 1, F.L, rfl, fa.sum, by have := fo.len; omega, hwm, by omega, good_nodup fo.good, hboxF, fun H4 g s4 ng hg => ?_⟩
        have hPF : PkAt H4 g (b + 1) m F.T := ⟨hg, good_nodup fo.good, fun q hq => (fo.good.1 q hq).1, fun q hq => (fo.good.1 q hq).2⟩
        have e1 : rSum' (fs.take (i + 1)) = rSum' (fs.take i) + F.r := sum_take hF
        have e2 : bSum (fs.take (i + 1)) = bSum (fs.take i) + F.n * (F.β + 10) := sum_take (g := fun F : Fac => F.n * (F.β + 10)) hF
        have l1 : rSum' (fs.take (i + 1)) ≤ rSum' fs := sum_take_le Fac.r fs (i + 1)
        have l2 : bSum (fs.take (i + 1)) ≤ bSum fs := sum_take_le (fun F : Fac => F.n * (F.β + 10)) fs (i + 1)
        obtain ⟨k1, k2⟩ := hS.2 i F hF
        have hO : PowOk m (b + 1) C F.T F.n (rSum' (fs.take i)) (reachOf F.T) (1 + bSum (fs.take i)) F.β F.S :=
          { rA := hr3
            rB := reachOf_le
            fit := hw2 _ (by unfold Fac.r at e1; rw [Nat.mul_comm] at e1; omega)
            fitB := hw2 _ hRF
            s0 := fun q hq => k1 _ (hk3 q hq)
            sS := fo.sS
            sl := fo.sl
            cA := hc3
            cB := fo.cB
            lB := by rw [List.length_map]; exact fo.len
            bits := by omega
            hb := fo.hb
            hn := fo.n2 }
        refine ⟨.int (F.n : Nat), rfl, x0, g, b + 1, m, C, F.T, F.n, _, _, _, _, F.S, rfl, hC.same s4, hPF, hO, hwm, fun H5 y C' s5 hC' hI => ?_⟩
        refine ⟨y, C', _, _, rfl, (s3.trans s4).trans s5, hC', fun q hq x hx => ?_, fun q hq => k2 _ (hI.keys q hq), fun q hq => ?_, fun j hj => ?_⟩
        · have := hI.r q hq x hx
          rw [e1]
          unfold Fac.r
          rw [Nat.mul_comm (reachOf _)]
          exact this
        · have := hI.coef q hq
          rw [e2, ← Nat.add_assoc]
          exact this
        · rw [hI.val j hj]
          unfold gFold
          rw [List.take_add_one, hF, List.foldl_append]
          show _ = powF (gFold m (fs.take i)) F.T F.n j
          have hcg : ∀ (n : Nat) {j : List Int}, j.length = m → powF (val C) F.T n j = powF (gFold m (fs.take i)) F.T n j := fun n => by
            induction n with
            | zero => exact fun {j} hj => hv3 j hj
            | succ n ih => exact fun {j} hj => mulF_congr (fun k hk => ih hk) (fun q hq => (fo.good.1 q hq).1) hj
          exact hcg F.n hj
      · obtain ⟨x0, C, y2, y3, rfl, s3, hC, hr3, hk3, hc3, hv3⟩ := h
        rw [List.length_map] at hr3 hk3 hc3 hv3
        rw [List.take_length] at hr3 hv3
        have hCl : C.length ≤ 1000 := Nat.le_trans (keys_le hC.nd hk3) hSl
        have hbox : Box (b + 1) m C := fun q hq => ⟨hC.len q hq, inB_of (hr3 q hq) (hw2 _ (Nat.le_refl _))⟩
        refine ⟨.ref x0, rfl, .int (m : Nat), rfl, .int ((b + 1 : Nat) : Int), rfl, x0, m, b + 1, C, rfl, hC.at_, hC.nd, hbox, hC.nz, by omega, by omega, by omega, hwm, by omega, fun H4 t L s4 nt hSt hN hLl => ?_⟩
        exact q H4 t L C ((s12.trans s3).trans s4) ((s12.trans s3).free nt) hSt hC.nd hC.len hk3 hv3 hN (by omega)
end
end NH
set_option Elab.async false
set_option linter.all false
set_option maxRecDepth 100000
set_option maxHeartbeats 4000000
/-! a lambda with parameters and captured names, handed to a def that calls it -/
namespace LamQ
open PySem PySem.Spec PyProof.Rows L2 LamX NdefX
theorem cells_un {F : List Addr} {cl : List (Str × Addr)} {fr : List Str} {ws : List (Option V)} {H HZ : Hp} {h h1 : Heap} (C : CellsAt cl fr ws h H) (un : Un F [] H HZ h h1) : CellsAt cl fr ws h1 HZ := by
  have cellK : ∀ {c : Addr} {v : Option Value}, H c = none → h.IsCell c v → h1.IsCell c v := fun {c v} n ⟨o, ho, hd⟩ => by
    obtain ⟨sl, q⟩ := un.any ho n (by simp)
    exact ⟨_, q, hd⟩
  refine ⟨C.len, fun y c e => ?_, C.inj, fun i y e => ?_⟩
  · obtain ⟨n, v, z⟩ := C.all y c e
    refine ⟨?_, v, cellK n z⟩
    obtain ⟨o, ho, _⟩ := z
    exact un.free c o ho n (by simp)
  · obtain ⟨c, hc, hv⟩ := C.has i y e
    refine ⟨c, hc, fun v ev => ?_⟩
    obtain ⟨u, r, z⟩ := hv v ev
    exact ⟨u, r, cellK (C.all y c hc).1 z⟩
/-- the lambda's words, as a nested function's (its body is told apart) -/
abbrev lamF (q : Str) (params : Arguments) (scope : Scope) (cl : List (Str × Addr)) (c' : Addr) : NF := ⟨"<lambda>", q, params, [], scope, cl, c'⟩
section
variable {CX : CXT} {P : Program} {w : World} {K : PySem.W.Frag} {mg : Str → Option Value} {base : Heap} {N ps fr : List Str} {q : Str} {params : Arguments} {body : Expr} {scope : Scope} {cl : List (Str × Addr)} {pm ctv : Value} {f c' : Addr} {A : Around} {outer : List Env} {s : Shared} {H : Hp} {E : XK} {us : List Value} {vs : List V}
  {ws : List (Option V)} {k : Nat} {Q : VK} {te : TE}
theorem lam_run (S : NScope N ps fr scope) (hr : Room (k + 1) A) (e0 : Env0 P w K mg base A outer s H) (ho : s.heap.get? f = some (PySem.W.kla_obj "<lambda>" q params body scope cl pm c' ctv)) (hb : bindArgs (PySem.W.kla_fn "<lambda>" q params body scope cl pm (.ref c') ctv) ⟨us, []⟩ = pure (ps.zip us))
    (hc : H c' = some (CodeO c' q)) (C : CellsAt cl fr ws s.heap H) (r : Vals vs us) (hl : vs.length = ps.length)
    (hbody : Room k (A.deeper (envF (lamF q params scope cl c') f s.heap.objs.size)) → PE (ncx CX P w K mg base N (lamF q params scope cl c') f A outer s H E) body te) (hq : te (startF N vs ws) H Q) :
    codeAny (model P w) A (.call (.ref f) ⟨us, []⟩) (CR CX outer P w H s Q E) s := by
  have lim : s.heap.NoLimit := e0.mod.nolimit.keeps fun b o e => (e0.bs b o e).1
  refine PySem.W.kla_callFunE hr.depth ho rfl S.co S.gen rfl (codeO_at e0.hok hc) ?_
  rw [hb]
  refine wpAny_pure (wpAny_newFunctionEnv S.nocell (fun ⟨n, _⟩ hy => S.par n (List.of_mem_zip hy).1) (fun h₁ hns hsb => ⟨lim.fresh _ hsb, ?_⟩) S.kind)
  show codeAny _ _ (.expr body (envF (lamF q params scope cl c') f s.heap.objs.size)) _ _
  have kp : ∀ b o, s.heap.get? b = some o → h₁.get? b = some o := fun b o e => hsb.extBut b o (Nat.ne_of_lt (Heap.lt_size e)) (Heap.get?_push_of_some _ e)
  have I : Inv (ncx CX P w K mg base N (lamF q params scope cl c') f A outer s H E) [] (startF N vs ws) H { s with heap := h₁, toks := s.toks + (ps.zip us).length } := inv_startN (F := lamF q params scope cl c') S hr.hd e0 hl r C hns kp
  refine PySem.W.kla_codeExpr (wpAny_mono ((hbody (hr.deeper _)).run [] _ _ H Q I hq) (fun v s' hs => ?_) fun e s' hs => hs)
  obtain ⟨w', H', J, rv, q'⟩ := hs
  exact ⟨w', H', J.os, J.bare, J.base, J.hok, rv, q'⟩
end
section
variable {CX CXg : CXT} {P : Program} {w : World} {K : PySem.W.Frag} {mg : Str → Option Value} {base : Heap} {N ps fr : List Str} {q : Str} {params : Arguments} {body : Expr} {scope : Scope} {cl : List (Str × Addr)} {pm ctv : Value} {f c' : Addr} {A : Around} {outer : List Env} {s : Shared} {H : Hp} {E Eg : XK}
  {ws : List (Option V)} {k i : Nat} {te : TE} {Ng : List Str} {qg : Str} {sg : Scope} {g : Addr} {cdg : Value} {a : Str} {e : Expr} {es : List Expr} {t : TA} {p1 p2 : Pos}
/-- a(..) in the def that got the lambda -/
theorem pe_act1 (hf : s.heap.get? f = some (PySem.W.kla_obj "<lambda>" q params body scope cl pm c' ctv)) (hfn : H f = none) (hfr : f ∉ frs outer) (C : CellsAt cl fr ws s.heap H) (S : NScope N ps fr scope)
    (hbind : ∀ us : List Value, us.length = ps.length → bindArgs (PySem.W.kla_fn "<lambda>" q params body scope cl pm (.ref c') ctv) ⟨us, []⟩ = pure (ps.zip us))
    (hx : Passes CX (cxOf CXg P w K mg base Ng qg sg g cdg A outer s H Eg).nox E) (hr : Room (k + 1) (A.deeper (envOfC qg sg s.heap.objs.size g cdg)))
    (hbody : ∀ (A : Around) (outer : List Env) (s : Shared) (H : Hp), Room k (A.deeper (envF (lamF q params scope cl c') f s.heap.objs.size)) → PE (ncx CX P w K mg base N (lamF q params scope cl c') f A outer s H E) body te)
    (hN : Ng[i]? = some a) (hv : Vis sg a) (ha : PA (cxOf CXg P w K mg base Ng qg sg g cdg A outer s H Eg).nox (e :: es) t) (hd : (a == ("__debug__" : Str)) = false := by decide) (hcd : (a == ("__classdict__" : Str)) = false := by decide)
    (he : starEach (e :: es) (cxOf CXg P w K mg base Ng qg sg g cdg A outer s H Eg).nox.env = (false, eval e (cxOf CXg P w K mg base Ng qg sg g cdg A outer s H Eg).nox.env) :: starEach es (cxOf CXg P w K mg base Ng qg sg g cdg A outer s H Eg).nox.env := by rfl) (hpl : (backTo p2 (starEach es (cxOf CXg P w K mg base Ng qg sg g cdg A outer s H Eg).nox.env)).any (·.1) = false := by rfl) :
    PE (cxOf CXg P w K mg base Ng qg sg g cdg A outer s H Eg).nox (.Call (.Name a p1) (e :: es) [] p2)
      (fun σZ HZ Q => σZ[i]? = some (some (.ref f)) ∧ t σZ HZ fun vs H1 => vs.length = ps.length ∧ H1 c' = some (CodeO c' q) ∧ te (startF N vs ws) H1 Q) := by
  refine ⟨fun pinsZ sZ σZ HZ Q IZ h => ?_⟩
  obtain ⟨hs, ht⟩ := h
  refine wpAny_Call_Name_kw (thn ((pe_var (pos := p1) (i := i) hN hv hd hcd).run pinsZ sZ σZ HZ (fun v H1 => v = .ref f ∧ H1 = HZ) IZ ⟨.ref f, hs, rfl, rfl⟩) fun u s1 ⟨v, H1, I1, r1, q1⟩ => ?_)
  obtain ⟨ev, eH⟩ := q1
  subst ev
  rw [eH] at I1
  obtain rfl : u = Value.ref f := r1
  have ofA : ∀ {HX : Hp} {sX : Shared}, Un (frs outer) [] H HX s.heap sX.heap → sX.heap.get? f = some (PySem.W.kla_obj "<lambda>" q params body scope cl pm c' ctv) := fun un => un.keep f _ hf hfn hfr (fun z => nomatch (show f ∈ ([] : List Addr) from z))
  have un1 : Un (frs outer) [] H HZ s.heap s1.heap := I1.base
  refine PySem.W.callWith_F (first := []) ⟨_, _, _, _, ofA un1⟩ (thn (ha.run p2 pinsZ s1 σZ HZ _ I1 ht) fun us s2 ⟨vs, H2, I2, r, h1, h2, q2⟩ => ?_) he hpl
  have un2 : Un (frs outer) [] H H2 s.heap s2.heap := I2.base
  refine ⟨⟨_, _, _, _, ofA un2⟩, ?_⟩
  show wpAny _ _ (call (.ref f) us) _ _ _
  have rc := lam_run (CX := CX) (E := E) (Q := Q) S hr I2.env0 (ofA un2) (hbind us (by rw [← r.length]; exact h1)) h2 (cells_un C un2) r h1 (fun hr2 => hbody _ _ _ _ hr2) q2
  refine wpAny_call (codeAny_mono rc fun r' s' hq => ?_)
  cases r' with
  | error e => exact hx pinsZ σZ H2 s2 e s' I2 hq
  | ok fl =>
    cases fl with
    | ret u => exact I2.after hq
    | next => exact False.elim hq
    | brk => exact False.elim hq
    | cont => exact False.elim hq
end
/-- the def that calls what it got with one argument: a (at ia) calls it; TT: what it makes of the lambda's reading -/
def GivesTo1 (X : Cx) (CX : CXT) (E : XK) (Ng : List Str) (x : Str) (sg : Scope) (g : Addr) (cdg : Value) (bg : List Stmt) (a : Str) (ia np kk : Nat) (q : Str) (TT : V → (List V → Hp → VK → Prop) → Hp → VK → Prop) : Prop :=
  ∀ (f c' : Addr) (v1 : V) (s : Shared) (H : Hp) (Q : VK) (tl : List V → Hp → VK → Prop), Room kk (X.A.deeper (envOfC x sg s.heap.objs.size g cdg)) →
    (∀ (e : Expr) (t : TA) (p1 p2 : Pos), PA (cxOf CX X.prog X.w X.K X.mg X.base Ng x sg g cdg X.A X.stack s H E).nox [e] t → starEach [e] (cxOf CX X.prog X.w X.K X.mg X.base Ng x sg g cdg X.A X.stack s H E).nox.env = [(false, eval e (cxOf CX X.prog X.w X.K X.mg X.base Ng x sg g cdg X.A X.stack s H E).nox.env)] →
      PE (cxOf CX X.prog X.w X.K X.mg X.base Ng x sg g cdg X.A X.stack s H E).nox (.Call (.Name a p1) [e] [] p2) (fun σZ HZ Q => σZ[ia]? = some (some (.ref f)) ∧ t σZ HZ fun vs H1 => vs.length = np ∧ H1 c' = some (CodeO c' q) ∧ tl vs H1 Q)) →
    H c' = some (CodeO c' q) → TT v1 tl H Q →
    ∃ t, PSs (cxOf CX X.prog X.w X.K X.mg X.base Ng x sg g cdg X.A X.stack s H E).nox bg t ∧ t { nx := fun _ H' => Q .non H', rt := Q } (L2.start Ng [v1, .ref f]) H
def tLam1 (T : List (Addr × Str)) (TT : V → (List V → Hp → VK → Prop) → Hp → VK → Prop) (t1 : TE) (tl : L2.St → List V → Hp → VK → Prop) : TE := fun σ H Q => t1 σ H fun v1 H0 => Tabs T H0 ∧ ∀ H1, ExtN H0 H1 → Tabs T H1 → TT v1 (tl σ) H1 Q
section
variable {X : Cx}
/-- x(e1, lambda p: body) -/
theorem pe_lamcall1 {T : List (Addr × Str)} {TT : V → (List V → Hp → VK → Prop) → Hp → VK → Prop} {x a a1 : Str} {g c P : Addr} {k ia : Nat} {pg : Arguments} {bg : List Stmt} {sg : Scope} {dV kV doc pm cdv ct oc : Value} {an od : Option Addr} {osl : Array (Option Value)} {Ng N ps fr : List Str} {js : List Nat}
    {params : Arguments} {body : Expr} {scope : Scope} {e1 : Expr} {t1 te : TE} {p lpos pos : Pos} {CX CXl : CXT} {E El : XK} (hg : Gl X x) (hm : X.mg x = some (.ref g)) (hk : PySem.W.keepIn X.K (.ref g) = true)
    (lk : X.K.lookup g = some ⟨oc, od, .func (PySem.W.fnOf x x pg bg sg dV kV doc pm an cdv ct), osl⟩) (hcg : PySem.W.codeIn X.K cdv x = true) (hb : L2.Binds X.K (PySem.W.fnOf x x pg bg sg dV kV doc pm an cdv ct) [a1, a] []) (Sg : FnScope Ng [a1, a] sg) (hNg : Ng[ia]? = some a) (hva : Vis sg a)
    (hG : GivesTo1 X CX E Ng x sg g cdv bg a ia ps.length (k + 1) (X.env.qual ++ "<lambda>") TT)
    (TB : TabB X.base X.mg c P) (hcode : X.env.code = .ref c) (hmT : (P, X.env.qual ++ "<lambda>") ∈ T) (hu : ∀ p ∈ T, p.1 = P → p.2 = X.env.qual ++ "<lambda>") (hr : Room (k + 2) X.A) (hdef : defaultsOf params X.env = ([], []))
    (S : NScope N ps fr scope) (hfree : ∀ y ∈ scope.names, y.2 = .free → X.env.scope.names.lookup y.1 = some .cell ∨ X.env.scope.names.lookup y.1 = some .free) (hfr : ∀ y ∈ fr, (y, NameKind.free) ∈ scope.names) (hjs : js.map (fun j => X.N[j]?) = fr.map some)
    (hbind : ∀ (q : Str) (cl : List (Str × Addr)) (pm cv ctv : Value) (us : List Value), us.length = ps.length → bindArgs (PySem.W.kla_fn "<lambda>" q params body scope cl pm cv ctv) ⟨us, []⟩ = pure (ps.zip us))
    (hbody : ∀ (A : Around) (outer : List Env) (s : Shared) (H : Hp) (f c' : Addr) (cl : List (Str × Addr)), Room k (A.deeper (envF (lamF (X.env.qual ++ "<lambda>") params scope cl c') f s.heap.objs.size)) → PE (ncx CXl X.prog X.w X.K X.mg X.base N (lamF (X.env.qual ++ "<lambda>") params scope cl c') f A outer s H El) body te)
    (hxl : ∀ Z : Cx, Passes CXl Z El) (hx : Passes CX X E) (h1 : PE X e1 t1) (he : starEach [e1, .Lambda params body scope lpos] X.env = (false, eval e1 X.env) :: starEach [.Lambda params body scope lpos] X.env)
    (hdb : (x == ("__debug__" : Str)) = false := by decide) (hd : (a == ("__debug__" : Str)) = false := by decide) (hcd : (a == ("__classdict__" : Str)) = false := by decide) :
    PE X (.Call (.Name x p) [e1, .Lambda params body scope lpos] [] pos) (tLam1 T TT t1 fun σ vs H Q => te (startF N vs (js.map (slotAt σ))) H Q) := by
  refine ⟨fun pins s σ H Q I h => ?_⟩
  refine wpAny_Call_Name_kw (ld_glob I hg hm ?_ hdb)
  refine PySem.W.callWith_K (h₀ := X.base) I.ok.mod.kin hk ?_ he (by rfl)
  rw [he]
  show wpAny _ _ (spliced ((false, eval e1 X.env) :: (false, eval (.Lambda params body scope lpos) X.env) :: backTo pos (starEach [] X.env))) _ _ s
  refine Calls.spliced_cons (thn (h1.run pins s σ H _ I h) fun u1 s1 ⟨v1, H0, I0, r1, hT, h2⟩ => ?_)
  have hfc : ∀ y ∈ scope.names, y.2 = .free → ∃ c, X.env.cells.lookup y.1 = some c := fun y hy e => (hfree y hy e).elim (fun z => I0.ok.has _ (.inl z)) fun z => I0.ok.has _ (.inr z)
  refine Calls.spliced_cons (lam_make2 I0 TB hcode hmT hu hT hdef hfc fun f c' pm' ctv H1 s' I1 eN T1 hf hfn hfr2 hco => ?_)
  refine Calls.spliced_nil ⟨I1.kIn, ?_⟩
  have C : CellsAt (cloFrom X.env.cells scope.names []) fr (js.map (slotAt σ)) s'.heap H1 := cells_of I1 (Caps.made I1.ok hfree hfr hjs)
  have rc : codeAny (model X.prog X.w) X.A (.call (.ref g) ⟨[u1, .ref f], []⟩) (CR CX X.stack X.prog X.w H1 s' Q E) s' := by
    refine run_ofS (N := Ng) (ps := [a1, a]) (us := [u1, .ref f]) (vs := [v1, .ref f]) lk hcg Sg hr I1.env0 (hb s' [u1, .ref f] I1.kIn rfl) (.cons r1 (.cons rfl .nil)) rfl fun hr' => ?_
    obtain ⟨t', ht', hq'⟩ := hG f c' v1 s' H1 Q (fun vs H' Q' => te (startF N vs (js.map (slotAt σ))) H' Q') hr' (fun e t p1 p2 ha he2 => pe_act1 (CX := CXl) (E := El) hf hfn hfr2 C S (hbind _ _ _ _ _) (hxl _) hr' (fun A outer s H hr2 => hbody A outer s H f c' _ hr2) hNg hva ha hd hcd he2 (by rfl)) hco (h2 H1 eN T1)
    exact ⟨t', ht'.nox, hq'⟩
  refine wpAny_call (codeAny_mono rc fun r s2 hq => ?_)
  cases r with
  | error e => exact hx pins σ H1 s' e s2 I1 hq
  | ok fl =>
    cases fl with
    | ret u => exact I1.after hq
    | next => exact False.elim hq
    | brk => exact False.elim hq
    | cont => exact False.elim hq
end
section
variable {P : Program} {w : World} {K : PySem.W.Frag} {mg : Str → Option Value} {base : Heap}
/-- a def by its body, its code object known -/
theorem ok_code {x qual : Str} {st : Stmt} {f c : Addr} {fd : FuncData} {N ps : List Str} {k : Nat} {sp : Sp} (F : Fun K x qual st f fd) (hc : fd.code = .ref c) (S : FnScope N ps (defScope st)) (len : ∀ vs H Q E, sp vs H Q E → vs.length = ps.length)
    (hbody : ∀ (A : Around) (outer : List Env) (s : Shared) (H : Hp) (vs : List V) (Q : VK) (E : XK), Room k (A.deeper (envOfC qual (defScope st) s.heap.objs.size f (.ref c))) → sp vs H Q E →
      ∃ t, PSs (cxOf CX0 P w K mg base N qual (defScope st) f (.ref c) A outer s H E).nox (defBody st) t ∧ t { nx := fun _ H' => Q .non H', rt := Q } (start N vs) H) : FnOk P w K mg base CX0 (k + 1) f fd ps sp := by
  obtain ⟨oc, od, kV, doc, pm, an, cdv, ct, osl, rfl, lk, hcd⟩ := F.ex
  have e : cdv = .ref c := hc
  subst e
  refine fn_of lk hcd S len fun A outer s H vs Q E hr hsp => ?_
  obtain ⟨t, h, q⟩ := hbody A outer s H vs Q E hr hsp
  exact ⟨t, h.nox, q⟩
end
end LamQ
set_option Elab.async false
set_option linter.all false
set_option maxRecDepth 100000
namespace NH
open PySem PySem.Spec PyProof.Rows L2 R1 ZN LamX
abbrev sLeastP : Stmt := s_least_powers
abbrev sFreed : Stmt := s_freed
abbrev sSumOf : Stmt := s_sum_of_terms
abbrev sWith : Stmt := s_with_powers
abbrev sWithout : Stmt := s_without_letters
abbrev sOnes : Stmt := s_ones
abbrev sLetterOf : Stmt := s_letter_of
abbrev sLetter : Stmt := s_letter
section
variable {P : Program} {w : World} {K : PySem.W.Frag} {mg : Str → Option Value} {base : Heap}
def spLeastP : Sp := fun vs H Q _ => ∃ (t : Addr) (m : Nat) (L : List Trm), vs = [.ref t] ∧ SumAt H t L ∧ L.length ≤ 4000 ∧ 0 < m ∧ m ≤ 4000 ∧ Good m (L.map Trm.d) ∧
  ∀ H' (p : Addr) (ms : List Int), Same H H' → H p = none → H' p = some (.tup (ms.map V.int)) → IsLeast (L.map Trm.d) (cnt m L) ms → Q (.ref p) H'
abbrev nmLeastP : List Str := ["one"]
theorem scLeastP : FnScope nmLeastP ["one"] (defScope sLeastP) := ⟨rfl, rfl, rfl, by decide +kernel, rfl, by decide +kernel, by decide +kernel⟩
section
variable {fI fC fO fN fL : Addr} {dI dC dO dN dL : FuncData}
theorem ok_leastP {f : Addr} {fd : FuncData} {k : Nat} (F : Fun K "least_powers" "least_powers" sLeastP f fd) (D : Prog K mg fI fC fO fN fL dI dC dO dN dL) : FnOk P w K mg base CX0 (k + 4) f fd ["one"] spLeastP := by
  have GO : FnOk P w K mg base CX0 (k + 3) fO dO ["sums"] (spLettersOf K) := D.lo
  have GE : FnOk P w K mg base CX0 (k + 2) fL dL ["told"] spLeast := D.le
  refine F.ok scLeastP (fun vs H Q E h => ?_) (fun cdv A outer s H vs Q E hr h => ?_)
  · obtain ⟨t, m, L, rfl, _⟩ := h
    rfl
  · obtain ⟨t, m, L, rfl, hS, hL, hm0, hm1, hG, q⟩ := h
    have r2 := hr.mono (show k + 2 ≤ k + 3 by omega)
    refine ⟨_, pss_cons (ps_expr (pe_call GO hr (by rfl) D.gLo D.Lo.kp D.bLo .nil pass0 (pa_cons (pe_lst (pa_cons (pv 0) pa_nil)) pa_nil)))
      (pss_one (ps_ret (pe_call GE r2 (by rfl) D.gLe D.Le.kp D.bLe .nil pass0 (pa_cons (pv 0) pa_nil)))), ?_⟩
    refine ⟨.ref t, rfl, one1, fun l nl => ?_⟩
    have s1 : Same H (upd H l (.lst [.ref t])) := same_new nl
    refine ⟨l, t, m, L, rfl, sqlOf upd_same, hS.same s1, hL, hm0, hG, fun H2 s2 => ?_⟩
    have s12 := s1.trans s2
    refine ⟨.ref t, rfl, t, m, L, rfl, hS.same s12, hL, hm0, hm1, hG.len, fun H3 p ms s3 np hp hI => ?_⟩
    exact q H3 p ms (s12.trans s3) (s12.free np) hp hI
def spFreed : Sp := fun vs H Q _ => ∃ (t : Addr) (m : Nat) (L : List Trm), vs = [.ref t] ∧ SumAt H t L ∧ L.length ≤ 4000 ∧ 0 < m ∧ m ≤ 4000 ∧ Good m (L.map Trm.d) ∧
  ∀ H' (t' : Addr) (ms : List Int) (L' : List Trm), Same H H' → H t' = none → SumAt H' t' L' → IsLeast (L.map Trm.d) (cnt m L) ms → L'.map Trm.d = (L.map Trm.d).map (less ms) → Q (.ref t') H'
abbrev nmFreed : List Str := ["one"]
theorem scFreed : FnScope nmFreed ["one"] (defScope sFreed) := ⟨rfl, rfl, rfl, by decide +kernel, rfl, by decide +kernel, by decide +kernel⟩
theorem ok_freed {f fM : Addr} {fd fdM : FuncData} {k : Nat} (F : Fun K "freed" "freed" sFreed f fd) (FM : Fun K "moved" "moved" sMoved fM fdM) (bM : Binds K fdM ["told", "powers", "sign"] []) (gM : mg "moved" = some (.ref fM)) (D : Prog K mg fI fC fO fN fL dI dC dO dN dL) : FnOk P w K mg base CX0 (k + 4) f fd ["one"] spFreed := by
  have GO : FnOk P w K mg base CX0 (k + 3) fO dO ["sums"] (spLettersOf K) := D.lo
  have GE : FnOk P w K mg base CX0 (k + 2) fL dL ["told"] spLeast := D.le
  have GM : FnOk P w K mg base CX0 (k + 1) fM fdM ["told", "powers", "sign"] spMoved := ok_moved FM D.tuple D.zip
  refine F.ok scFreed (fun vs H Q E h => ?_) (fun cdv A outer s H vs Q E hr h => ?_)
  · obtain ⟨t, m, L, rfl, _⟩ := h
    rfl
  · obtain ⟨t, m, L, rfl, hS, hL, hm0, hm1, hG, q⟩ := h
    have r2 := hr.mono (show k + 2 ≤ k + 3 by omega)
    have r1 := hr.mono (show k + 1 ≤ k + 3 by omega)
    refine ⟨_, pss_cons (ps_expr (pe_call GO hr (by rfl) D.gLo D.Lo.kp D.bLo .nil pass0 (pa_cons (pe_lst (pa_cons (pv 0) pa_nil)) pa_nil)))
      (pss_one (ps_ret (pe_call GM r1 (by rfl) gM FM.kp bM .nil pass0 (pa_cons (pv 0) (pa_cons (pe_call GE r2 (by rfl) D.gLe D.Le.kp D.bLe .nil pass0 (pa_cons (pv 0) pa_nil)) (pa_cons (pe_un un_neg pe_int) pa_nil)))))), ?_⟩
    refine ⟨.ref t, rfl, one1, fun l nl => ?_⟩
    have s1 : Same H (upd H l (.lst [.ref t])) := same_new nl
    refine ⟨l, t, m, L, rfl, sqlOf upd_same, hS.same s1, hL, hm0, hG, fun H2 s2 => ?_⟩
    have s12 := s1.trans s2
    refine ⟨.ref t, rfl, .ref t, rfl, t, m, L, rfl, hS.same s12, hL, hm0, hm1, hG.len, fun H3 p ms s3 np hp hI => ?_⟩
    have s13 := s12.trans s3
    have hml : ms.length ≤ 4000 := by
      rw [hI.1]
      unfold cnt
      split <;> omega
    refine ⟨1, rfl, t, p, ms, L, rfl, hS.same s13, hL, hp, hml, fun r hr => ?_, fun H4 t' L' s4 nt' hS' ed => ?_⟩
    · rw [hG.len r hr, hI.1]
      unfold cnt
      cases L with
      | nil => cases hr
      | cons _ _ => rfl
    · exact q H4 t' ms L' (s13.trans s4) (s13.free nt') hS' hI ed
end
def spNorm : Sp := fun vs H Q _ => ∃ (d : Addr) (m : Nat) (D : Ts), vs = [.ref d] ∧ DictAt H d m D ∧ D.length ≤ 4000 ∧
  ∀ H' (t : Addr) (L : List Trm), Same H H' → H t = none → SumAt H' t L → Norm D (L.map Trm.d) → L.length ≤ D.length → Q (.ref t) H'
abbrev nmSumOf : List Str := ["terms", "powers"]
theorem scSumOf : FnScope nmSumOf ["terms"] (defScope sSumOf) := ⟨rfl, rfl, rfl, by decide +kernel, rfl, by decide +kernel, by decide +kernel⟩
theorem ok_sumOf {f : Addr} {fd : FuncData} {k : Nat} (F : Fun K "sum_of_terms" "sum_of_terms" sSumOf f fd) (mt : mg "tuple" = none) (ms : mg "sorted" = none) : FnOk P w K mg base CX0 (k + 1) f fd ["terms"] spNorm := by
  refine F.ok scSumOf (fun vs H Q E h => ?_) (fun cdv A outer s H vs Q E hr h => ?_)
  · obtain ⟨d, m, D, rfl, _⟩ := h
    rfl
  · obtain ⟨d, m, T, rfl, hT, hTl, q⟩ := h
    have hu := hu_of hr
    refine ⟨_, pss_one (ps_ret (pe_callTy call_tuple_of (by rfl) mt (by decide +kernel) (pa_cons (pe_callB (cr_sortedPT (hu2_of hr)) (by rfl) ms (by decide +kernel) (pa_cons (pe_lock (pe_lc (wi := iKeys (tVar 0)) (own := [("powers", 1)]) (g := gName 1) (tt := tTru K (tDGet (tVar 0) (tVar 1))) (by rfl) scSumOf.nd (pi_keys (pv 0)) (blkOk_by (own := [("powers", 1)]) (N := nmSumOf) (sc := defScope sSumOf) (by decide +kernel))
        (fun _ _ _ _ _ => pg_name (i := 1) scSumOf.nd rfl (.inl rfl)) (fun _ _ _ _ _ => pts_one (pt_truth (pe_dget hu (pv 0) (pv 1) (fun _ _ => rfl)) (by intro _; rfl)))
        (fun _ _ _ _ _ => pe_tup (pa_cons (pv 1) (pa_cons (pe_dget hu (pv 0) (pv 1) (fun _ _ => rfl)) pa_nil))))) pa_nil)) pa_nil))), ?_⟩
    refine ⟨d, _, hT.at_, trivial, fun od => ?_⟩
    have hd0 : upd H d (.frz od (dZ T)) d = some (.frz od (dZ T)) := upd_same
    refine ⟨.ref d, rfl, d, od, rfl, .inr ⟨_, upd_same, fun E nE => ?_⟩⟩
    have dE : d ≠ E := ne_of_none hd0 nE
    refine lc_it (walk_keysT (d := d) (o := od) (kvs := T.map enc)) (fun i H' => ∃ L : List Trm, H' E = some (.lst (L.map Trm.v)) ∧ RowsOk H' L ∧ L.map Trm.d = (T.take i).filter nz ∧ But E (upd H d (.frz od (dZ T))) H') ⟨[], upd_same, (fun r h => by cases h), by simp, But.start⟩ (fun i H' _ h => ?_) (fun i x H' H1 hi h hy => ?_) (fun H1 h => ?_)
    · obtain ⟨_, _, _, _, kp⟩ := h
      exact kp.at_ nE hd0
    · obtain ⟨L, hE, ho, ed, kp⟩ := h
      obtain ⟨rfl, k, v, b, e1, rfl, hb⟩ := hy
      rw [List.getElem?_map] at e1
      obtain ⟨q1, f1, f2⟩ := Option.map_eq_some_iff.mp e1
      have hbk : H1 b = some (.tup (q1.1.map V.int)) := by
        rw [hb, ← map_kV]
        have : k = q1.1.map Sum.inl := by rw [enc] at f2; injection f2 with f2 _; exact f2.symm
        rw [this]
      have hg : DGet H1 d (.ref b) (some (.int q1.2)) := by
        have := DictAt.get (D := T) (k := q1.1) (m := m) (.inr ⟨od, kp.at_ nE hd0⟩) hbk
        rw [(getO_mem hT.nodup).mpr (List.mem_of_getElem? f1)] at this
        exact this
      refine ⟨rfl, .ref d, rfl, .ref b, rfl, d, .int q1.2, rfl, hg, _, rfl, ?_⟩
      by_cases hz : q1.2 = 0
      · rw [hz]
        exact iteF ⟨L, hE, ho, by rw [filter_step f1, if_pos hz, List.append_nil]; exact ed, kp⟩
      · have : (q1.2 != 0) = true := by simp [hz]
        rw [this]
        refine iteT ⟨.ref b, rfl, .ref d, rfl, .ref b, rfl, d, .int q1.2, rfl, hg, size2', fun t nt => ?_⟩
        have sm : Same H1 (upd H1 t (.tup [.ref b, .int q1.2])) := same_new nt
        obtain ⟨g1, g2⟩ := rows_step (D := E) (t := t) (p := b) (ns := q1.1) (c := q1.2) (sm _ _ hE) (ho.keep (same_keepT sm)) upd_same (sm _ _ hbk)
        refine ⟨_, sm _ _ hE, ?_, _, g1, g2, ?_, kp.step sm⟩
        · have := rows_len ed
          have h2 := List.length_filter_le nz (T.take i)
          rw [List.length_take] at h2
          rw [List.length_map, sizeLine_eq]
          omega
        · rw [filter_step f1, if_neg hz, List.map_append, ed]
          rfl
    · obtain ⟨L, hE, ho, ed, kp⟩ := h
      rw [List.length_map, List.take_length] at ed
      refine ⟨kp.at_ nE hd0, ?_⟩
      have sm : Same H (upd H1 d (dZ T)) := fun b o e => by
        by_cases eb : b = d
        · subst eb
          rw [hT.at_] at e
          cases e
          exact upd_same
        · rw [upd_ne eb]
          exact kp.at_ nE (by rw [upd_ne eb]; exact e)
      have nEH : H E = none := by
        rw [upd_ne dE.symm] at nE
        exact nE
      have kt : KeepT H1 (upd H1 d (dZ T)) := fun b xs e => by
        rw [upd_ne (ne_of e (kp.at_ nE hd0) (by intro z; cases z))]
        exact e
      have hlen : ∀ r ∈ L, r.ns.length = m := fun r hr => by
        have : r.d ∈ (T.filter nz) := by
          rw [← ed]
          exact List.mem_map_of_mem hr
        exact hT.len _ (List.mem_filter.mp this).1
      refine ⟨E, L, m, rfl, sqlOf (by rw [upd_ne dE.symm]; exact hE), ho.keep kt, hlen, fun L' p perm srt np => ?_⟩
      refine ⟨p, _, rfl, .inl ⟨sqlOf upd_same, fun t nt => ?_⟩⟩
      have sm2 := (sm.trans (same_new (o := .lst (L'.map Trm.v)) np))
      have sm3 := sm2.trans (same_new (o := .tup (L'.map Trm.v)) nt)
      have hpm : (L'.map Trm.d).Perm (T.filter fun q => decide (q.2 ≠ 0)) := by
        have := perm.map Trm.d
        rw [ed] at this
        exact this
      refine q _ t L' sm3 (sm2.free nt) ⟨upd_same, ?_⟩ ?_ ?_
      · have h1 : RowsOk (upd H1 d (dZ T)) L' := fun r hr => (ho.keep kt) r (perm.mem_iff.mp hr)
        exact (h1.keep (same_keepT (same_new np))).keep (same_keepT (same_new nt))
      · refine norm_of hT.nodup hT.len hpm ?_
        rw [List.pairwise_map]
        refine srt.imp_of_mem fun {x y} hx hy h => lexP_lt ?_ h
        show y.ns.length = x.ns.length
        rw [hlen y (perm.mem_iff.mp hy), hlen x (perm.mem_iff.mp hx)]
      · have h1 := hpm.length_eq
        have h2 := List.length_filter_le (fun q : List Int × Int => decide (q.2 ≠ 0)) T
        rw [List.length_map] at h1
        omega
end
end NH
set_option Elab.async false
set_option linter.all false
set_option maxRecDepth 100000
namespace NH
open PySem PySem.Spec PyProof.Rows L2 R1 ZN LamX
/-- a dict comprehension over a list that stays -/
theorem dc_list {K : PySem.W.Frag} {a : Addr} {xs : List V} {g : TG} {tt : TT} {tk tv : TE} {vs : List Nat} {σ : L2.St} {H1 : Hp} {D : Addr} {Qd : Hp → Prop} (Pv : Nat → Hp → Prop) (h0 : Pv 0 (upd H1 D (.dK []))) (hl : ∀ i H, i ≤ xs.length → Pv i H → SqL K H a xs)
    (hs : ∀ i x H, xs[i]? = some x → Pv i H → g x (wipe σ vs) H fun σ2 H2 => wipe σ2 vs = wipe σ vs ∧ tt σ2 H2 fun b H3 =>
      if b = true then tk σ2 H3 fun y H4 => tv σ2 H4 fun z H5 => ∃ kvs k, y = kV k ∧ H5 D = some (.dK kvs) ∧ kvs.length < sizeLine ∧ Pv (i + 1) (upd H5 D (.dK (putK kvs k z))) else Pv (i + 1) H3) (hd : ∀ H, Pv xs.length H → Qd H) :
    ∃ W : Nat → Nat → Hp → Prop, (∃ m, W 0 m (upd H1 D (.dK []))) ∧ ∀ i m H, W i m H →
      ((Itl K a).stop i H ∧ Qd H) ∨ ((Itl K a).go i H ∧ ∃ Nx : Hp → Prop, (∀ H', Nx H' → ∃ m', m' < m ∧ W (i + 1) m' H') ∧ ∀ x H', (Itl K a).yld i H x H' → g x (wipe σ vs) H' fun σ2 H2 => wipe σ2 vs = wipe σ vs ∧ tt σ2 H2 fun b H3 =>
        if b = true then tk σ2 H3 fun y H4 => tv σ2 H4 fun z H5 => ∃ kvs k, y = kV k ∧ H5 D = some (.dK kvs) ∧ kvs.length < sizeLine ∧ Nx (upd H5 D (.dK (putK kvs k z))) else Nx H3) := by
  refine ⟨fun i m H => m = xs.length - i ∧ i ≤ xs.length ∧ Pv i H, ⟨xs.length, by simp, Nat.zero_le _, h0⟩, ?_⟩
  rintro i m H ⟨rfl, hi, p⟩
  have q := hl i H hi p
  by_cases hlt : i < xs.length
  · refine .inr ⟨⟨xs, xs[i], q, by simp [hlt]⟩, Pv (i + 1), fun H' p' => ⟨xs.length - (i + 1), by omega, rfl, hlt, p'⟩, fun x H' y => ?_⟩
    obtain ⟨e, y⟩ := y
    subst e
    exact hs i x _ (y xs q) p
  · have e : i = xs.length := by omega
    subst e
    exact .inl ⟨⟨xs, q, Nat.le_refl _⟩, hd H p⟩
theorem sum_of_get {o : Option Int} : (o.map V.int).getD (.int 0) = V.int (o.getD 0) := by cases o <;> rfl
/-- powers with 0 at the places of a list -/
def zer (ps : List Int) (ns : List Int) : List Int := ns.mapIdx fun j x => if (j : Int) ∈ ps then 0 else x
theorem zer_len (ps ns : List Int) : (zer ps ns).length = ns.length := by simp [zer]
theorem zer_at {ps ns : List Int} {j : Nat} {x : Int} (h : ns[j]? = some x) : (zer ps ns).take (j + 1) = (zer ps ns).take j ++ [if (j : Int) ∈ ps then 0 else x] := by
  rw [List.take_add_one, zer, List.getElem?_mapIdx, h]
  rfl
section
variable {P : Program} {w : World} {K : PySem.W.Frag} {mg : Str → Option Value} {base : Heap}
/-! ### with_powers, without_letters -/
open LamX NdefX LamQ
def rTupOf5 (K : PySem.W.Frag) : List V → Hp → VK → Prop := fun xs H Q => ∃ p ys, xs = [.ref p] ∧ ((SqL K H p ys ∧ ∀ l, H l = none → Q (.ref l) (upd H l (.tup ys))) ∨ (SqT K H p ys ∧ Q (.ref p) H))
abbrev lamN : Str := "without_letters.<locals>.<lambda>"
abbrev T5 (Pt : Addr) : List (Addr × Str) := [(Pt, lamN)]
/-- what was tracked stays, the tables' contents aside -/
theorem ext_of {H H' : Hp} (s : Same H H') : ExtN H H' := ExtN.of s
theorem SumAt.ext {H H' : Hp} {t : Addr} {L : List Trm} (h : SumAt H t L) (s : ExtN H H') : SumAt H' t L := ⟨s _ _ h.at_ (fun _ z => by cases z), h.rows.keep fun b xs e => s _ _ e (fun _ z => by cases z)⟩
/-- the lambda: powers with 0 at the places that are gone -/
def tZer (K : PySem.W.Frag) : TE := tCB (rTupOf5 K) (tCons (tLc (iEnumT K (tCons (tVar 0) tNil)) (gTup K 2 (gCons (gName 2) (gCons (gName 3) gNil))) tYes (tIf (tB (tDIn (tVar 2) (tVar 1))) (tC (.int 0)) (tVar 3)) [2, 3]) tNil)
abbrev lamA : Arguments := { posonlyargs := [], args := [{ arg := "powers", annotation := none, pos := ⟨30, 36, 30, 42⟩ }], vararg := none, kwonlyargs := [], kw_defaults := [], kwarg := none, defaults := [] }
/-- the lambda's words, out of the def's -/
def lamOf : Stmt → Option (Arguments × Expr × Scope × Pos)
  | .FunctionDef (body := [_, .Return (some (.Call _ [_, .Lambda a b s p] _ _)) _]) .. => some (a, b, s, p)
  | _ => none
def lamP : Arguments := ((lamOf sWithout).map (·.1)).getD lamA
def lamB : Expr := ((lamOf sWithout).map (·.2.1)).getD (.Name "x" ⟨0, 0, 0, 0⟩)
def lamS : Scope := ((lamOf sWithout).map (·.2.2.1)).getD (defScope sWithout)
abbrev nmLam : List Str := ["powers", "gone", "at", "power"]
theorem scLam : NScope nmLam ["powers"] ["gone"] lamS := nscope_by (by decide +kernel)
def TTw : V → (List V → Hp → VK → Prop) → Hp → VK → Prop := fun v1 tl H Q => ∃ (t : Addr) (m : Nat) (L : List Trm) (z : List Int → List Int), v1 = .ref t ∧ SumAt H t L ∧ L.length ≤ 4000 ∧ m ≤ 4000 ∧ (∀ r ∈ L, r.ns.length = m) ∧ (∀ r ∈ L, (z r.ns).length = m) ∧
  (∀ (r : Trm) (H1 : Hp) (Q1 : VK), r ∈ L → Same H H1 → (∀ H2 b, Same H1 H2 → H2 b = some (.tup ((z r.ns).map V.int)) → Q1 (.ref b) H2) → tl [.ref r.p] H1 Q1) ∧
  ∀ H' (t' : Addr) (L' : List Trm), Same H H' → SumAt H' t' L' → Norm (gather z [] (L.map Trm.d)) (L'.map Trm.d) → L'.length ≤ L.length → Q (.ref t') H'
abbrev nmWith : List Str := ["told", "change", "terms", "powers", "coefficient", "key"]
theorem scWith : FnScope nmWith ["told", "change"] (defScope sWith) := ⟨rfl, rfl, rfl, by decide +kernel, rfl, by decide +kernel, by decide +kernel⟩
theorem gives_with {X : Cx} {g fS : Addr} {cdg : Value} {fdS : FuncData} {k : Nat} (FS : Fun X.K "sum_of_terms" "sum_of_terms" sSumOf fS fdS) (bS : Binds X.K fdS ["terms"] []) (gS : X.mg "sum_of_terms" = some (.ref fS)) (mt : X.mg "tuple" = none) (ms : X.mg "sorted" = none) :
    GivesTo1 X CX0 E0 nmWith "with_powers" (defScope sWith) g cdg (defBody sWith) "change" 1 1 (k + 1) lamN TTw := by
  intro f c' v1 s H Q tl hr act hco h
  obtain ⟨t, m, L, z, rfl, hS, hL, hm, hlen, hz, hcall, q⟩ := h
  have GS : FnOk X.prog X.w X.K X.mg X.base CX0 (k + 1) fS fdS ["terms"] spNorm := ok_sumOf FS mt ms
  have nd := scWith.nd
  have hu := hu_of hr
  refine ⟨_, pss_cons (ps_set (i := 2) nd rfl (.inl rfl) pe_dnewT)
    (pss_cons (ps_for PassesOwn.never rfl (pi_tup (pv 0)) (pg_tup rfl (pgs_cons (pg_name (i := 3) nd rfl (.inl rfl)) (pgs_cons (pg_name (i := 4) nd rfl (.inl rfl)) pgs_nil)))
      (pss_cons (ps_set (i := 5) nd rfl (.inl rfl) (act _ _ _ _ (pa_cons (pv 3) pa_nil) rfl))
      (pss_one (ps_dput hu (pv 2) (pv 5) (pe_op op_add (pe_dget2 hu (pv 2) (pv 5) pe_int ⟨rfl, rfl, rfl, rfl⟩) (pv 4)) rfl))))
    (pss_one (ps_ret (pe_call GS hr (by rfl) gS FS.kp bS .nil pass0 (pa_cons (pv 2) pa_nil))))), ?_⟩
  refine fun d nd => ?_
  have sm1 : Same H (upd H d (.dT [])) := same_new nd
  refine ⟨.ref t, rfl, t, rfl, ⟨_, (hS.same sm1).sq⟩, for_it (walk_tup (K := X.K) (a := t) (xs := L.map Trm.v)) (fun i σ H' => ∃ y3 y4 y5, σ = [some (.ref t), some (.ref f), some (.ref d), y3, y4, y5] ∧ H' d = some (dZ (gather z [] ((L.take i).map Trm.d))) ∧ But d H H')
    ⟨none, none, none, rfl, upd_same, But.start⟩ (fun i σ H' _ h => ?_) (fun i x σ H' H2 hi h hy => ?_) (fun σ H2 h => ?_)⟩
  · obtain ⟨y3, y4, y5, rfl, _, kp2⟩ := h
    exact (hS.same (kp2.same nd)).sq
  · obtain ⟨y3, y4, y5, rfl, hd, kp2⟩ := h
    obtain ⟨rfl, e1⟩ := hy
    rw [List.getElem?_map] at e1
    obtain ⟨r, hr1, rfl⟩ := Option.map_eq_some_iff.mp e1
    have hrm := List.mem_of_getElem? hr1
    have s2 : Same H H2 := kp2.same nd
    obtain ⟨o1, o2⟩ := (hS.same s2).rows r hrm
    refine ⟨r.t, _, rfl, .inl (.inl o1), rfl, _, _, rfl, _, _, rfl, rfl, rfl, .ref r.p, rfl, rfl, ?_⟩
    refine ⟨s2 _ _ hco, hcall r H2 _ hrm s2 fun H4 b s3 hb4 => ?_⟩
    have hd4 := s3 _ _ hd
    refine ⟨.ref d, rfl, d, rfl, .inr ⟨_, .inl hd4⟩, .ref b, rfl, _, DictAt.get (m := m) (.inl hd4) hb4, .int r.c, rfl, _, r.c, sum_of_get, rfl, ?_⟩
    refine ⟨.ref d, rfl, .ref b, rfl, d, _, rfl, DPut.t (k := (z r.ns).map Sum.inl) hd4 (by rw [map_kV]; exact hb4) ?_, ?_⟩
    · have := gather_len z ((L.take i).map Trm.d) []
      rw [List.length_map, List.length_take, List.length_nil] at this
      rw [List.length_map, sizeLine_eq]
      omega
    · refine ⟨_, _, _, rfl, ?_, kp2.step s3⟩
      rw [upd_same, putK_enc, List.take_add_one, hr1, List.map_append]
      show some (HO.dT _) = some (dZ (gather z [] ((L.take i).map Trm.d ++ [r.d])))
      rw [gather_snoc]
      rfl
  · obtain ⟨y3, y4, y5, rfl, hd, kp2⟩ := h
    rw [List.length_map, List.take_length] at hd
    have s2 : Same H H2 := kp2.same nd
    have gl := gather_len z (L.map Trm.d) []
    rw [List.length_map, List.length_nil] at gl
    refine ⟨.ref d, rfl, d, m, _, rfl, ⟨hd, gather_nodup _ _ _ (by simp [NodupK]), gather_keys _ _ (fun q h => by cases h) fun q hq => ?_⟩, by omega, fun H3 t' L' s3 nt' hS' hN hl' => ?_⟩
    · obtain ⟨r, hr2, rfl⟩ := List.mem_map.mp hq
      exact hz r hr2
    · exact q H3 t' L' (s2.trans s3) hS' hN (by omega)
def spWithout (Pt : Addr) : Sp := fun vs H Q _ => ∃ (t l : Addr) (m : Nat) (L : List Trm) (ps : List Int), vs = [.ref t, .ref l] ∧ SumAt H t L ∧ L.length ≤ 4000 ∧ m ≤ 4000 ∧ (∀ r ∈ L, r.ns.length = m) ∧ H l = some (.lst (ps.map V.int)) ∧ ps.length ≤ 4000 ∧ Tabs (T5 Pt) H ∧
  ∀ H' (t' : Addr) (L' : List Trm), ExtN H H' → Tabs (T5 Pt) H' → SumAt H' t' L' → Norm (gather (zer ps) [] (L.map Trm.d)) (L'.map Trm.d) → L'.length ≤ L.length → Q (.ref t') H'
abbrev nmWithout : List Str := ["told", "places", "gone", "place"]
theorem scWithout : FnScope nmWithout ["told", "places"] (defScope sWithout) := ⟨rfl, rfl, rfl, by decide +kernel, rfl, by decide +kernel, by decide +kernel⟩
theorem ok_without {f fWi fS c Pt : Addr} {fd fdWi fdS : FuncData} {k : Nat} (F : Fun K "without_letters" "without_letters" sWithout f fd) (hc : fd.code = .ref c) (FW : Fun K "with_powers" "with_powers" sWith fWi fdWi) (bW : L2.Binds K fdWi ["told", "change"] []) (gW : mg "with_powers" = some (.ref fWi))
    (FS : Fun K "sum_of_terms" "sum_of_terms" sSumOf fS fdS) (bS : L2.Binds K fdS ["terms"] []) (gS : mg "sum_of_terms" = some (.ref fS)) (mt : mg "tuple" = none) (ms : mg "sorted" = none) (me : mg "enumerate" = none) (TB : TabB base mg c Pt) :
    FnOk P w K mg base CX0 (k + 4) f fd ["told", "places"] (spWithout Pt) := by
  obtain ⟨oc, od, kV, doc, pm, an, cdv, ct, osl, rfl, lk, hcg⟩ := FW.ex
  refine ok_code F hc scWithout (fun vs H Q E h => ?_) (fun A outer s H vs Q E hr h => ?_)
  · obtain ⟨t, l, m, L, ps, rfl, _⟩ := h
    rfl
  · obtain ⟨t, l, m, L, ps, rfl, hS, hL, hm, hlen, hl, hps, hTb, q⟩ := h
    have hu := hu_of hr
    have nd := scWithout.nd
    refine ⟨_, pss_cons (ps_set (i := 2) nd rfl (.inr rfl) (pe_dc (own := [("place", 3)]) (g := gName 3) (by rfl) nd (pi_list (pv 1)) (blkOk_by (own := [("place", 3)]) (N := nmWithout) (sc := defScope sWithout) (by decide +kernel))
          (fun _ _ _ _ _ => pg_name (i := 3) nd rfl (.inl rfl)) (fun _ _ _ _ _ => pts_nil) (fun _ _ _ _ _ => pv 3) (fun _ _ _ _ _ => pe_bl)))
      (pss_one (ps_ret (pe_lamcall1 (T := T5 Pt) (TT := TTw) (x := "with_powers") (a := "change") (a1 := "told") (g := fWi) (c := c) (P := Pt) (k := k + 1) (ia := 1) (Ng := nmWith) (N := nmLam) (ps := ["powers"]) (fr := ["gone"]) (js := [2]) (te := tZer K) (CX := CX0) (CXl := CX0) (E := E0) (El := E0)
        (by rfl) gW FW.kp lk hcg bW scWith rfl (.inl rfl) (gives_with (k := k + 1) FS bS gS mt ms) TB rfl (List.mem_singleton.mpr (by rfl)) (fun p hp _ => by cases List.mem_singleton.mp hp; rfl) hr (by rfl) scLam (ndef_free (sc := defScope sWithout) (nsc := lamS) (fr := ["gone"]) (by decide +kernel)) (ndef_fr (sc := defScope sWithout) (nsc := lamS) (by decide +kernel)) rfl
        (fun _ _ _ _ _ us hl => match us, hl with | [_], _ => rfl)
        (fun A outer s H f c' cl hr => pe_callTy (r := rTupOf5 K) call_tuple_of (by rfl) mt (by decide +kernel) (pa_cons (pe_lc (wi := iEnumT K (tCons (tVar 0) tNil)) (own := [("at", 2), ("power", 3)]) (g := gTup K 2 (gCons (gName 2) (gCons (gName 3) gNil))) (tt := tYes) (by rfl) scLam.nd (pi_enumT (by rfl) me (pa_cons (pv 0) pa_nil)) (blkOk_by (own := [("at", 2), ("power", 3)]) (N := nmLam) (sc := lamS) (by decide +kernel))
            (fun _ _ _ _ _ => pg_tup rfl (pgs_cons (pg_name (i := 2) scLam.nd rfl (.inl rfl)) (pgs_cons (pg_name (i := 3) scLam.nd rfl (.inl rfl)) pgs_nil))) (fun _ _ _ _ _ => pts_nil)
            (fun _ _ _ _ _ => pe_ifExp (tA := tB (tDIn (tVar 2) (tVar 1))) (pt_cmp (pc_din (hu_of hr) (pv 2) (pv 1))) pe_int (pv 3))) pa_nil))
        (fun _ => pass0) pass0 (pv 0) (by rfl)))), ?_⟩
    refine ⟨.ref l, rfl, l, rfl, ⟨_, sqlOf hl⟩, fun D nD => ?_⟩
    have lD : l ≠ D := ne_of_none hl nD
    refine dc_list (xs := ps.map V.int) (fun j H' => ∃ kvs, H' D = some (.dK kvs) ∧ (∀ i : Int, (valV kvs (Sum.inl i)).isSome = decide (i ∈ ps.take j)) ∧ kvs.length ≤ j ∧ But D H H') ⟨[], upd_same, (fun i => by simp [valV]), Nat.le_refl _, But.start⟩ (fun i H' _ h => ?_) (fun i x H' hx h => ?_) (fun H1 h => ?_)
    · obtain ⟨_, _, _, _, kp⟩ := h
      exact sqlOf (kp l _ lD hl)
    · obtain ⟨kvs, hD, hv, hk, kp⟩ := h
      rw [List.getElem?_map] at hx
      obtain ⟨v, f1, rfl⟩ := Option.map_eq_some_iff.mp hx
      have hlt := (List.getElem?_eq_some_iff.mp f1).1
      refine ⟨rfl, .int v, rfl, kvs, Sum.inl v, rfl, hD, (by rw [sizeLine_eq]; omega), _, upd_same, fun i' => ?_, Nat.le_trans (put_len _ _ _) (Nat.succ_le_succ hk), kp.step (Same.refl _)⟩
      rw [valV_put, List.take_add_one, f1]
      by_cases e : i' = v
      · subst e
        simp
      · rw [if_neg (fun z => e (by injection z)), hv]
        simp [e]
    obtain ⟨kvs, hD, hv, _, kp⟩ := h
    rw [List.length_map, List.take_length] at hv
    have sm1 : Same H H1 := kp.same nD
    refine ⟨.ref t, rfl, hTb.ext sm1, fun H2 e2 T2 => ?_⟩
    have hS2 := (hS.same sm1).ext e2
    refine ⟨t, m, L, zer ps, rfl, hS2, hL, hm, hlen, fun r hr => by rw [zer_len]; exact hlen r hr, fun r H3 Q3 hrm s3 hq => ?_, fun H' t' L' s' hS' hN hl' => q H' t' L' (((ExtN.of sm1).trans e2).trans (ExtN.of s')) (T2.ext s') hS' hN hl'⟩
    have hDt : H3 D = some (.dK kvs) := s3 _ _ (e2 _ _ hD (fun _ z => by cases z))
    obtain ⟨o1, o2⟩ := (hS2.same s3).rows r hrm
    show tZer K [some (.ref r.p), some (.ref D), none, none] H3 Q3
    refine ⟨.ref r.p, rfl, r.p, _, rfl, .inl (.inl o2), fun E nE => ?_⟩
    refine lc_it (walk_enumT (K := K) (a := r.p) (xs := r.ns.map V.int)) (fun j H' => H' E = some (.lst (((zer ps r.ns).take j).map V.int)) ∧ But E H3 H') ⟨upd_same, But.start⟩ (fun j H' _ h => ?_) (fun j x H4 H' hj h hy => ?_) (fun H4 h => ?_)
    · exact .inl (.inl (h.2.at_ nE o2))
    · obtain ⟨hE, kp3⟩ := h
      obtain ⟨T, x1, x2, rfl, nT, rfl, e1, e3⟩ := hy
      cases e1
      dsimp only at e3
      rw [List.getElem?_map] at e3
      obtain ⟨n2, f2, rfl⟩ := Option.map_eq_some_iff.mp e3
      have TE : E ≠ T := ne_of_none hE nT
      have sT := same_new (o := .tup [.int (j : Nat), .int n2]) nT
      have hD4 : upd H4 T (.tup [.int (j : Nat), .int n2]) D = some (.dK kvs) := sT _ _ (kp3.at_ nE hDt)
      have hlt := (List.getElem?_eq_some_iff.mp f2).1
      have fin : ∀ y : Int, y = (if (j : Int) ∈ ps then 0 else n2) → ∃ acc, upd H4 T (.tup [.int (j : Nat), .int n2]) E = some (.lst acc) ∧ acc.length < sizeLine ∧ (upd (upd H4 T (.tup [.int (j : Nat), .int n2])) E (.lst (acc ++ [.int y])) E = some (.lst (((zer ps r.ns).take (j + 1)).map V.int)) ∧ But E H3 (upd (upd H4 T (.tup [.int (j : Nat), .int n2])) E (.lst (acc ++ [.int y])))) := fun y ey => by
        refine ⟨_, sT _ _ hE, ?_, ?_, kp3.step sT⟩
        · have := hlen r hrm
          rw [List.length_map, List.length_take, zer_len, sizeLine_eq]
          omega
        · rw [upd_same, zer_at f2, List.map_append, ey]
          rfl
      refine ⟨T, _, rfl, .inl (.inl upd_same), rfl, _, _, rfl, _, _, rfl, rfl, rfl, .int (j : Nat), rfl, .ref D, rfl, D, _, rfl, DGet.k (k := Sum.inl (j : Int)) hD4, _, rfl, ite2 (fun e => ?_) (fun e => ?_)⟩
      · refine fin 0 ?_
        rw [hv] at e
        rw [if_pos (of_decide_eq_true e)]
      · refine ⟨.int n2, rfl, fin n2 ?_⟩
        rw [hv] at e
        rw [if_neg (fun z => e (decide_eq_true z))]
    · obtain ⟨hE, kp3⟩ := h
      rw [List.length_map, List.take_of_length_le (by rw [zer_len]; exact Nat.le_refl _)] at hE
      refine ⟨E, _, rfl, .inl ⟨sqlOf hE, fun b nb => ?_⟩⟩
      have s4 : Same H3 (upd H4 b (.tup ((zer ps r.ns).map V.int))) := (kp3.same nE).trans (same_new nb)
      exact hq _ b s4 upd_same
end
end NH
set_option Elab.async false
set_option linter.all false
set_option maxRecDepth 100000
set_option maxHeartbeats 1000000
namespace DCT
open PySem PySem.Spec PyProof.Rows L2
/-! dict comprehensions whose keys are tuples: the new dict stands at D and is a `.dT` from the start -/
theorem set_tup {X : Cx} {A : Around} {pins : List (Addr × Obj)} {σ : L2.St} {H : Hp} {s : Shared} {E : Value → Shared → Prop} {D b : Addr} {kvs : List (List Key × V)} {k : List Key} {v : V} {r : Value} {Q : Unit → Shared → Prop}
    (hu : A.units + 1 < cLine) (I : Inv X pins σ H s) (hD : H D = some (.dT kvs)) (hb : H b = some (.tup (k.map kV))) (hz : kvs.length < sizeLine) (rv : RelV v r)
    (h : ∀ s', Inv X pins σ (upd H D (.dT (putK kvs k v))) s' → Q () s') : wpAny (model X.prog X.w) A (dictSet D (.ref b) r) Q E s := by
  obtain ⟨z, hs, xs, rel, dd⟩ := dt_of I.hok hD
  have lx : xs.length = kvs.length := (Paired.length rel).symm
  have lp := length_putK kvs k v
  refine wpAny_dictSet_heap (hsz := by omega) (show (tupleKind (mixKind X.prog X.w)).room A from Nat.lt_of_succ_lt hu) (key_of I.hok hb) dd fun h2 d2 sb => h _ ?_
  obtain ⟨q, es, ep, a1, a2, a3, a4, _, a5⟩ := d2
  have kt : KT (upd H D (.dT (putK kvs k v))) (putK kvs k v) _ := (rel.put k hb rv).keeps fun c ys ec => by
    rw [upd_ne (ne_of ec hD (fun z => nomatch z))]
    exact ec
  exact d_write I (by rw [hD]; exact True.intro) sb ⟨q, a1⟩ ⟨by omega, hs, _, kt, q, es, ep, a1, a2, a3, a4, a5⟩
section
variable {X : Cx}
/-- one turn's end: the key is a tuple at b, the value z; the dict at D gets it -/
def Put (D : Addr) (y z : V) (H : Hp) (Nx : Hp → Prop) : Prop := ∃ (kvs : List (List Key × V)) (k : List Key) (b : Addr), y = .ref b ∧ H b = some (.tup (k.map kV)) ∧ H D = some (.dT kvs) ∧ kvs.length < sizeLine ∧ Nx (upd H D (.dT (putK kvs k z)))
def Turns (J : It) (D : Addr) (g : TG) (tt : TT) (tk tv : TE) (vs : List Nat) (σ : L2.St) (H1 : Hp) (Qd : Hp → Prop) : Prop :=
  ∃ W : Nat → Nat → Hp → Prop, (∃ m, W 0 m (upd H1 D (.dT []))) ∧ ∀ i m H, W i m H →
    (J.stop i H ∧ Qd H) ∨ (J.go i H ∧ ∃ Nx : Hp → Prop, (∀ H', Nx H' → ∃ m', m' < m ∧ W (i + 1) m' H') ∧ ∀ x H', J.yld i H x H' → g x (wipe σ vs) H' fun σ2 H2 => wipe σ2 vs = wipe σ vs ∧ tt σ2 H2 fun b H3 =>
      if b = true then tk σ2 H3 fun y H4 => tv σ2 H4 fun z H5 => Put D y z H5 Nx else Nx H3)
def tDcT (wi : TI) (g : TG) (tt : TT) (tk tv : TE) (vs : List Nat) : TE := fun σ H Q => wi σ H fun J H1 => ∀ D, H1 D = none → Turns J D g tt tk tv vs σ H1 (Q (.ref D))
theorem core {pins : List (Addr × Obj)} {s : Shared} {σ : L2.St} {H : Hp} {Q : VK} {kx vx tg iter : Expr} {ifs : List Expr} {scope : Scope} {own : List (Str × Nat)} {pos pos' : Pos} {wi : TI} {g : TG} {tt : TT} {tk tv : TE} {use : Option (Value → Sem Unit)} {Qf : Value → Shared → Prop} (hc : X.calm = true) (hu : X.A.units + 1 < cLine) (hN : X.N.Nodup) (I : Inv X pins σ H s) (hi : PI X tg iter wi) (ok : BlkOk X.N X.env.scope scope own)
    (hg : ∀ (s : Shared) (H : Hp) (C : Addr) (cl : List (Str × Addr)) (fp : List Addr), PG (X.blk s H scope (compEnvC scope cl C X.env) fp) tg g)
    (ht : ∀ (s : Shared) (H : Hp) (C : Addr) (cl : List (Str × Addr)) (fp : List Addr), PTs (X.blk s H scope (compEnvC scope cl C X.env) fp) ifs tt)
    (hk : ∀ (s : Shared) (H : Hp) (C : Addr) (cl : List (Str × Addr)) (fp : List Addr), PE (X.blk s H scope (compEnvC scope cl C X.env) fp) kx tk)
    (he : ∀ (s : Shared) (H : Hp) (C : Addr) (cl : List (Str × Addr)) (fp : List Addr), PE (X.blk s H scope (compEnvC scope cl C X.env) fp) vx tv) (hs : ∀ x, foldedSetIterable iter X.env x = pure x)
    (h : tDcT wi g tt tk tv (own.map (·.2)) σ H Q)
    (done : ∀ D C s' m H', Inv X pins σ H' s' → Q (.ref D) H' → s'.heap.Ns C m → FpOk X pins H' C → compPost (model X.prog X.w) X.A X.xe use Qf (.ref D) C (.ok .next) s') :
    wpAny (model X.prog X.w) X.A (comprehension (.DictComp kx vx [⟨tg, iter, ifs, 0⟩] scope pos) scope X.env pos' newDict false (eval iter X.env) use) Qf X.xe s := by
  have cells : ∀ y ∈ scope.names, y.2 = .free → ∃ c, X.env.cells.lookup y.1 = some c := fun y hy e =>
    (ok.free y hy e).elim (fun k => I.ok.has _ (.inl k)) fun k => I.ok.has _ (.inr k)
  refine wpAny_comprehension_free (use := use) rfl hs (closure_ok cells) ok.kind (fun y hy e => by rw [ok.uniq y hy, e]) (thn (hi.run pins s σ H _ I h) fun xv s1 hx => thn hx fun itv s2 h2 => ?_)
  obtain ⟨it, fp, tn, J, H2, rfl, I2, T, st2, f2, q⟩ := h2
  refine wpAny_newObj_type (newEnv_comp ?_)
  -- the new dict
  obtain ⟨D, hD⟩ : ∃ D, s2.heap.objs.size = D := ⟨_, rfl⟩
  rw [hD]
  have nD : H2 D = none := I2.hok.fresh (Nat.le_of_eq hD)
  obtain ⟨W, ⟨m0, w0⟩, turn⟩ := q D nD
  obtain ⟨s3, hs3⟩ : ∃ s3 : Shared, s3 = { s2 with heap := s2.heap.push { cls := .type "dict", data := .dict #[] } } := ⟨_, rfl⟩
  have e3 : s3.heap = s2.heap.push { cls := .type "dict", data := .dict #[] } := by rw [hs3]
  have I3 : Inv X pins σ (upd H2 D (.dT [])) s3 := by
    have := I2.laid (a := D) (o := .dT []) (t' := s2.toks) (h' := s2.heap.push { cls := .type "dict", data := .dict #[] }) (fun b o e => Heap.get?_push_of_some _ e) (Nat.le_of_eq hD) (by rw [← hD]; exact dt_empty s2.heap I2.big)
    rw [hs3]
    exact this
  have low : ∀ b ∈ fp, b < s2.heap.objs.size := fun b hb => let ⟨o, e, _⟩ := T.obj _ _ st2 b hb; Heap.lt_size e
  have f3 : ∀ b ∈ fp, FpOk X pins (upd H2 D (.dT [])) b ∧ b < s3.heap.objs.size := fun b hb => by
    have lt := low b hb
    have nb : upd H2 D (.dT []) b = none := by
      rw [upd_ne (by rw [← hD]; exact Nat.ne_of_lt lt)]
      exact (f2 b hb).1
    exact ⟨⟨nb, (f2 b hb).2⟩, by rw [e3, Heap.size_push]; exact Nat.lt_succ_of_lt lt⟩
  have st3 : tn 0 s3.heap := T.keep _ _ _ st2 fun b _ o e => by
    rw [e3]
    exact Heap.get?_push_of_some _ e
  have I4 := block_start I3 ok hN f3
  obtain ⟨cl, hcl⟩ : ∃ cl, cl = cellsFrom (s3.heap.objs.size + 1) scope.names (cloFrom X.env.cells scope.names []) := ⟨_, rfl⟩
  rw [← hcl] at I4
  have pg := hg s3 (upd H2 D (.dT [])) s3.heap.objs.size cl fp
  have pt := ht s3 (upd H2 D (.dT [])) s3.heap.objs.size cl fp
  have pk := hk s3 (upd H2 D (.dT [])) s3.heap.objs.size cl fp
  have pe := he s3 (upd H2 D (.dT [])) s3.heap.objs.size cl fp
  obtain ⟨ce, hce⟩ : ∃ ce, ce = compEnvC scope cl s3.heap.objs.size X.env := ⟨_, rfl⟩
  have lc : ce.locals = s3.heap.objs.size := by rw [hce]; rfl
  have blank : ∀ b ∈ fp, (upd H2 D (.dT [])) b = none := fun b hb => (f3 b hb).1.1
  obtain ⟨s4, hs4⟩ : ∃ s4 : Shared, s4 = { s3 with heap := pushCells (s3.heap.push { cls := .type "dict", data := .dict #[] }) scope.names } := ⟨_, rfl⟩
  rw [← hce] at I4 pg pt pk pe
  have st4 : tn 0 s4.heap := T.keep _ _ _ st3 fun b _ o e => by
    rw [hs4]
    exact pushCells_keeps _ _ _ _ (Heap.get?_push_of_some _ e)
  rw [← hs4] at I4
  obtain ⟨H3, hH3⟩ : ∃ H3, H3 = upd H2 D (.dT []) := ⟨_, rfl⟩
  rw [← hH3] at I3 I4 pg pt pk pe w0 blank f3
  have stat : ∀ {σ' : L2.St} {H' : Hp} {s' : Shared}, Inv (X.blk s3 H3 scope ce fp) [] σ' H' s' → (∀ b ∈ fp, H' b = none) → ∀ b ∈ fp, FpOk (X.blk s3 H3 scope ce fp) [] H' b := fun I' hn b hb =>
    ⟨hn b hb, (I'.ok.exf b hb).1, I'.ok.exfs b hb, .inl hb, (I'.ok.exf b hb).2, fun p hp => nomatch (show p ∈ ([] : List (Addr × Obj)) from hp)⟩
  have loop : codeAny (model X.prog X.w) X.A (.compLoop (.DictComp kx vx [⟨tg, iter, ifs, 0⟩] scope pos) 0 (.ref it) (.ref D) ce) (compPost (model X.prog X.w) X.A X.xe use Qf (.ref D) s3.heap.objs.size) s4 := by
    refine compLoop_anyD (fun n s' => ∃ i H', Inv (X.blk s3 H3 scope ce fp) [] (wipe σ (own.map (·.2))) H' s' ∧ tn i s'.heap ∧ (∀ b ∈ fp, H' b = none) ∧ W i n H') ?_ m0 ⟨0, H3, I4, st4, blank, w0⟩
    rintro n s5 ⟨i, H5, I5, st5, n5, w5⟩
    rcases turn i n H5 w5 with ⟨stop, qq⟩ | ⟨go, Nx, hNx, step⟩
    · refine thnF (T.done (X.blk s3 H3 scope ce fp) rfl rfl rfl hc i [] s5 _ H5 (fun _ _ => False) I5 (stat I5 n5) st5 stop) fun r s6 ⟨hr, I6⟩ => ?_
      subst hr
      have I7 : Inv X pins σ H5 s6 := I3.call' (ch := fp) I6.os I6.base I6.hok I6.bare fun b hb => ⟨(f3 b hb).1.2.2.2.1, (f3 b hb).1.2.1, (f3 b hb).1.2.2.2.2.1, (f3 b hb).1.2.2.2.2.2⟩
      have nC : H5 ce.locals = none := I6.free
      obtain ⟨m, hn, _⟩ := I6.loc
      have hn : s6.heap.Ns ce.locals m := hn
      rw [lc] at hn nC
      exact done D s3.heap.objs.size s6 m H5 I7 qq hn (I3.fpOk (Nat.le_refl _) nC)
    · refine thnF (T.item (X.blk s3 H3 scope ce fp) rfl rfl rfl hc i [] s5 _ H5 (fun _ _ => False) I5 (stat I5 n5) st5 go) fun r s6 ⟨u, hr, h6⟩ => ?_
      subst hr
      refine thnF h6 fun _ s7 ⟨x, H7, I7, r7, y7, st7, n7⟩ => ?_
      refine thnF (pg.run _ s7 _ H7 x u _ (I7.pinned (stat I7 n7) (T.obj _ _ st7)) r7 (step x H7 y7)) fun _ s8 ⟨σ8, H8, I8, hw8, q8⟩ => ?_
      refine thnF (pt.run _ s8 σ8 H8 _ I8 q8) fun b s9 ⟨H9, I9, q9⟩ => ?_
      have fin : ∀ {s' : Shared} {H' : Hp}, Inv (X.blk s3 H3 scope ce fp) ([] ++ pinsAt fp s7.heap) σ8 H' s' → Nx H' → ∃ m, m < n ∧ ∃ i H', Inv (X.blk s3 H3 scope ce fp) [] (wipe σ (own.map (·.2))) H' s' ∧ tn i s'.heap ∧ (∀ b ∈ fp, H' b = none) ∧ W i m H' := fun {s' H'} I' nx => by
        obtain ⟨m', lt, w'⟩ := hNx H' nx
        have pin : ∀ b ∈ fp, ∀ o, s7.heap.get? b = some o → s'.heap.get? b = some o ∧ H' b = none := fun b hb o e =>
          let z := I'.pin (b, o) (List.mem_append_right _ (List.mem_append_right _ (mem_pinsAt hb e)))
          ⟨z.1, z.2.1⟩
        refine ⟨m', lt, i + 1, H', (I'.unpinned (pins := [])).weak (by rw [← hw8, wipe_length]) (fun j v e => ?_), T.keep _ _ _ st7 fun b hb o e => (pin b hb o e).1, fun b hb => ?_, w'⟩
        · rw [← hw8] at e
          exact (wipe_some e).1
        · obtain ⟨o, e, _⟩ := T.obj _ _ st7 b hb
          exact (pin b hb o e).2
      cases b with
      | false =>
        rw [if_neg Bool.false_ne_true] at q9 ⊢
        exact fin I9 q9
      | true =>
        rw [if_pos rfl] at q9 ⊢
        refine thnF (pk.run _ s9 σ8 H9 _ I9 q9) fun z s10 ⟨yk, H10, I10, r10, q10⟩ => ?_
        refine thnF (pe.run _ s10 σ8 H10 _ I10 q10) fun z2 s11 ⟨yv, H11, I11, r11, kvs, k, b, ey, hb, hDD, hz, nx⟩ => ?_
        subst ey
        cases (show z = Value.ref b from r10)
        exact set_tup (X := X.blk s3 H3 scope ce fp) hu I11 hDD hb hz r11 fun s12 I12 => fin I12 nx
  subst hcl hce hs4 hs3 hD
  exact codeAny_compStart_dict loop (T.self X.A 0 _ _ _ st4 loop)
theorem pe_dcT {kx vx tg iter : Expr} {ifs : List Expr} {scope : Scope} {own : List (Str × Nat)} {pos : Pos} {wi : TI} {g : TG} {tt : TT} {tk tv : TE} (hc : X.calm = true) (hu : X.A.units + 1 < cLine) (hN : X.N.Nodup) (hi : PI X tg iter wi) (ok : BlkOk X.N X.env.scope scope own)
    (hg : ∀ (s : Shared) (H : Hp) (C : Addr) (cl : List (Str × Addr)) (fp : List Addr), PG (X.blk s H scope (compEnvC scope cl C X.env) fp) tg g)
    (ht : ∀ (s : Shared) (H : Hp) (C : Addr) (cl : List (Str × Addr)) (fp : List Addr), PTs (X.blk s H scope (compEnvC scope cl C X.env) fp) ifs tt)
    (hk : ∀ (s : Shared) (H : Hp) (C : Addr) (cl : List (Str × Addr)) (fp : List Addr), PE (X.blk s H scope (compEnvC scope cl C X.env) fp) kx tk)
    (he : ∀ (s : Shared) (H : Hp) (C : Addr) (cl : List (Str × Addr)) (fp : List Addr), PE (X.blk s H scope (compEnvC scope cl C X.env) fp) vx tv) (hs : ∀ x, foldedSetIterable iter X.env x = pure x := by intro _; rfl) :
    PE X (.DictComp kx vx [⟨tg, iter, ifs, 0⟩] scope pos) (tDcT wi g tt tk tv (own.map (·.2))) := by
  refine ⟨fun pins s σ H Q I h => ?_⟩
  rw [arm_eval_DictComp]
  refine core hc hu hN I hi ok hg ht hk he hs h fun D C s' m H' I' hq hn fp => ⟨m, hn, fun h'' sb => ?_⟩
  obtain ⟨f0, f1, f2, f3, f4, f5⟩ := fp
  exact ⟨.ref D, H', I'.turned (t' := s'.toks) (fun b o hb e => (sb.2 b hb).trans e) f0 f1 f3 f4 f5, rfl, hq⟩
theorem sw_trueD {kx vx : Expr} {gs : List Comprehension} {scope : Scope} {pos py : Pos} {y : Str} {l : Nat} {env : Env} (hk : env.scope.kind = .function) (hy : env.scope.names.lookup y = some .local) (hl : (py.line == pos.line) = true)
    (ha : (scope.names.any fun (n, k) => n == y && (k == .local || k == .cell)) = false) : swapsWith (.DictComp kx vx gs scope pos) (some (.Name y py)) l env = pure true := by
  have hb : env.blockKind = .function := by unfold Env.blockKind; rw [hk]; rfl
  have ky : env.kindOf y = some .local := hy
  unfold swapsWith
  simp only [hb, ky, ha, Expr.pos, hl]
  rfl
/-- y = {..}, y a local name -/
theorem ps_setDcT {i : Nat} {y : Str} {py : Pos} {kx vx tg iter : Expr} {ifs : List Expr} {scope : Scope} {own : List (Str × Nat)} {pos spos : Pos} {wi : TI} {g : TG} {tt : TT} {tk tv : TE} (hc : X.calm = true) (hu : X.A.units + 1 < cLine) (hN : X.N.Nodup) (hy : X.N[i]? = some y) (hyl : X.env.scope.names.lookup y = some .local)
    (hsw : swapsWith (.DictComp kx vx [⟨tg, iter, ifs, 0⟩] scope pos) (some (.Name y py)) spos.line X.env = pure true) (hi : PI X tg iter wi) (ok : BlkOk X.N X.env.scope scope own)
    (hg : ∀ (s : Shared) (H : Hp) (C : Addr) (cl : List (Str × Addr)) (fp : List Addr), PG (X.blk s H scope (compEnvC scope cl C X.env) fp) tg g)
    (ht : ∀ (s : Shared) (H : Hp) (C : Addr) (cl : List (Str × Addr)) (fp : List Addr), PTs (X.blk s H scope (compEnvC scope cl C X.env) fp) ifs tt)
    (hk : ∀ (s : Shared) (H : Hp) (C : Addr) (cl : List (Str × Addr)) (fp : List Addr), PE (X.blk s H scope (compEnvC scope cl C X.env) fp) kx tk)
    (he : ∀ (s : Shared) (H : Hp) (C : Addr) (cl : List (Str × Addr)) (fp : List Addr), PE (X.blk s H scope (compEnvC scope cl C X.env) fp) vx tv) (hs : ∀ x, foldedSetIterable iter X.env x = pure x := by intro _; rfl) :
    PS X (.Assign [.Name y py] (.DictComp kx vx [⟨tg, iter, ifs, 0⟩] scope pos) spos) (tAsg (tDcT wi g tt tk tv (own.map (·.2))) (gName i)) := by
  refine ⟨fun pins s σ H D I h => ?_⟩
  rw [exec_Assign_Name_used _ _ _ _ hsw]
  refine wpAny_bind (wpAny_standAt (wpAny_bind ?_))
  have h : tDcT wi g tt tk tv (own.map (·.2)) σ H (fun x H1 => gName i x σ H1 D.nx) := h
  show wpAny _ X.A (do let _ ← comprehension (.DictComp kx vx [⟨tg, iter, ifs, 0⟩] scope pos) scope X.env (firstIterPos [⟨tg, iter, ifs, 0⟩] pos) newDict false (eval iter X.env) (some (assign (.Name y py) X.env))) _ _ s
  refine wpAny_bind (thn (core (Qf := fun _ s' => SP X pins D .next s') hc hu hN I hi ok hg ht hk he hs h fun L C s' m H' I' q hn fp => ?_) fun _ s' hq => wpAny_pure (wpAny_pure hq))
  show wpAny _ _ (assign (.Name y py) X.env (.ref L)) _ _ _
  obtain ⟨f0, f1, f2, f3, f4, f5⟩ := fp
  refine wpAny_assign_Name (store_ok2 (v := V.ref L) I' hN hy (.inl hyl) rfl (fun s2 I2 ⟨a, sb, ha⟩ => ?_) (.inr hyl))
  have ne : C ≠ a := ha.elim (fun z => by rw [z]; exact f1) fun z e => f4 y a z e.symm
  exact ⟨m, hn.sameBut sb ne, fun h3 sb3 => ⟨_, H', I2.turned (t' := s2.toks) (fun b o hb e => (sb3.2 b hb).trans e) f0 f1 f3 f4 f5, q⟩⟩
/-- over what is walked -/
theorem dcT_it {J : It} {n : Nat} {G : Hp → Prop} {Y : Nat → Hp → V → Hp → Prop} (w : Walk J n G Y) {g : TG} {tt : TT} {tk tv : TE} {vs : List Nat} {σ : L2.St} {H1 : Hp} {D : Addr} {Qd : Hp → Prop} (Pv : Nat → Hp → Prop) (h0 : Pv 0 (upd H1 D (.dT []))) (hG : ∀ i H, i ≤ n → Pv i H → G H)
    (hs : ∀ i x H H', i < n → Pv i H → Y i H x H' → g x (wipe σ vs) H' fun σ2 H2 => wipe σ2 vs = wipe σ vs ∧ tt σ2 H2 fun b H3 => if b = true then tk σ2 H3 fun y H4 => tv σ2 H4 fun z H5 => Put D y z H5 (Pv (i + 1)) else Pv (i + 1) H3)
    (hd : ∀ H, Pv n H → Qd H) : Turns J D g tt tk tv vs σ H1 Qd := by
  refine ⟨fun i m H => m = n - i ∧ i ≤ n ∧ Pv i H, ⟨n, by omega, Nat.zero_le _, h0⟩, ?_⟩
  rintro i m H ⟨rfl, hi, p⟩
  have q := hG i H hi p
  by_cases lt : i < n
  · exact .inr ⟨w.goes i H lt q, Pv (i + 1), fun H' p' => ⟨n - (i + 1), by omega, rfl, lt, p'⟩, fun x H' y => hs i x H H' lt p (w.yields i H x H' lt q y)⟩
  · obtain rfl : i = n := by omega
    exact .inl ⟨w.stops H q, hd H p⟩
/-- {k: v} with one key that is a tuple -/
def tDisp1T (tk tv : TE) : TE := fun σ H Q => ∀ p, H p = none → tk σ (upd H p (.dT [])) fun y H1 => tv σ H1 fun z H2 => Put p y z H2 fun H3 => Q (.ref p) H3
theorem pe_disp1T {k v : Expr} {tk tv : TE} {pos : Pos} (hu : X.A.units + 1 < cLine) (hk : PE X k tk) (hv : PE X v tv) : PE X (.Dict [some k] [v] pos) (tDisp1T tk tv) := by
  refine ⟨fun pins s σ H Q I q => ?_⟩
  have hn := I.hok.fresh (Nat.le_refl s.heap.objs.size)
  have I1 := I.laid (a := s.heap.objs.size) (o := .dT []) (h' := s.heap.push { cls := .type "dict", data := .dict #[] }) (t' := s.toks) (fun _ _ q => Heap.get?_push_of_some _ q) (Nat.le_refl _) (dt_empty s.heap I.big)
  refine wpAny_Dict_any rfl rfl (by simp) (by show 1 ≤ 15; decide) ?_
  refine pairTrees_cons_walk (thn (hk.run pins _ σ _ _ I1 (q _ hn)) fun u s1 ⟨y, H1, J1, ry, q1⟩ => thn (hv.run pins s1 σ H1 _ J1 q1) fun w2 s2 ⟨z, H2, J2, rz, q2⟩ => pairTrees_nil_walk ?_)
  obtain ⟨kvs, kk, b, rfl, hb, hD, hz, q3⟩ := q2
  cases (show u = Value.ref b from ry)
  unfold storeAll
  rw [List.forIn_cons]
  refine wpAny_bind (wpAny_bind (set_tup hu J2 hD hb hz rz fun s3 J3 => wpAny_pure ?_))
  show wpAny _ _ (forIn [] _ _) _ _ _
  rw [List.forIn_nil]
  exact wpAny_pure ⟨.ref s.heap.objs.size, _, J3, rfl, q3⟩
/-- a statement read in one of two ways -/
def tOrS (t1 t2 : TS) : TS := fun D σ H => t1 D σ H ∨ t2 D σ H
theorem ps_or {st : Stmt} {t1 t2 : TS} (h1 : PS X st t1) (h2 : PS X st t2) : PS X st (tOrS t1 t2) :=
  ⟨fun pins s σ H D I h => h.elim (h1.run pins s σ H D I) (h2.run pins s σ H D I)⟩
end
end DCT
set_option Elab.async false
set_option linter.all false
set_option maxRecDepth 100000
set_option maxHeartbeats 1000000
set_option exponentiation.threshold 100000
namespace NH
open PySem PySem.Spec PyProof.Rows L2 R1 ZN PK RS DCT
section
variable {P : Program} {w : World} {K : PySem.W.Frag} {mg : Str → Option Value} {base : Heap} {f : Nat → Addr} {d : Nat → FuncData}
/-! ### letters_of, of any sums -/
def allE (Ls : List (List Trm)) : Bool := Ls.all fun L => L.isEmpty
def spLoN (K : PySem.W.Frag) : Sp := fun vs H Q _ => ∃ (l : Addr) (m : Nat) (ts : List (Addr × List Trm)), vs = [.ref l] ∧ SqL K H l (ts.map fun t => V.ref t.1) ∧ (∀ t ∈ ts, SumAt H t.1 t.2 ∧ t.2.length ≤ 4000 ∧ Good m (t.2.map Trm.d)) ∧ 0 < m ∧
  ∀ H', Same H H' → Q (.int (if allE (ts.map (·.2)) then 0 else (m : Int))) H'
theorem ok_loN {k : Nat} (D : Defs K mg f d) : FnOk P w K mg base CX0 (k + 3) (f i_letters_of) (d i_letters_of) ["sums"] (spLoN K) := by
  have GC : FnOk P w K mg base CX0 (k + 2) (f i_check_sum) (d i_check_sum) ["told", "many"] spCheck := ok_check D.F_check_sum D.F_is_sum D.b_is_sum D.g_is_sum D.z_enumerate D.z_len
  refine D.F_letters_of.ok sc_letters_of (fun vs H Q E h => ?_) (fun cdv A outer s H vs Q E hr h => ?_)
  · obtain ⟨l, m, ts, rfl, _⟩ := h
    rfl
  · obtain ⟨l, m, ts, rfl, hl, hts, hm, q⟩ := h
    have nd := sc_letters_of.nd
    refine ⟨_, pss_cons (ps_set (i := 1) nd rfl (.inl rfl) pe_int)
      (pss_cons (ps_for PassesOwn.never rfl (pi_list (pv 0)) (pg_name (i := 2) nd rfl (.inl rfl))
        (Evl.pss_cut (ps_if (PW.pt (pw_and (pt_truth (pv 2) (by intro _; rfl)) (pw_and1 (pt_not (pt_truth (pv 1) (by intro _; rfl))))))
          (pss_cons (ps_set (i := 1) nd rfl (.inl rfl) (pe_callB call_len_seq (by rfl) D.z_len PySem.boot_len (pa_cons (pe_ix ix_tup (pe_ix ix_tup (pv 2) pe_int (fun _ _ => rfl)) pe_int (fun _ _ => rfl)) pa_nil)))
          (pss_one (ps_if (pt_not (pt_truth (pv 1) (by intro _; rfl))) pss_never pss_nil))) pss_nil)
        (pss_one (ps_expr (pe_call GC hr (by rfl) D.g_check_sum D.F_check_sum.kp D.b_check_sum .nil pass0 (pa_cons (pv 2) (pa_cons (pv 1) pa_nil)))))))
      (pss_one (ps_ret (pv 1)))), ?_⟩
    have hstep : ∀ {i : Nat} {t : Addr × List Trm}, ts[i]? = some t → allE ((ts.take (i + 1)).map (·.2)) = (allE ((ts.take i).map (·.2)) && t.2.isEmpty) := fun {i t} h => by
      unfold allE
      rw [List.take_add_one, h, List.map_append, List.all_append]
      simp
    refine ⟨.ref l, rfl, l, rfl, ⟨_, hl⟩, for_list (xs := ts.map fun t => V.ref t.1) (fun i σ H' => ∃ y2, σ = [some (.ref l), some (.int (if allE ((ts.take i).map (·.2)) then 0 else (m : Int))), y2] ∧ Same H H') ⟨none, rfl, Same.refl _⟩ (fun i σ H' _ h => ?_) (fun i x σ H' hx h => ?_) (fun σ H' h => ?_)⟩
    · obtain ⟨y2, rfl, sm⟩ := h
      exact sm.seq hl
    · obtain ⟨y2, rfl, sm⟩ := h
      rw [List.getElem?_map] at hx
      obtain ⟨⟨t, L⟩, ht, rfl⟩ := Option.map_eq_some_iff.mp hx
      obtain ⟨hS, hL, hG⟩ := hts _ (List.mem_of_getElem? ht)
      have hS' := hS.same sm
      have hst := hstep ht
      refine ⟨fun σ' H'' => σ' = [some (.ref l), some (.int (if allE ((ts.take (i + 1)).map (·.2)) then 0 else (m : Int))), some (.ref t)] ∧ H'' = H', ?_, ?_⟩
      · refine ⟨.ref t, rfl, !(L.map Trm.v).isEmpty, .inr (.inl ⟨_, hS'.sq, rfl⟩), ?_⟩
        cases L with
        | nil =>
          refine iteF ⟨?_, rfl⟩
          rw [hst]
          show _ = [_, some (V.int (if (_ && true) = true then 0 else (m : Int))), _]
          rw [Bool.and_true]
          rfl
        | cons r L =>
          refine iteT ⟨.int _, rfl, _, rfl, ?_⟩
          obtain ⟨o1, o2⟩ := hS'.rows r List.mem_cons_self
          have hlen : r.ns.length = m := (hG.1 r.d List.mem_cons_self).1
          have hst2 : allE ((ts.take (i + 1)).map (·.2)) = false := by
            rw [hst]
            exact Bool.and_false _
          rw [hst2]
          cases allE ((ts.take i).map (·.2)) with
          | true =>
            refine iteT ⟨.ref t, rfl, t, _, 0, .ref r.t, rfl, rfl, hS'.sq, atI_nat (j := 0) rfl, r.t, _, 0, .ref r.p, rfl, rfl, .inl (.inl o1), atI_nat (j := 0) rfl, r.p, _, rfl, .inr (.inl (.inl o2)), ?_⟩
            refine ⟨_, rfl, true, ?_, iteF ⟨?_, rfl⟩⟩
            · show true = (((r.ns.map V.int).length : Int) != 0)
              rw [List.length_map, hlen]
              simp
              omega
            · rw [List.length_map, hlen]
              rfl
          | false =>
            have hm' : ((m : Int) != 0) = true := by
              simp
              omega
            have e1 : (!((if false = true then (0 : Int) else (m : Int)) != 0)) = false := by
              rw [if_neg Bool.false_ne_true, hm']
              rfl
            show if (!((if false = true then (0 : Int) else (m : Int)) != 0)) = true then _ else _
            rw [e1]
            exact iteF ⟨rfl, rfl⟩
      · rintro σ' H'' ⟨rfl, rfl⟩
        refine ⟨.ref t, rfl, _, rfl, t, _, L, rfl, hS', hL, ?_, fun H2 s2 => ⟨_, rfl, sm.trans s2⟩⟩
        rw [hst]
        cases L with
        | nil => exact fun k hk => absurd hk (Nat.not_lt_zero _)
        | cons r L =>
          show Right (if (_ && false) = true then 0 else (m : Int)) _
          rw [Bool.and_false, if_neg Bool.false_ne_true]
          exact good_right hG
    · obtain ⟨y2, rfl, sm⟩ := h
      rw [List.length_map, List.take_length]
      exact ⟨_, rfl, q _ sm⟩
/-! ### added, plus -/
def spAdded : Sp := fun vs H Q _ => ∃ (t1 t2 : Addr) (m : Nat) (L1 L2 : List Trm), vs = [.ref t1, .ref t2] ∧ SumAt H t1 L1 ∧ SumAt H t2 L2 ∧ L1.length ≤ 2000 ∧ L2.length ≤ 2000 ∧ 0 < m ∧ Good m (L1.map Trm.d) ∧ Good m (L2.map Trm.d) ∧
  ∀ H' (t : Addr) (L : List Trm), Same H H' → SumAt H' t L → Norm (addT (L1.map Trm.d) (L2.map Trm.d)) (L.map Trm.d) → L.length ≤ L1.length + L2.length → Q (.ref t) H'
theorem ok_added {k : Nat} (D : Defs K mg f d) : FnOk P w K mg base CX0 (k + 2) (f i_added) (d i_added) ["one", "other"] spAdded := by
  have G_sum_of_terms : FnOk P w K mg base CX0 (k + 1) (f i_sum_of_terms) (d i_sum_of_terms) ["terms"] spNorm := ok_sumOf D.F_sum_of_terms D.z_tuple D.z_sorted
  refine D.F_added.ok sc_added (fun vs H Q E h => ?_) (fun cdv A outer s H vs Q E hr h => ?_)
  · obtain ⟨t1, t2, m, L1, L2, rfl, _⟩ := h
    rfl
  · obtain ⟨t1, t2, m, L1, L2, rfl, hS1, hS2, hl1, hl2, hm0, hG1, hG2, q⟩ := h
    have nd := sc_added.nd
    have hu := hu_of hr
    refine ⟨_, pss_cons (ps_setDcT (i := 4) (own := [("powers", 2), ("coefficient", 3)]) (g := gTup K 2 (gCons (gName 2) (gCons (gName 3) gNil))) (by rfl) hu nd rfl rfl (sw_trueD rfl rfl rfl (by decide +kernel)) (pi_tup (pv 0)) (blkOk_by (own := [("powers", 2), ("coefficient", 3)]) (N := N_added) (sc := defScope s_added) (by decide +kernel))
          (fun _ _ _ _ _ => pg_tup rfl (pgs_cons (pg_name (i := 2) nd rfl (.inl rfl)) (pgs_cons (pg_name (i := 3) nd rfl (.inl rfl)) pgs_nil))) (fun _ _ _ _ _ => pts_nil) (fun _ _ _ _ _ => pv 2) (fun _ _ _ _ _ => pv 3))
      (pss_cons (ps_for PassesOwn.never rfl (pi_tup (pv 1)) (pg_tup rfl (pgs_cons (pg_name (i := 2) nd rfl (.inl rfl)) (pgs_cons (pg_name (i := 3) nd rfl (.inl rfl)) pgs_nil)))
        (pss_one (ps_dput hu (pv 4) (pv 2) (pe_op op_add (pe_dget2 hu (pv 4) (pv 2) pe_int ⟨rfl, rfl, rfl, rfl⟩) (pv 3)) rfl)))
      (pss_one (ps_ret (pe_call G_sum_of_terms hr (by rfl) D.g_sum_of_terms D.F_sum_of_terms.kp D.b_sum_of_terms .nil pass0 (pa_cons (pv 4) pa_nil))))), ?_⟩
    have nd1 := good_nodup hG1
    refine ⟨.ref t1, rfl, t1, rfl, ⟨_, hS1.sq⟩, fun e ne => ?_⟩
    refine dcT_it (walk_tup (K := K) (a := t1) (xs := L1.map Trm.v)) (fun i H' => H' e = some (dZ (gather idk [] ((L1.take i).map Trm.d))) ∧ But e H H') ⟨upd_same, But.start⟩ (fun i H' _ h => (hS1.same (h.2.same ne)).sq) (fun i x H' H2 hi h hy => ?_) (fun H1 h => ?_)
    · obtain ⟨he, kp⟩ := h
      obtain ⟨rfl, e1⟩ := hy
      rw [List.getElem?_map] at e1
      obtain ⟨r, hr1, rfl⟩ := Option.map_eq_some_iff.mp e1
      have hrm := List.mem_of_getElem? hr1
      obtain ⟨o1, o2⟩ := (hS1.same (kp.same ne)).rows r hrm
      refine ⟨r.t, _, rfl, sqtOf o1, rfl, _, _, rfl, _, _, rfl, rfl, rfl, .ref r.p, rfl, .int r.c, rfl, _, r.ns.map Sum.inl, r.p, rfl, by rw [map_kV]; exact o2, he, ?_, ?_, kp.step (Same.refl _)⟩
      · have := gather_len idk ((L1.take i).map Trm.d) []
        rw [List.length_map, List.length_take, List.length_nil] at this
        rw [List.length_map, sizeLine_eq]
        omega
      · rw [upd_same, putK_enc, List.take_add_one, hr1, List.map_append]
        show _ = some (dZ (gather idk [] ((L1.take i).map Trm.d ++ [r.d])))
        rw [gather_snoc]
        have hnew : val (gather idk [] ((L1.take i).map Trm.d)) r.ns = 0 := by
          rw [val_gather]
          have hd : (L1.map Trm.d)[i]? = some r.d := by rw [List.getElem?_map, hr1]; rfl
          have hnot := nodup_getElem (g := fun q : List Int × Int => q.1) nd1 hd
          rw [← List.map_take] at hnot
          have htot : ∀ {W : Ts}, r.ns ∉ W.map (fun q : List Int × Int => q.1) → tot idk r.ns W = 0 := fun {W} => by
            induction W with
            | nil => intro _; rfl
            | cons q W ih =>
              intro hn
              rw [tot, if_neg (fun z => hn (by rw [z]; exact List.mem_cons_self)), ih fun z => hn (List.mem_cons_of_mem _ z)]
              rfl
          rw [htot hnot]
          rfl
        show _ = some (dZ (setD _ r.ns (val (gather idk [] ((L1.take i).map Trm.d)) r.ns + r.c)))
        rw [hnew, Int.zero_add]
    · obtain ⟨he, kp⟩ := h
      rw [List.length_map, List.take_length] at he
      have s1 := kp.same ne
      refine ⟨.ref t2, rfl, t2, rfl, ⟨_, (hS2.same s1).sq⟩, for_it (walk_tup (K := K) (a := t2) (xs := L2.map Trm.v)) (fun i σ H' => ∃ y2 y3, σ = [some (.ref t1), some (.ref t2), y2, y3, some (.ref e)] ∧ H' e = some (dZ (gather idk (gather idk [] (L1.map Trm.d)) ((L2.take i).map Trm.d))) ∧ But e H H')
        ⟨none, none, rfl, he, kp⟩ (fun i σ H' _ h => ?_) (fun i x σ H' H2 hi h hy => ?_) (fun σ H2 h => ?_)⟩
      · obtain ⟨_, _, _, _, kp2⟩ := h
        exact (hS2.same (kp2.same ne)).sq
      · obtain ⟨y2, y3, rfl, he2, kp2⟩ := h
        obtain ⟨rfl, e1⟩ := hy
        rw [List.getElem?_map] at e1
        obtain ⟨r, hr1, rfl⟩ := Option.map_eq_some_iff.mp e1
        have hrm := List.mem_of_getElem? hr1
        obtain ⟨o1, o2⟩ := (hS2.same (kp2.same ne)).rows r hrm
        refine ⟨r.t, _, rfl, sqtOf o1, rfl, _, _, rfl, _, _, rfl, rfl, ?_⟩
        refine ⟨.ref e, rfl, e, rfl, .inr ⟨_, .inl he2⟩, .ref r.p, rfl, _, DictAt.get (m := m) (.inl he2) o2, .int r.c, rfl, _, r.c, sum_of_get, rfl, ?_⟩
        refine ⟨.ref e, rfl, .ref r.p, rfl, e, _, rfl, DPut.t (k := r.ns.map Sum.inl) he2 (by rw [map_kV]; exact o2) ?_, ?_⟩
        · have h1 := gather_len idk ((L2.take i).map Trm.d) (gather idk [] (L1.map Trm.d))
          have h2 := gather_len idk (L1.map Trm.d) []
          rw [List.length_map, List.length_take] at h1
          rw [List.length_map, List.length_nil] at h2
          rw [List.length_map, sizeLine_eq]
          omega
        · refine ⟨_, _, rfl, ?_, kp2.step (Same.refl _)⟩
          rw [upd_same, putK_enc, List.take_add_one, hr1, List.map_append]
          show _ = some (dZ (gather idk _ ((L2.take i).map Trm.d ++ [r.d])))
          rw [gather_snoc]
          rfl
      · obtain ⟨y2, y3, rfl, he2, kp2⟩ := h
        rw [List.length_map, List.take_length] at he2
        have gl : (addT (L1.map Trm.d) (L2.map Trm.d)).length ≤ L1.length + L2.length := by
          have h1 := gather_len idk (L2.map Trm.d) (gather idk [] (L1.map Trm.d))
          have h2 := gather_len idk (L1.map Trm.d) []
          rw [List.length_map] at h1
          rw [List.length_map, List.length_nil] at h2
          unfold addT
          omega
        refine ⟨.ref e, rfl, e, m, _, rfl, ⟨he2, addT_nodup _ _, gather_keys _ _ (gather_keys _ _ (fun q h => by cases h) fun q hq => (hG1.1 q hq).1) fun q hq => (hG2.1 q hq).1⟩, by show (addT _ _).length ≤ 4000; omega, fun H3 t L s3 nt hS hN hL => ?_⟩
        exact q H3 t L ((kp2.same ne).trans s3) hS hN (Nat.le_trans hL gl)
def spPlusP : Sp := spAdded
theorem ok_plusP {k : Nat} (D : Defs K mg f d) : FnOk P w K mg base CX0 (k + 4) (f i_plus) (d i_plus) ["one", "other"] spPlusP := by
  have G_letters_of : FnOk P w K mg base CX0 (k + 3) (f i_letters_of) (d i_letters_of) ["sums"] (spLoN K) := ok_loN D
  have G_added : FnOk P w K mg base CX0 (k + 3) (f i_added) (d i_added) ["one", "other"] spAdded := (ok_added (k := k) D).mono (by omega)
  refine D.F_plus.ok sc_plus (fun vs H Q E h => ?_) (fun cdv A outer s H vs Q E hr h => ?_)
  · obtain ⟨t1, t2, m, L1, L2, rfl, _⟩ := h
    rfl
  · obtain ⟨t1, t2, m, L1, L2, rfl, hS1, hS2, hl1, hl2, hm0, hG1, hG2, q⟩ := h
    have nd := sc_plus.nd
    refine ⟨_, pss_cons (ps_expr (pe_call G_letters_of hr (by rfl) D.g_letters_of D.F_letters_of.kp D.b_letters_of .nil pass0 (pa_cons (pe_lst (pa_cons (pv 0) (pa_cons (pv 1) pa_nil))) pa_nil)))
      (pss_one (ps_ret (pe_call G_added hr (by rfl) D.g_added D.F_added.kp D.b_added .nil pass0 (pa_cons (pv 0) (pa_cons (pv 1) pa_nil))))), ?_⟩
    refine ⟨.ref t1, rfl, .ref t2, rfl, two_ok, fun l nl => ?_⟩
    have s1 := same_new (o := .lst [V.ref t1, V.ref t2]) nl
    refine ⟨l, m, [(t1, L1), (t2, L2)], rfl, sqlOf upd_same, fun t ht => ?_, hm0, fun H2 s2 => ?_⟩
    · rcases List.mem_cons.mp ht with rfl | ht
      · exact ⟨hS1.same s1, by show L1.length ≤ 4000; omega, hG1⟩
      · cases List.mem_singleton.mp ht
        exact ⟨hS2.same s1, by show L2.length ≤ 4000; omega, hG2⟩
    have s12 := s1.trans s2
    refine ⟨.ref t1, rfl, .ref t2, rfl, t1, t2, m, L1, L2, rfl, hS1.same s12, hS2.same s12, hl1, hl2, hm0, hG1, hG2, fun H3 t L s3 hS hN hL => q H3 t L (s12.trans s3) hS hN hL⟩
end
end NH
set_option Elab.async false
set_option linter.all false
set_option maxRecDepth 100000
set_option maxHeartbeats 1000000
set_option exponentiation.threshold 100000
namespace NH
open PySem PySem.Spec PyProof.Rows L2 R1 ZN PK RS DCT
/-- all sums of the powers of two sums -/
def sums2 (A B : Ts) : List (List Int) := A.flatMap fun p => B.map fun q => addP p.1 q.1
theorem sums2_len (A B : Ts) : (sums2 A B).length = A.length * B.length := by
  unfold sums2
  induction A with
  | nil => simp
  | cons p A ih => rw [List.flatMap_cons, List.length_append, ih, List.length_map, List.length_cons, Nat.succ_mul]; omega
theorem sums2_mem {A B : Ts} {p q : List Int × Int} (hp : p ∈ A) (hq : q ∈ B) : addP p.1 q.1 ∈ sums2 A B :=
  List.mem_flatMap.mpr ⟨p, hp, List.mem_map.mpr ⟨q, hq, rfl⟩⟩
theorem val_unit {m : Nat} {k : List Int} : val [(zerosP m, 1)] k = if k = zerosP m then 1 else 0 := by
  unfold val getO
  rw [List.find?_cons]
  by_cases e : k = zerosP m
  · subst e
    simp
  · rw [if_neg e]
    have : decide ((zerosP m, (1 : Int)).1 = k) = false := decide_eq_false fun z => e z.symm
    rw [this]
    rfl
/-- 1 times a sum -/
theorem mulF_unit {m : Nat} : ∀ {A : Ts} {j : List Int}, (∀ q ∈ A, q.1.length = m) → j.length = m → mulF (val [(zerosP m, 1)]) A j = tot idk j A
  | [], _, _, _ => rfl
  | q :: A, j, hA, hj => by
    have hq := hA q List.mem_cons_self
    rw [mulF, tot, mulF_unit (fun r hr => hA r (List.mem_cons_of_mem _ hr)) hj, val_unit]
    have key : subP j q.1 = zerosP m ↔ j = q.1 := by
      have h := addP_iff (p := zerosP m) (q := q.1) (j := j) (by rw [hq]; exact List.length_replicate ..) (by omega)
      rw [addP_zeros hq] at h
      exact h.symm
    by_cases e : j = q.1
    · rw [if_pos (key.mpr e), if_pos e, Int.mul_one]
    · rw [if_neg (fun z => e (key.mp z)), if_neg e, Int.mul_zero]
theorem powF_congr {F G : List Int → Int} {m : Nat} {B : Ts} (hB : ∀ q ∈ B, q.1.length = m) (h : ∀ k, k.length = m → F k = G k) : ∀ (n : Nat) {j : List Int}, j.length = m → powF F B n j = powF G B n j
  | 0, j, hj => h j hj
  | n + 1, j, hj => mulF_congr (fun k hk => powF_congr hB h n hk) hB hj
section
variable {P : Program} {w : World} {K : PySem.W.Frag} {mg : Str → Option Value} {base : Heap} {f : Nat → Addr} {d : Nat → FuncData}
/-- what times tells of two sums: C's terms are the product's -/
def spTimesP : Sp := fun vs H Q _ => ∃ (t1 t2 : Addr) (m : Nat) (L1 L2 : List Trm), vs = [.ref t1, .ref t2] ∧ SumAt H t1 L1 ∧ SumAt H t2 L2 ∧ L1.length ≤ 1000 ∧ L2.length ≤ 1000 ∧ L1.length * L2.length ≤ 1000 ∧ 0 < m ∧ m ≤ 400 ∧ Good m (L1.map Trm.d) ∧ Good m (L2.map Trm.d) ∧
  (∀ q ∈ L1.map Trm.d ++ L2.map Trm.d, q.2.natAbs < 2 ^ 200 ∧ ∀ x ∈ q.1, x.natAbs ≤ 1000) ∧
  ∀ H' (t : Addr) (L : List Trm) (C : Ts), Same H H' → SumAt H' t L → NodupK C → (∀ j : List Int, val C j = val (mulT (L1.map Trm.d) (L2.map Trm.d)) j) → Norm C (L.map Trm.d) → L.length ≤ 1000 → Q (.ref t) H'
theorem val_out {C : Ts} {m : Nat} (hC : ∀ q ∈ C, q.1.length = m) {j : List Int} (hj : j.length ≠ m) : val C j = 0 := by
  unfold val
  cases e : getO C j with
  | none => rfl
  | some v =>
    exfalso
    unfold getO at e
    obtain ⟨q, hq, _⟩ := Option.map_eq_some_iff.mp e
    have h1 := List.find?_some hq
    have h2 := List.mem_of_find?_eq_some hq
    exact hj (by rw [← of_decide_eq_true h1]; exact hC q h2)
theorem norm_nil : Norm [] [] := ⟨.nil, fun q => by simp⟩
theorem mulT_nil_left (B : Ts) : mulT [] B = [] := rfl
theorem mulT_nil_right (A : Ts) : mulT A [] = [] := by
  have : prodsT A [] = [] := by
    unfold prodsT
    induction A with
    | nil => rfl
    | cons p A ih => rw [List.flatMap_cons, ih]; rfl
  unfold mulT
  rw [this]
  rfl
theorem ok_timesP {k : Nat} (D : Defs K mg f d) : FnOk P w K mg base CX0 (k + 4) (f i_times) (d i_times) ["one", "other"] spTimesP := by
  have G_letters_of : FnOk P w K mg base CX0 (k + 3) (f i_letters_of) (d i_letters_of) ["sums"] (spLoN K) := ok_loN D
  have G_product_of : FnOk P w K mg base CX0 (k + 3) (f i_product_of) (d i_product_of) ["factors", "many"] spProd := ok_prod D
  refine D.F_times.ok sc_times (fun vs H Q E h => ?_) (fun cdv A outer s H vs Q E hr h => ?_)
  · obtain ⟨t1, t2, m, L1, L2, rfl, _⟩ := h
    rfl
  · obtain ⟨t1, t2, m, L1, L2, rfl, hS1, hS2, hl1, hl2, hll, hm0, hm, hG1, hG2, hb, q⟩ := h
    have nd := sc_times.nd
    refine ⟨_, pss_cons (ps_set (i := 2) nd rfl (.inl rfl) (pe_call G_letters_of hr (by rfl) D.g_letters_of D.F_letters_of.kp D.b_letters_of .nil pass0 (pa_cons (pe_lst (pa_cons (pv 0) (pa_cons (pv 1) pa_nil))) pa_nil)))
      (pss_cons (ps_if (PW.pt (pw_or (pt_not (pt_truth (pv 0) (by intro _; rfl))) (pw_or1 (pt_not (pt_truth (pv 1) (by intro _; rfl))))))
        (pss_one (ps_ret (pe_tup pa_nil)))
        pss_nil)
      (pss_one (ps_ret (pe_call G_product_of hr (by rfl) D.g_product_of D.F_product_of.kp D.b_product_of .nil pass0 (pa_cons (pe_lst (pa_cons (pe_tup (pa_cons (pv 0) (pa_cons pe_int pa_nil))) (pa_cons (pe_tup (pa_cons (pv 1) (pa_cons pe_int pa_nil))) pa_nil))) (pa_cons (pv 2) pa_nil)))))), ?_⟩
    refine ⟨.ref t1, rfl, .ref t2, rfl, two_ok, fun l nl => ?_⟩
    have s1 := same_new (o := .lst [V.ref t1, V.ref t2]) nl
    refine ⟨l, m, [(t1, L1), (t2, L2)], rfl, sqlOf upd_same, fun t ht => ?_, hm0, fun H2 s2 => ?_⟩
    · rcases List.mem_cons.mp ht with rfl | ht
      · exact ⟨hS1.same s1, by show L1.length ≤ 4000; omega, hG1⟩
      · cases List.mem_singleton.mp ht
        exact ⟨hS2.same s1, by show L2.length ≤ 4000; omega, hG2⟩
    have s12 := s1.trans s2
    have a1 := hS1.same s12
    have a2 := hS2.same s12
    dsimp only [tSeq, tAsg, gName, tNext]
    have nil0 : L1 = [] ∨ L2 = [] → ∀ p, H2 p = none → Q (.ref p) (upd H2 p (.tup [])) := fun hz p np => by
      refine q _ p [] [] (s12.trans (same_new np)) ⟨upd_same, fun r h => by cases h⟩ List.nodup_nil (fun j => ?_) norm_nil (Nat.zero_le _)
      rcases hz with rfl | rfl
      · rfl
      · rw [List.map_nil, mulT_nil_right]
    refine ⟨.ref t1, rfl, !(L1.map Trm.v).isEmpty, .inr (.inl ⟨_, a1.sq, rfl⟩), ?_⟩
    by_cases e1 : L1 = []
    · subst e1
      exact iteT (iteT ⟨Nat.zero_le _, fun p np => nil0 (.inl rfl) p np⟩)
    have tr1 : (!(L1.map Trm.v).isEmpty) = true := by
      cases L1 with
      | nil => exact absurd rfl e1
      | cons r Lt => rfl
    rw [tr1]
    refine iteF ⟨.ref t2, rfl, !(L2.map Trm.v).isEmpty, .inr (.inl ⟨_, a2.sq, rfl⟩), ?_⟩
    by_cases e2 : L2 = []
    · subst e2
      exact iteT ⟨Nat.zero_le _, fun p np => nil0 (.inr rfl) p np⟩
    have tr2 : (!(L2.map Trm.v).isEmpty) = true := by
      cases L2 with
      | nil => exact absurd rfl e2
      | cons r Lt => rfl
    rw [tr2]
    refine iteF ?_
    dsimp only [tSeq, tAsg, gName, tNext]
    refine ⟨.ref t1, rfl, two_ok, fun u1 nu1 => ⟨.ref t2, rfl, two_ok, fun u2 nu2 => ⟨two_ok, fun l2 nl2 => ?_⟩⟩⟩
    have s3 := same_new (o := .tup [V.ref t1, .int 1]) nu1
    have s4 := same_new (o := .tup [V.ref t2, .int 1]) nu2
    have s5 := same_new (o := .lst [V.ref u1, .ref u2]) nl2
    have hu1 := s5 _ _ (s4 _ _ (upd_same : upd H2 u1 (.tup [V.ref t1, .int 1]) u1 = _))
    have hu2 := s5 _ _ (upd_same : upd (upd H2 u1 (.tup [V.ref t1, .int 1])) u2 (.tup [V.ref t2, .int 1]) u2 = _)
    have hl2' : upd (upd (upd H2 u1 (.tup [V.ref t1, .int 1])) u2 (.tup [V.ref t2, .int 1])) l2 (.lst [V.ref u1, .ref u2]) l2 = some (.lst [V.ref u1, .ref u2]) := upd_same
    have s25 := (s3.trans s4).trans s5
    have sA := s12.trans s25
    generalize upd (upd (upd H2 u1 (.tup [V.ref t1, .int 1])) u2 (.tup [V.ref t2, .int 1])) l2 (.lst [V.ref u1, .ref u2]) = H3 at *
    refine ⟨.int _, rfl, ?_⟩
    have em : (if allE ([(t1, L1), (t2, L2)].map (·.2)) = true then (0 : Int) else (m : Int)) = (m : Nat) := by
      cases L1 with
      | nil => exact absurd rfl e1
      | cons r Lt => rfl
    rw [em]
    let T1 := L1.map Trm.d
    let T2 := L2.map Trm.d
    let F1 : Fac := ⟨u1, t1, L1, 1, 200, fun i => if i = 0 then [zerosP m] else T1.map fun q => q.1⟩
    let F2 : Fac := ⟨u2, t2, L2, 1, 200, fun i => if i = 0 then T1.map fun q => q.1 else sums2 T1 T2⟩
    have b1 : ∀ q ∈ T1, q.2.natAbs < 2 ^ 200 ∧ ∀ x ∈ q.1, x.natAbs ≤ 1000 := fun q hq => hb q (List.mem_append_left _ hq)
    have b2 : ∀ q ∈ T2, q.2.natAbs < 2 ^ 200 ∧ ∀ x ∈ q.1, x.natAbs ≤ 1000 := fun q hq => hb q (List.mem_append_right _ hq)
    have r1 : reachOf T1 ≤ 1000 := reachOf_lub fun q hq => (b1 q hq).2
    have r2 : reachOf T2 ≤ 1000 := reachOf_lub fun q hq => (b2 q hq).2
    refine ⟨l2, m, [F1, F2], fun i => if i = 0 then [zerosP m] else if i = 1 then T1.map fun q => q.1 else sums2 T1 T2, rfl, hl2', ?_, ?_, hm0, hm, by show 2 ≤ 1000; decide, ?_, ?_, ⟨?_, fun i F hF => ?_⟩, ?_, fun H4 t L C sB nt hSt nC lC kC vC hN hLl => ?_⟩
    · intro F hF
      rcases List.mem_cons.mp hF with rfl | hF
      · exact ⟨hu1, hS1.same sA⟩
      · cases List.mem_singleton.mp hF
        exact ⟨hu2, hS2.same sA⟩
    · intro F hF
      rcases List.mem_cons.mp hF with rfl | hF
      · refine ⟨e1, hG1, hl1, Nat.le_refl _, by show 1 ≤ 100; decide, fun q hq => (b1 q hq).1, Nat.le_refl _, fun i hi x hx q hq => ?_, fun i hi => ?_⟩
        · have hi0 : i = 0 := by
            have : i < 1 := hi
            omega
          subst hi0
          cases List.mem_singleton.mp hx
          show addP (zerosP m) q.1 ∈ T1.map fun q => q.1
          rw [addP_zeros (hG1.1 q hq).1]
          exact List.mem_map_of_mem (f := fun q : List Int × Int => q.1) hq
        · show (if i = 0 then [zerosP m] else T1.map fun q => q.1).length ≤ 1000
          split
          · show 1 ≤ 1000
            decide
          · rw [List.length_map, List.length_map]
            exact hl1
      · cases List.mem_singleton.mp hF
        refine ⟨e2, hG2, hl2, Nat.le_refl _, by show 1 ≤ 100; decide, fun q hq => (b2 q hq).1, Nat.le_refl _, fun i hi x hx q hq => ?_, fun i hi => ?_⟩
        · have hi0 : i = 0 := by
            have : i < 1 := hi
            omega
          subst hi0
          obtain ⟨p, hp, rfl⟩ := List.mem_map.mp hx
          exact sums2_mem hp hq
        · show (if i = 0 then T1.map fun q => q.1 else sums2 T1 T2).length ≤ 1000
          split
          · rw [List.length_map, List.length_map]
            exact hl1
          · rw [sums2_len, List.length_map, List.length_map]
            exact hll
    · show reachOf T1 * 1 + (reachOf T2 * 1 + 0) < 2 ^ 20
      omega
    · show 1 + (1 * (200 + 10) + (1 * (200 + 10) + 0)) ≤ 40000
      decide
    · exact List.mem_singleton.mpr rfl
    · match i, hF with
      | 0, hF =>
        cases hF
        exact ⟨fun x hx => hx, fun x hx => hx⟩
      | 1, hF =>
        cases hF
        exact ⟨fun x hx => hx, fun x hx => hx⟩
    · show (sums2 T1 T2).length ≤ 1000
      rw [sums2_len, List.length_map, List.length_map]
      exact hll
    · refine q H4 t L C (sA.trans sB) hSt nC (fun j => ?_) hN hLl
      have hA1 : ∀ q ∈ T1, q.1.length = m := fun q hq => (hG1.1 q hq).1
      have hA2 : ∀ q ∈ T2, q.1.length = m := fun q hq => (hG2.1 q hq).1
      by_cases hj : j.length = m
      · rw [vC j hj]
        show mulF (mulF (val [(zerosP m, 1)]) T1) T2 j = val (mulT T1 T2) j
        rw [mulT_val (good_nodup hG1) hA1 hA2 hj]
        exact mulF_congr (fun k hk => by rw [mulF_unit hA1 hk, tot_val k (good_nodup hG1)]) hA2 hj
      · rw [val_out lC hj, val_out (mulT_len hA1 hA2) hj]
end
end NH
set_option Elab.async false
set_option linter.all false
set_option maxRecDepth 100000
set_option maxHeartbeats 1000000
set_option exponentiation.threshold 100000
namespace NH
open PySem PySem.Spec PyProof.Rows L2 R1 ZN PK RS DCT
/-! ### what covers the powers of a sum -/
def covN (m : Nat) (v : List Int) (prev : Nat → List (List Int)) : Nat → List (List Int)
  | 0 => [zerosP m]
  | n + 1 => prev (n + 1) ++ (covN m v prev n).map fun x => addP x v
def covS (m : Nat) : List (List Int) → Nat → List (List Int)
  | [], n => if n = 0 then [zerosP m] else []
  | v :: vs, n => covN m v (covS m vs) n
def cntN (prev : Nat → Nat) : Nat → Nat
  | 0 => 1
  | n + 1 => prev (n + 1) + cntN prev n
def cntS : Nat → Nat → Nat
  | 0, n => if n = 0 then 1 else 0
  | k + 1, n => cntN (cntS k) n
theorem covS_zero (m : Nat) (vs : List (List Int)) : covS m vs 0 = [zerosP m] := by cases vs <;> rfl
theorem covS_succ (m : Nat) (v : List Int) (vs : List (List Int)) (n : Nat) : covS m (v :: vs) (n + 1) = covS m vs (n + 1) ++ (covS m (v :: vs) n).map fun x => addP x v := rfl
theorem covS_len (m : Nat) : ∀ (vs : List (List Int)) (n : Nat), (covS m vs n).length = cntS vs.length n
  | [], n => by
    by_cases h : n = 0
    · subst h
      rfl
    · show (if n = 0 then [zerosP m] else []).length = if n = 0 then 1 else 0
      rw [if_neg h, if_neg h]
      rfl
  | v :: vs, n => by
    have ih := covS_len m vs
    show (covN m v (covS m vs) n).length = cntN (cntS vs.length) n
    induction n with
    | zero => rfl
    | succ n ihn => rw [covN, cntN, List.length_append, List.length_map, ih, ihn]
theorem covS_step {m : Nat} : ∀ {vs : List (List Int)} (n : Nat) {x d : List Int}, x ∈ covS m vs n → d ∈ vs → addP x d ∈ covS m vs (n + 1)
  | [], _, _, _, _, hd => by cases hd
  | v :: vs, n, x, d, hx, hd => by
    induction n generalizing x with
    | zero =>
      rw [covS_succ]
      rcases List.mem_cons.mp hd with rfl | hd
      · exact List.mem_append_right _ (List.mem_map_of_mem (f := fun x => addP x d) hx)
      · rw [covS_zero] at hx
        exact List.mem_append_left _ (covS_step 0 (by rw [covS_zero]; exact hx) hd)
    | succ n ih =>
      rw [covS_succ]
      rcases List.mem_cons.mp hd with rfl | hd'
      · exact List.mem_append_right _ (List.mem_map_of_mem (f := fun x => addP x d) hx)
      · rw [covS_succ] at hx
        rcases List.mem_append.mp hx with hx | hx
        · exact List.mem_append_left _ (covS_step (n + 1) hx hd')
        · obtain ⟨y, hy, rfl⟩ := List.mem_map.mp hx
          have e : addP (addP y v) d = addP (addP y d) v := by rw [addP_assoc, addP_assoc, addP_comm v d]
          rw [e]
          exact List.mem_append_right _ (List.mem_map_of_mem (f := fun x => addP x v) (ih _ hy))
theorem cntS_ok : ∀ k, k ≤ 6 → ∀ n, n ≤ (if k ≤ 4 then 13 else if k = 5 then 9 else 7) → cntS k n ≤ 1000 := by decide +kernel
section
variable {P : Program} {w : World} {K : PySem.W.Frag} {mg : Str → Option Value} {base : Heap} {f : Nat → Addr} {d : Nat → FuncData}
def spPowerP : Sp := fun vs H Q _ => ∃ (t1 : Addr) (m n : Nat) (L1 : List Trm) (S : Nat → List (List Int)), vs = [.ref t1, .int (n : Nat)] ∧ SumAt H t1 L1 ∧ L1.length ≤ 1000 ∧ 1 ≤ n ∧ n ≤ 12 ∧ 0 < m ∧ m ≤ 400 ∧ Good m (L1.map Trm.d) ∧
  (∀ q ∈ L1.map Trm.d, q.2.natAbs < 2 ^ 200 ∧ ∀ x ∈ q.1, x.natAbs ≤ 1000) ∧ zerosP m ∈ S 0 ∧ (∀ i, i < n → ∀ x ∈ S i, ∀ q ∈ L1.map Trm.d, addP x q.1 ∈ S (i + 1)) ∧ (∀ i, i ≤ n → (S i).length ≤ 1000) ∧
  ∀ H' (t : Addr) (L : List Trm) (C : Ts), Same H H' → SumAt H' t L → NodupK C → (∀ q ∈ C, q.1.length = m) → (∀ j : List Int, j.length = m → val C j = powF (val [(zerosP m, 1)]) (L1.map Trm.d) n j) → Norm C (L.map Trm.d) → L.length ≤ 1000 → Q (.ref t) H'
theorem powF_nil {m n : Nat} (hn : 1 ≤ n) (j : List Int) : powF (val [(zerosP m, 1)]) [] n j = 0 := by
  obtain ⟨k, rfl⟩ : ∃ k, n = k + 1 := ⟨n - 1, by omega⟩
  rfl
theorem ok_powerP {k : Nat} (D : Defs K mg f d) (hMT : ∃ u, mg "MOST_TIMES" = some u ∧ RelV (.int 12) u) : FnOk P w K mg base CX0 (k + 4) (f i_power) (d i_power) ["one", "times"] spPowerP := by
  have G_letters_of : FnOk P w K mg base CX0 (k + 3) (f i_letters_of) (d i_letters_of) ["sums"] (spLoN K) := ok_loN D
  have G_product_of : FnOk P w K mg base CX0 (k + 3) (f i_product_of) (d i_product_of) ["factors", "many"] spProd := ok_prod D
  refine D.F_power.ok sc_power (fun vs H Q E h => ?_) (fun cdv A outer s H vs Q E hr h => ?_)
  · obtain ⟨t1, m, n, L1, S, rfl, _⟩ := h
    rfl
  · obtain ⟨t1, m, n, L1, S, rfl, hS1, hl1, hn1, hn, hm0, hm, hG1, hb, hS0, hSS, hSl, q⟩ := h
    have nd := sc_power.nd
    refine ⟨_, pss_cons (ps_set (i := 2) nd rfl (.inl rfl) (pe_call G_letters_of hr (by rfl) D.g_letters_of D.F_letters_of.kp D.b_letters_of .nil pass0 (pa_cons (pe_lst (pa_cons (pv 0) pa_nil)) pa_nil)))
      (pss_cons (ps_if (pt_not (pt_chain op_le op_le pe_int (pv 1) (C8.pe_gc (by rfl) hMT)))
        pss_never
        pss_nil)
      (pss_cons (ps_if (pt_not (pt_truth (pv 0) (by intro _; rfl)))
        (pss_one (ps_ret (pe_tup pa_nil)))
        pss_nil)
      (pss_one (ps_ret (pe_call G_product_of hr (by rfl) D.g_product_of D.F_product_of.kp D.b_product_of .nil pass0 (pa_cons (pe_lst (pa_cons (pe_tup (pa_cons (pv 0) (pa_cons (pv 1) pa_nil))) pa_nil)) (pa_cons (pv 2) pa_nil))))))), ?_⟩
    refine ⟨.ref t1, rfl, one1, fun l nl => ?_⟩
    have s1 := same_new (o := .lst [V.ref t1]) nl
    refine ⟨l, m, [(t1, L1)], rfl, sqlOf upd_same, fun t ht => ?_, hm0, fun H2 s2 => ?_⟩
    · cases List.mem_singleton.mp ht
      exact ⟨hS1.same s1, by show L1.length ≤ 4000; omega, hG1⟩
    have s12 := s1.trans s2
    have a1 := hS1.same s12
    dsimp only [tSeq, tAsg, gName, tNext]
    refine ⟨.int (n : Nat), rfl, 1, (n : Nat), rfl, rfl, _, rfl, ite2 (fun _ => ?_) (fun e => absurd (decide_eq_true (by omega)) e)⟩
    refine ⟨(n : Nat), 12, rfl, rfl, _, rfl, ?_⟩
    rw [decide_eq_true (show ((n : Nat) : Int) ≤ 12 by omega)]
    refine iteF ?_
    have em : L1 ≠ [] → (if allE ([(t1, L1)].map (·.2)) = true then (0 : Int) else (m : Int)) = (m : Nat) := fun z => by
      cases L1 with
      | nil => exact absurd rfl z
      | cons r Lt => rfl
    dsimp only [tSeq, tAsg, gName, tNext]
    refine ⟨.ref t1, rfl, !(L1.map Trm.v).isEmpty, .inr (.inl ⟨_, a1.sq, rfl⟩), ?_⟩
    by_cases e1 : L1 = []
    · subst e1
      refine iteT ⟨Nat.zero_le _, fun p np => ?_⟩
      exact q _ p [] [] (s12.trans (same_new np)) ⟨upd_same, fun r h => by cases h⟩ List.nodup_nil (fun q h => by cases h) (fun j hj => (powF_nil hn1 j).symm) norm_nil (Nat.zero_le _)
    have tr1 : (!(L1.map Trm.v).isEmpty) = true := by
      cases L1 with
      | nil => exact absurd rfl e1
      | cons r Lt => rfl
    rw [tr1]
    refine iteF ?_
    rw [em e1]
    dsimp only [tSeq, tAsg, gName, tNext]
    refine ⟨.ref t1, rfl, .int (n : Nat), rfl, two_ok, fun u1 nu1 => ⟨one1, fun l2 nl2 => ?_⟩⟩
    have s3 := same_new (o := .tup [V.ref t1, .int (n : Nat)]) nu1
    have s5 := same_new (o := .lst [V.ref u1]) nl2
    have hu1 := s5 _ _ (upd_same : upd H2 u1 (.tup [V.ref t1, .int (n : Nat)]) u1 = _)
    have hl2' : upd (upd H2 u1 (.tup [V.ref t1, .int (n : Nat)])) l2 (.lst [V.ref u1]) l2 = some (.lst [V.ref u1]) := upd_same
    have sA := s12.trans (s3.trans s5)
    generalize upd (upd H2 u1 (.tup [V.ref t1, .int (n : Nat)])) l2 (.lst [V.ref u1]) = H3 at *
    refine ⟨.int (m : Nat), rfl, ?_⟩
    let T1 := L1.map Trm.d
    let F1 : Fac := ⟨u1, t1, L1, n, 200, S⟩
    have r1 : reachOf T1 ≤ 1000 := reachOf_lub fun q hq => (hb q hq).2
    refine ⟨l2, m, [F1], fun i => if i = 0 then S 0 else S n, rfl, hl2', ?_, ?_, hm0, hm, by show 1 ≤ 1000; decide, ?_, ?_, ⟨hS0, fun i F hF => ?_⟩, hSl n (Nat.le_refl n), fun H4 t L C sB nt hSt nC lC kC vC hN hLl => ?_⟩
    · intro F hF
      cases List.mem_singleton.mp hF
      exact ⟨hu1, hS1.same sA⟩
    · intro F hF
      cases List.mem_singleton.mp hF
      exact ⟨e1, hG1, hl1, hn1, by show n ≤ 100; omega, fun q hq => (hb q hq).1, Nat.le_refl _, hSS, hSl⟩
    · show reachOf T1 * n + 0 < 2 ^ 20
      have : reachOf T1 * n ≤ 1000 * 12 := Nat.mul_le_mul r1 hn
      omega
    · show 1 + (n * (200 + 10) + 0) ≤ 40000
      omega
    · match i, hF with
      | 0, hF =>
        cases hF
        exact ⟨fun x hx => hx, fun x hx => hx⟩
    · exact q H4 t L C (sA.trans sB) hSt nC lC (fun j hj => vC j hj) hN hLl
end
end NH
set_option Elab.async false
set_option linter.all false
set_option maxRecDepth 100000
set_option maxHeartbeats 1000000
set_option exponentiation.threshold 100000
namespace NH
open PySem PySem.Spec PyProof.Rows L2 R1 ZN PK RS DCT
theorem gather_app (z : List Int → List Int) : ∀ (V W A : Ts), gather z A (V ++ W) = gather z (gather z A V) W
  | [], _, _ => rfl
  | q :: V, W, A => gather_app z V W _
theorem prodsT_step {A B : Ts} {i : Nat} {p : List Int × Int} (h : A[i]? = some p) : prodsT (A.take (i + 1)) B = prodsT (A.take i) B ++ B.map fun q => (addP p.1 q.1, p.2 * q.2) := by
  unfold prodsT
  rw [List.take_add_one, h, List.flatMap_append]
  simp
theorem prodsT_length (A B : Ts) : (prodsT A B).length = A.length * B.length := by
  unfold prodsT
  induction A with
  | nil => simp
  | cons p A ih =>
    rw [List.flatMap_cons, List.length_append, ih, List.length_map, List.length_cons, Nat.succ_mul]
    omega
section
variable {P : Program} {w : World} {K : PySem.W.Frag} {mg : Str → Option Value} {base : Heap} {f : Nat → Addr} {d : Nat → FuncData}
def tInner (K : PySem.W.Frag) : TS := tFor (iKeys (tVar 1)) (gName 4) (tSeq
  (tAsg (tCB (rTupOf5 K) (tCons (tLc (RZ.iZipA K (tCons (tVar 3) (tCons (tVar 4) tNil))) (gTup K 2 (gCons (gName 6) (gCons (gName 7) gNil))) tYes (tOp (rI0 fun i j => V.int (i + j)) (tVar 6) (tVar 7)) [6, 7]) tNil)) (gName 5))
  (sDPut (tVar 2) (tVar 5) (tOp (rI0 fun i j => V.int (i + j)) (tDGet2 (tVar 2) (tVar 5) (tC (V.int 0))) (tOp (rI CMulX fun i j => V.int (i * j)) (tDGet (tVar 0) (tVar 3)) (tDGet (tVar 1) (tVar 4))))))
theorem inner_ok {Dn : Ends} {d1 d2 e qa : Addr} {m : Nat} {D1 D2 R : Ts} {r : List Int × Int} {od2 : Obj} {y4 y5 : Option V} {Hf : Hp} (rd1 : Rd Hf d1 (dZ D1)) (hd2 : Hf d2 = some (.frz od2 (dZ D2))) (n1 : NodupK D1) (n2 : NodupK D2) (ed1 : e ≠ d1) (ed2 : e ≠ d2) (eqa : e ≠ qa)
    (hqa : Hf qa = some (.tup (r.1.map V.int))) (hr : r ∈ D1) (lr : r.1.length = m) (hm : m ≤ 400) (l2 : ∀ q ∈ D2, q.1.length = m) (hR : Hf e = some (dZ R)) (hlen : R.length + D2.length ≤ 4000000) (c1 : r.2.natAbs < 2 ^ 40000) (c2 : ∀ q ∈ D2, q.2.natAbs < 2 ^ 40000)
    (fin : ∀ (y4 y5 : Option V) (H' : Hp), H' e = some (dZ (gather idk R (D2.map fun q => (addP r.1 q.1, r.2 * q.2)))) → But e Hf H' → Dn.nx [some (.ref d1), some (.ref d2), some (.ref e), some (.ref qa), y4, y5, none, none] H') :
    tInner K Dn [some (.ref d1), some (.ref d2), some (.ref e), some (.ref qa), y4, y5, none, none] Hf := by
  refine ⟨.ref d2, rfl, d2, od2, rfl, .inr ⟨_, hd2, for_it (walk_keysT (d := d2) (o := od2) (kvs := D2.map enc)) (fun j σ H' => ∃ (y4 y5 : Option V), σ = [some (.ref d1), some (.ref d2), some (.ref e), some (.ref qa), y4, y5, none, none] ∧ H' e = some (dZ (gather idk R ((D2.take j).map fun q => (addP r.1 q.1, r.2 * q.2)))) ∧ But e Hf H')
      ⟨y4, y5, rfl, hR, fun _ _ _ x => x⟩ (fun j σ H' _ h => ?_) (fun j x σ H0 H' hj h hy => ?_) (fun σ H' h => ?_)⟩⟩
  · obtain ⟨_, _, _, _, kp⟩ := h
    exact kp _ _ ed2.symm hd2
  · obtain ⟨y4, y5, rfl, hG, kp⟩ := h
    obtain ⟨rfl, kk, v, qb, e1, rfl, hqb⟩ := hy
    obtain ⟨q1, hq1, eq1⟩ := Option.map_eq_some_iff.mp (by rw [List.getElem?_map] at e1; exact e1)
    cases eq1
    have hqm := List.mem_of_getElem? hq1
    rw [map_kV] at hqb
    have hqa' := kp _ _ eqa.symm hqa
    have lq := l2 q1 hqm
    refine ⟨.ref qa, rfl, .ref qb, rfl, qa, qb, _, _, rfl, .inr ⟨sqtOf hqa', sqtOf hqb, fun F nF => ?_⟩⟩
    refine lc_it (walk_zipT (xs := r.1.map V.int) (ys := q1.1.map V.int) (by rw [List.length_map, List.length_map, lr, lq])) (fun j H2 => H2 F = some (.lst (((addP r.1 q1.1).take j).map V.int)) ∧ But F H' H2) ⟨upd_same, But.start⟩ (fun j H2 _ h => ⟨sqtOf (h.2.at_ nF hqa'), sqtOf (h.2.at_ nF hqb)⟩) (fun j x H2 H3 hj h hy => ?_) (fun H2 h => ?_)
    · obtain ⟨hF, kp2⟩ := h
      obtain ⟨T, x1, x2, rfl, nT, rfl, e1, e2⟩ := hy
      dsimp only at e1 e2
      rw [List.getElem?_map] at e1 e2
      obtain ⟨n1, f1, rfl⟩ := Option.map_eq_some_iff.mp e1
      obtain ⟨n2, f2, rfl⟩ := Option.map_eq_some_iff.mp e2
      have sT := same_new (o := .tup [.int n1, .int n2]) nT
      refine ⟨T, _, rfl, sqtOf upd_same, rfl, _, _, rfl, _, _, rfl, rfl, rfl, .int n1, rfl, .int n2, rfl, n1, n2, rfl, rfl, _, sT _ _ hF, ?_, ?_, kp2.step sT⟩
      · rw [List.length_map, List.length_take, addP_len lr lq, sizeLine_eq]
        omega
      · rw [upd_same]
        unfold addP
        rw [zip_take f1 f2, List.map_append]
        rfl
    · obtain ⟨hF, kp2⟩ := h
      rw [List.length_map, List.take_of_length_le (by rw [addP_len lr lq, lr]; exact Nat.le_refl _)] at hF
      refine ⟨F, _, rfl, .inl ⟨sqlOf hF, fun t nt => ?_⟩⟩
      have s2 := kp2.same nF
      have s3 := same_new (o := .tup ((addP r.1 q1.1).map V.int)) nt
      have s23 := s2.trans s3
      have ht : upd H2 t (.tup ((addP r.1 q1.1).map V.int)) t = some (.tup ((addP r.1 q1.1).map V.int)) := upd_same
      generalize upd H2 t (.tup ((addP r.1 q1.1).map V.int)) = H3 at s23 ht
      have hG3 := s23 _ _ hG
      have hqa3 := s23 _ _ hqa'
      have hqb3 := s23 _ _ hqb
      have rd13 : Rd H3 d1 (dZ D1) := by
        rcases rd1 with h | ⟨o, h⟩
        · exact .inl (s23 _ _ (kp _ _ ed1.symm h))
        · exact .inr ⟨o, s23 _ _ (kp _ _ ed1.symm h)⟩
      have hd23 := s23 _ _ (kp _ _ ed2.symm hd2)
      have g1 : DGet H3 d1 (.ref qa) (some (.int r.2)) := by
        have := DictAt.get (m := m) (D := D1) (k := r.1) rd13 hqa3
        rwa [show getO D1 r.1 = some r.2 from (getO_mem n1).mpr hr] at this
      have g2 : DGet H3 d2 (.ref qb) (some (.int q1.2)) := by
        have := DictAt.get (m := m) (D := D2) (k := q1.1) (.inr ⟨od2, hd23⟩) hqb3
        rwa [show getO D2 q1.1 = some q1.2 from (getO_mem n2).mpr hqm] at this
      have hGl := gather_len idk ((D2.take j).map fun q => (addP r.1 q.1, r.2 * q.2)) R
      rw [List.length_map, List.length_take] at hGl
      have hsn : gather idk R ((D2.take (j + 1)).map fun q => (addP r.1 q.1, r.2 * q.2)) = addD (gather idk R ((D2.take j).map fun q => (addP r.1 q.1, r.2 * q.2))) (addP r.1 q1.1) (r.2 * q1.2) := by
        rw [List.take_add_one, hq1, List.map_append]
        exact gather_snoc idk (addP r.1 q1.1, r.2 * q1.2) _ R
      rw [hsn]
      generalize gather idk R ((D2.take j).map fun q => (addP r.1 q.1, r.2 * q.2)) = G at hG3 hGl
      dsimp only [tSeq, tAsg, gName]
      refine ⟨.ref e, rfl, e, rfl, .inr ⟨_, .inl hG3⟩, .ref t, rfl, (getO G (addP r.1 q1.1)).map V.int, DictAt.get (m := m) (.inl hG3) ht, ?_⟩
      rw [sum_of_get]
      refine ⟨.ref d1, rfl, .ref qa, rfl, d1, .int r.2, rfl, g1, .ref d2, rfl, .ref qb, rfl, d2, .int q1.2, rfl, g2, r.2, q1.2, rfl, rfl, mulx c1 (c2 q1 hqm) (by decide), _, _, rfl, rfl, .ref e, rfl, .ref t, rfl, e, _, rfl, DPut.t (k := (addP r.1 q1.1).map Sum.inl) hG3 (by rw [map_kV]; exact ht) ?_, some (.ref qb), some (.ref t), rfl, ?_, (kp.then s23).step (Same.refl _)⟩
      · rw [List.length_map, sizeLine_eq]
        omega
      · rw [upd_same, NH.putK_enc]
        rfl
  · obtain ⟨y4, y5, rfl, hG, kp⟩ := h
    rw [List.length_map, List.take_length] at hG
    exact fin y4 y5 H' hG kp
def spLTimes : Sp := fun vs H Q _ => ∃ (d1 d2 : Addr) (m : Nat) (D1 D2 : Ts), vs = [.ref d1, .ref d2] ∧ DictAt H d1 m D1 ∧ DictAt H d2 m D2 ∧ D1.length ≤ 1000 ∧ D2.length ≤ 1000 ∧ m ≤ 400 ∧ (∀ q ∈ D1, q.2.natAbs < 2 ^ 40000) ∧ (∀ q ∈ D2, q.2.natAbs < 2 ^ 40000) ∧
  ∀ H' (e : Addr), Same H H' → H e = none → DictAt H' e m (mulT D1 D2) → Q (.ref e) H'
theorem ok_ltimes {k : Nat} (D : Defs K mg f d) : FnOk P w K mg base CX0 (k + 1) (f i__law_times) (d i__law_times) ["_law_one", "_law_other"] spLTimes := by
  refine D.F__law_times.ok sc__law_times (fun vs H Q E h => ?_) (fun cdv A outer s H vs Q E hr h => ?_)
  · obtain ⟨d1, d2, m, D1, D2, rfl, _⟩ := h
    rfl
  · obtain ⟨d1, d2, m, D1, D2, rfl, h1, h2, l1, l2, hm, c1, c2, q⟩ := h
    have nd := sc__law_times.nd
    have hu := hu_of hr
    refine ⟨_, pss_cons (ps_set (i := 2) nd rfl (.inl rfl) (pe_dnewT))
      (pss_cons (ps_lock (ps_for PassesOwn.never rfl (pi_keys (pv 0)) (pg_name (i := 3) nd rfl (.inl rfl))
        (pss_one (ps_or (ps_lock (ps_for PassesOwn.never rfl (pi_keys (pv 1)) (pg_name (i := 4) nd rfl (.inl rfl))
            (pss_cons (ps_set (i := 5) nd rfl (.inl rfl) (pe_callTy call_tuple_of (by rfl) D.z_tuple (by decide +kernel) (pa_cons (pe_lc (own := [("_law_a", 6), ("_law_b", 7)]) (g := (gTup K 2 (gCons (gName 6) (gCons (gName 7) gNil)))) (by rfl) nd (RZ.pi_zipA (by rfl) D.z_zip (pa_cons (pv 3) (pa_cons (pv 4) pa_nil))) (blkOk_by (own := [("_law_a", 6), ("_law_b", 7)]) (N := N__law_times) (sc := defScope s__law_times) (by decide +kernel))
          (fun _ _ _ _ _ => pg_tup rfl (pgs_cons (pg_name (i := 6) nd rfl (.inl rfl)) (pgs_cons (pg_name (i := 7) nd rfl (.inl rfl)) pgs_nil))) (fun _ _ _ _ _ => pts_nil) (fun _ _ _ _ _ => pe_op op_add (pv 6) (pv 7))) pa_nil)))
              (pss_one (ps_dput hu (pv 2) (pv 5) (pe_op op_add (pe_dget2 hu (pv 2) (pv 5) pe_int ⟨rfl, rfl, rfl, rfl⟩) (pe_op op_mulX (pe_dget hu (pv 0) (pv 3) (fun _ _ => rfl)) (pe_dget hu (pv 1) (pv 4) (fun _ _ => rfl)))) rfl)))))
          (ps_for PassesOwn.never rfl (pi_keys (pv 1)) (pg_name (i := 4) nd rfl (.inl rfl))
            (pss_cons (ps_set (i := 5) nd rfl (.inl rfl) (pe_callTy call_tuple_of (by rfl) D.z_tuple (by decide +kernel) (pa_cons (pe_lc (own := [("_law_a", 6), ("_law_b", 7)]) (g := (gTup K 2 (gCons (gName 6) (gCons (gName 7) gNil)))) (by rfl) nd (RZ.pi_zipA (by rfl) D.z_zip (pa_cons (pv 3) (pa_cons (pv 4) pa_nil))) (blkOk_by (own := [("_law_a", 6), ("_law_b", 7)]) (N := N__law_times) (sc := defScope s__law_times) (by decide +kernel))
          (fun _ _ _ _ _ => pg_tup rfl (pgs_cons (pg_name (i := 6) nd rfl (.inl rfl)) (pgs_cons (pg_name (i := 7) nd rfl (.inl rfl)) pgs_nil))) (fun _ _ _ _ _ => pts_nil) (fun _ _ _ _ _ => pe_op op_add (pv 6) (pv 7))) pa_nil)))
              (pss_one (ps_dput hu (pv 2) (pv 5) (pe_op op_add (pe_dget2 hu (pv 2) (pv 5) pe_int ⟨rfl, rfl, rfl, rfl⟩) (pe_op op_mulX (pe_dget hu (pv 0) (pv 3) (fun _ _ => rfl)) (pe_dget hu (pv 1) (pv 4) (fun _ _ => rfl)))) rfl))))))))
      (pss_one (ps_ret (pv 2)))), ?_⟩
    refine fun e ne => ?_
    have se := same_new (o := .dT []) ne
    have he : upd H e (.dT []) e = some (.dT []) := upd_same
    have ed1 : e ≠ d1 := (ne_of_none h1.at_ ne).symm
    have ed2 : e ≠ d2 := (ne_of_none h2.at_ ne).symm
    have h1a := h1.same se
    have h2a := h2.same se
    generalize hH1 : upd H e (.dT []) = H1 at *
    refine ⟨d1, _, h1a.at_, trivial, fun od => ?_⟩
    refine ⟨.ref d1, rfl, d1, od, rfl, .inr ⟨_, upd_same, for_it (walk_keysT (d := d1) (o := od) (kvs := D1.map enc)) (fun i σ H' => ∃ (y3 y4 y5 : Option V), σ = [some (.ref d1), some (.ref d2), some (.ref e), y3, y4, y5, none, none] ∧ H' e = some (dZ (gather idk [] (prodsT (D1.take i) D2))) ∧ But e (upd H1 d1 (.frz od (dZ D1))) H')
      ⟨none, none, none, rfl, by rw [upd_ne ed1]; exact he, fun _ _ _ x => x⟩ (fun i σ H' _ h => ?_) (fun i x σ H0 H' hi h hy => ?_) (fun σ H' h => ?_)⟩⟩
    · obtain ⟨_, _, _, _, _, kp⟩ := h
      exact kp _ _ ed1.symm upd_same
    · obtain ⟨y3, y4, y5, rfl, hR, kp⟩ := h
      obtain ⟨rfl, kk, v, qa, e1, rfl, hqa⟩ := hy
      obtain ⟨r, hr1, er⟩ := Option.map_eq_some_iff.mp (by rw [List.getElem?_map] at e1; exact e1)
      cases er
      have hrm := List.mem_of_getElem? hr1
      rw [map_kV] at hqa
      have eqa : e ≠ qa := fun z => by rw [← z, hR] at hqa; cases hqa
      have rd1 : H' d1 = some (.frz od (dZ D1)) := kp _ _ ed1.symm upd_same
      have hRl : (gather idk [] (prodsT (D1.take i) D2)).length + D2.length ≤ 4000000 := by
        have h1 := gather_len idk (prodsT (D1.take i) D2) []
        rw [prodsT_length, List.length_take, List.length_nil] at h1
        have h3 : min i D1.length * D2.length ≤ 1000 * 1000 := Nat.mul_le_mul (by omega) l2
        omega
      have stp : gather idk (gather idk [] (prodsT (D1.take i) D2)) (D2.map fun q => (addP r.1 q.1, r.2 * q.2)) = gather idk [] (prodsT (D1.take (i + 1)) D2) := by
        rw [prodsT_step hr1, gather_app]
      by_cases hdd : d2 = d1
      · subst hdd
        have eD : D2 = D1 := by
          have h3 := h2.at_.symm.trans h1.at_
          have h4 : D2.map enc = D1.map enc := by injection (Option.some.inj h3)
          have hinj : ∀ {A B : Ts}, A.map enc = B.map enc → A = B := fun {A} => by
            induction A with
            | nil => intro B hB; cases B with
              | nil => rfl
              | cons b B => cases hB
            | cons a A ih => intro B hB; cases B with
              | nil => cases hB
              | cons b B =>
                rw [List.map_cons, List.map_cons] at hB
                obtain ⟨hab, hAB⟩ := List.cons.inj hB
                rw [ih hAB]
                congr 1
                obtain ⟨a1, a2⟩ := a
                obtain ⟨b1, b2⟩ := b
                have h5 := congrArg Prod.fst hab
                have h6 := congrArg Prod.snd hab
                have h7 : a1 = b1 := NH.inl_inj.mp h5
                have h8 : a2 = b2 := V.int.inj h6
                rw [h7, h8]
          exact hinj h4
        subst eD
        refine .inr (inner_ok (m := m) (.inr ⟨od, rd1⟩) rd1 h1.nodup h2.nodup ed1 ed2 eqa hqa hrm (h1.len r hrm) hm h2.len hR hRl (c1 r hrm) c2 fun y4 y5 H2 hG kp2 => ?_)
        exact ⟨some (.ref qa), y4, y5, rfl, by rw [← stp]; exact hG, fun b o hb eb => kp2 b o hb (kp b o hb eb)⟩
      · have hd2 : H' d2 = some (dZ D2) := kp _ _ ed2.symm (by rw [upd_ne hdd]; exact h2a.at_)
        refine .inl ⟨d2, _, hd2, trivial, fun od2 => ?_⟩
        have hF2 : upd H' d2 (.frz od2 (dZ D2)) d2 = some (.frz od2 (dZ D2)) := upd_same
        have qa2 : qa ≠ d2 := fun z => by rw [z, hd2] at hqa; cases hqa
        refine inner_ok (m := m) (.inr ⟨od, by rw [upd_ne (fun z => hdd z.symm)]; exact rd1⟩) hF2 h1.nodup h2.nodup ed1 ed2 eqa (by rw [upd_ne qa2]; exact hqa) hrm (h1.len r hrm) hm h2.len (by rw [upd_ne ed2]; exact hR) hRl (c1 r hrm) c2 fun y4 y5 H2 hG kp2 => ?_
        refine ⟨kp2 _ _ ed2.symm hF2, some (.ref qa), y4, y5, rfl, by rw [upd_ne ed2, ← stp]; exact hG, fun b o hb eb => ?_⟩
        by_cases z : b = d2
        · rw [z] at eb ⊢
          rw [upd_ne hdd, h2a.at_] at eb
          rw [upd_same]
          exact eb
        · rw [upd_ne z]
          exact kp2 b o hb (by rw [upd_ne z]; exact kp b o hb eb)
    · obtain ⟨y3, y4, y5, rfl, hR, kp⟩ := h
      rw [List.length_map, List.take_length] at hR
      refine ⟨kp _ _ ed1.symm upd_same, _, rfl, q _ e (fun b o eb => ?_) ne ⟨by rw [upd_ne ed1]; exact hR, mulT_nodup _ _, mulT_len h1.len h2.len⟩⟩
      have b1 := se _ _ eb
      have be : b ≠ e := ne_of_none eb ne
      by_cases z : b = d1
      · rw [z] at b1 ⊢
        rw [upd_same]
        rw [h1a.at_] at b1
        exact b1
      · rw [upd_ne z]
        exact kp b o be (by rw [upd_ne z]; exact b1)
end
end NH
set_option Elab.async false
set_option linter.all false
set_option maxRecDepth 100000
namespace NH
open PySem PySem.Spec PyProof.Rows L2 R1 ZN LamX
section
variable {P : Program} {w : World} {K : PySem.W.Frag} {mg : Str → Option Value} {base : Heap}
/-! ### ones -/
def spOnes (Pt : Addr) : Sp := fun vs H Q _ => ∃ (t l : Addr) (m : Nat) (L : List Trm) (ps : List Int), vs = [.ref t, .ref l] ∧ SumAt H t L ∧ L.length ≤ 4000 ∧ 0 < m ∧ m ≤ 4000 ∧ Good m (L.map Trm.d) ∧ H l = some (.lst (ps.map V.int)) ∧ ps.length ≤ 4000 ∧ (∀ p ∈ ps, 0 ≤ p) ∧ (L ≠ [] → ∀ p ∈ ps, p < m) ∧ Tabs (T5 Pt) H ∧
  ∀ H' (t' : Addr) (L' : List Trm), ExtN H H' → Tabs (T5 Pt) H' → SumAt H' t' L' → Norm (gather (zer ps) [] (L.map Trm.d)) (L'.map Trm.d) → L'.length ≤ L.length → Q (.ref t') H'
abbrev nmOnes : List Str := ["one", "places", "many", "place"]
theorem scOnes : FnScope nmOnes ["one", "places"] (defScope sOnes) := ⟨rfl, rfl, rfl, by decide +kernel, rfl, by decide +kernel, by decide +kernel⟩
section
variable {fI fC fO fN fL : Addr} {dI dC dO dN dL : FuncData}
theorem ok_ones {f fW fS fWi c Pt : Addr} {fd fdW fdS fdWi : FuncData} {k : Nat} (F : Fun K "ones" "ones" sOnes f fd) (FW : Fun K "without_letters" "without_letters" sWithout fW fdW) (bW : Binds K fdW ["told", "places"] []) (gW : mg "without_letters" = some (.ref fW))
    (FS : Fun K "sum_of_terms" "sum_of_terms" sSumOf fS fdS) (bS : Binds K fdS ["terms"] []) (gS : mg "sum_of_terms" = some (.ref fS)) (ms : mg "sorted" = none) (D : Prog K mg fI fC fO fN fL dI dC dO dN dL)
    (hc : fdW.code = .ref c) (FWi : Fun K "with_powers" "with_powers" sWith fWi fdWi) (bWi : L2.Binds K fdWi ["told", "change"] []) (gWi : mg "with_powers" = some (.ref fWi)) (TB : TabB base mg c Pt) : FnOk P w K mg base CX0 (k + 5) f fd ["one", "places"] (spOnes Pt) := by
  have GO : FnOk P w K mg base CX0 (k + 3) fO dO ["sums"] (spLettersOf K) := D.lo
  have GW : FnOk P w K mg base CX0 (k + 4) fW fdW ["told", "places"] (spWithout Pt) := ok_without FW hc FWi bWi gWi FS bS gS D.tuple ms D.enumerate TB
  refine F.ok scOnes (fun vs H Q E h => ?_) (fun cdv A outer s H vs Q E hr h => ?_)
  · obtain ⟨t, l, m, L, ps, rfl, _⟩ := h
    rfl
  · obtain ⟨t, l, m, L, ps, rfl, hS, hL, hm0, hm1, hG, hl, hps, p0, p1, hTb, q⟩ := h
    have r3 := hr.mono (show k + 3 ≤ k + 4 by omega)
    refine ⟨_, pss_cons (ps_set (i := 2) scOnes.nd rfl (.inl rfl) (pe_call GO r3 (by rfl) D.gLo D.Lo.kp D.bLo .nil pass0 (pa_cons (pe_lst (pa_cons (pv 0) pa_nil)) pa_nil)))
      (pss_cons (ps_for PassesOwn.never rfl (pi_list (pv 1)) (pg_name (i := 3) scOnes.nd rfl (.inl rfl))
        (pss_one (ps_if (PW.pt (pw_or (pt_cmpR op_lt (pv 3) pe_int (nomark _)) (pw_or1 (PW.pt (pw_and (pt_truth (pv 0) (by intro _; rfl)) (pw_and1 (pt_cmpR op_ge (pv 3) (pv 2) (nomark _)))))))) pss_never pss_nil)))
      (pss_one (ps_ret (pe_call GW hr (by rfl) gW FW.kp bW .nil pass0 (pa_cons (pv 0) (pa_cons (pv 1) pa_nil)))))), ?_⟩
    refine ⟨.ref t, rfl, one1, fun p np => ?_⟩
    have s1 : Same H (upd H p (.lst [.ref t])) := same_new np
    refine ⟨p, t, m, L, rfl, sqlOf upd_same, hS.same s1, by omega, hm0, hG, fun H2 s2 => ?_⟩
    have s12 := s1.trans s2
    have hl2 := s12 _ _ hl
    refine ⟨.ref l, rfl, l, rfl, ⟨_, sqlOf hl2⟩, for_list (xs := ps.map V.int) (fun i σ H' => ∃ y3, σ = [some (.ref t), some (.ref l), some (.int (if L.isEmpty then 0 else (m : Int))), y3] ∧ H' = H2) ⟨none, rfl, rfl⟩ (fun i σ H' _ h => ?_) (fun i x σ H' hx h => ?_) (fun σ H' h => ?_)⟩
    · obtain ⟨y3, rfl, rfl⟩ := h
      exact sqlOf hl2
    · obtain ⟨y3, rfl, rfl⟩ := h
      rw [List.getElem?_map] at hx
      obtain ⟨v, f1, rfl⟩ := Option.map_eq_some_iff.mp hx
      have hv := List.mem_of_getElem? f1
      have a0 := p0 v hv
      refine ⟨.int v, rfl, v, 0, rfl, rfl, _, rfl, ite2 (fun e => absurd (of_decide_eq_true e) (by omega)) (fun _ => ?_)⟩
      refine ⟨.ref t, rfl, !(L.map Trm.v).isEmpty, .inr (.inl ⟨_, (hS.same s12).sq, rfl⟩), ?_⟩
      cases L with
      | nil => exact iteF (iteF ⟨_, rfl, rfl⟩)
      | cons r L =>
        have a1 := p1 (by simp) v hv
        refine iteT ⟨.int v, rfl, .int m, rfl, v, m, rfl, rfl, _, rfl, ite2 (fun e => absurd (of_decide_eq_true e) (by omega)) (fun _ => ⟨_, rfl, rfl⟩)⟩
    · obtain ⟨y3, rfl, rfl⟩ := h
      refine ⟨.ref t, rfl, .ref l, rfl, t, l, m, L, ps, rfl, hS.same s12, hL, hm1, hG.len, hl2, hps, hTb.ext s12, fun H3 t' L' e3 T3 hS' hN hl' => ?_⟩
      exact q H3 t' L' ((ExtN.of s12).trans e3) T3 hS' hN hl'
end
/-! ### letter_of, letter -/
def unit (at_ : Int) (m : Nat) : List Int := (List.range m).map fun (j : Nat) => if (j : Int) = at_ then 1 else 0
theorem unit_step {at_ : Int} {j : Nat} : unit at_ (j + 1) = unit at_ j ++ [if (j : Int) = at_ then 1 else 0] := by
  unfold unit
  rw [List.range_succ, List.map_append]
  rfl
def spLetterOf : Sp := fun vs H Q _ => ∃ (i : Int) (m : Nat), vs = [.int i, .int m] ∧ m ≤ 4000 ∧ ∀ H' (t : Addr) (L : List Trm), Same H H' → H t = none → SumAt H' t L → L.map Trm.d = [(unit i m, 1)] → Q (.ref t) H'
abbrev nmLetterOf : List Str := ["at", "many", "other"]
theorem scLetterOf : FnScope nmLetterOf ["at", "many"] (defScope sLetterOf) := ⟨rfl, rfl, rfl, by decide +kernel, rfl, by decide +kernel, by decide +kernel⟩
theorem ok_letterOf {f : Addr} {fd : FuncData} {k : Nat} (F : Fun K "letter_of" "letter_of" sLetterOf f fd) (mt : mg "tuple" = none) (mr : mg "range" = none) : FnOk P w K mg base CX0 (k + 1) f fd ["at", "many"] spLetterOf := by
  refine F.ok scLetterOf (fun vs H Q E h => ?_) (fun cdv A outer s H vs Q E hr h => ?_)
  · obtain ⟨i, m, rfl, _⟩ := h
    rfl
  · obtain ⟨i, m, rfl, hm, q⟩ := h
    refine ⟨_, pss_one (ps_ret (pe_tup (pa_cons (pe_tup (pa_cons (pe_callTy call_tuple_of (by rfl) mt (by decide +kernel) (pa_cons (pe_lc (own := [("other", 2)]) (g := gName 2) (by rfl) scLetterOf.nd (pi_range1 rfl mr (pa_cons (pv 1) pa_nil)) (blkOk_by (own := [("other", 2)]) (N := nmLetterOf) (sc := defScope sLetterOf) (by decide +kernel))
        (fun _ _ _ _ _ => pg_name (i := 2) scLetterOf.nd rfl (.inl rfl)) (fun _ _ _ _ _ => pts_nil) (fun _ _ _ _ _ => pe_ifExp (tA := tTest (tOp rEq (tVar 2) (tVar 0))) (pt_cmpR op_eq (pv 2) (pv 0) (nomark _)) pe_int pe_int)) pa_nil)) (pa_cons pe_int pa_nil))) pa_nil))), ?_⟩
    refine ⟨.int m, rfl, m, rfl, by omega, by omega, fun D nD => ?_⟩
    refine lc_range (lo := 0) (n := m) (fun j H' => H' D = some (.lst ((unit i j).map V.int)) ∧ But D H H') ⟨upd_same, But.start⟩ (fun j H' hj h => ?_) (fun H1 h => ?_)
    · obtain ⟨hD, kp⟩ := h
      have fin : ∀ y : Int, y = (if (j : Int) = i then 1 else 0) → ∃ acc, H' D = some (.lst acc) ∧ acc.length < sizeLine ∧ (upd H' D (.lst (acc ++ [.int y])) D = some (.lst ((unit i (j + 1)).map V.int)) ∧ But D H (upd H' D (.lst (acc ++ [.int y])))) := fun y ey => by
        refine ⟨_, hD, ?_, ?_, kp.step (Same.refl _)⟩
        · rw [List.length_map, unit, List.length_map, List.length_range, sizeLine_eq]
          omega
        · rw [upd_same, unit_step, List.map_append, ey]
          rfl
      refine ⟨rfl, .int (0 + j), rfl, .int i, rfl, rfl, _, rfl, ite2 (fun e => ?_) (fun e => ?_)⟩
      · have e := V.int.inj (of_decide_eq_true e)
        exact fin 1 (by rw [if_pos (by omega)])
      · exact fin 0 (by rw [if_neg (fun z => e (decide_eq_true (by rw [← z]; simp)))])
    · obtain ⟨hD, kp⟩ := h
      have sm := kp.same nD
      refine ⟨D, _, rfl, .inl ⟨sqlOf hD, fun p np => ?_⟩⟩
      have s2 := sm.trans (same_new (o := .tup ((unit i m).map V.int)) np)
      refine ⟨size2', fun t nt => ⟨one1, fun u nu => ?_⟩⟩
      have s3 := s2.trans (same_new (o := .tup [.ref p, .int 1]) nt)
      refine q _ u [⟨t, p, unit i m, 1⟩] (s3.trans (same_new nu)) (s3.free nu) ⟨upd_same, fun r hr => ?_⟩ rfl
      rw [List.mem_singleton.mp hr]
      exact ⟨same_new nu _ _ upd_same, same_new nu _ _ (same_new nt _ _ upd_same)⟩
def spLetter : Sp := fun vs H Q _ => ∃ (i : Int) (m : Nat), vs = [.int i, .int m] ∧ m ≤ 4000 ∧ 0 ≤ i ∧ i < m ∧ ∀ H' (t : Addr) (L : List Trm), Same H H' → H t = none → SumAt H' t L → L.map Trm.d = [(unit i m, 1)] → Q (.ref t) H'
abbrev nmLetter : List Str := ["at", "many"]
theorem scLetter : FnScope nmLetter ["at", "many"] (defScope sLetter) := ⟨rfl, rfl, rfl, by decide +kernel, rfl, by decide +kernel, by decide +kernel⟩
theorem ok_letter {f fO : Addr} {fd fdO : FuncData} {k : Nat} (F : Fun K "letter" "letter" sLetter f fd) (FO : Fun K "letter_of" "letter_of" sLetterOf fO fdO) (bO : Binds K fdO ["at", "many"] []) (gO : mg "letter_of" = some (.ref fO)) (mt : mg "tuple" = none) (mr : mg "range" = none) : FnOk P w K mg base CX0 (k + 2) f fd ["at", "many"] spLetter := by
  have GO : FnOk P w K mg base CX0 (k + 1) fO fdO ["at", "many"] spLetterOf := ok_letterOf FO mt mr
  refine F.ok scLetter (fun vs H Q E h => ?_) (fun cdv A outer s H vs Q E hr h => ?_)
  · obtain ⟨i, m, rfl, _⟩ := h
    rfl
  · obtain ⟨i, m, rfl, hm, h0, h1, q⟩ := h
    refine ⟨_, pss_cons (ps_if (pt_not (pt_chain op_le op_lt pe_int (pv 0) (pv 1))) pss_never pss_nil)
      (pss_one (ps_ret (pe_call GO hr (by rfl) gO FO.kp bO .nil pass0 (pa_cons (pv 0) (pa_cons (pv 1) pa_nil))))), ?_⟩
    refine ⟨.int i, rfl, 0, i, rfl, rfl, _, rfl, ite2 (fun _ => ?_) (fun e => absurd (decide_eq_true h0) e)⟩
    refine ⟨.int m, rfl, i, m, rfl, rfl, _, rfl, ?_⟩
    rw [decide_eq_true h1]
    exact iteF ⟨.int i, rfl, .int m, rfl, i, m, rfl, hm, q⟩
end
end NH
set_option Elab.async false
set_option linter.all false
set_option maxRecDepth 100000
set_option maxHeartbeats 4000000
/-! calls by keywords alone, of one and of two parameters -/
namespace NH
open PySem PySem.Spec PyProof.Rows L2
def id1 {α : Type} : List α → List α → List α
  | [], [a] => [a]
  | _, _ => []
theorem id1_rel {vs : List V} {us : List Value} {zs : List V} {ws : List Value} (r1 : Vals vs us) (r2 : Vals zs ws) : Vals (id1 vs zs) (id1 us ws) := by
  cases r1 with
  | cons _ _ => exact .nil
  | nil =>
    cases r2 with
    | nil => exact .nil
    | cons a r2 =>
      cases r2 with
      | nil => exact .cons a .nil
      | cons _ _ => exact .nil
/-- two keywords, in the other order -/
def swap2 {α : Type} : List α → List α → List α
  | [], [m, t] => [t, m]
  | _, _ => []
theorem swap2_rel {vs : List V} {us : List Value} {zs : List V} {ws : List Value} (r1 : Vals vs us) (r2 : Vals zs ws) : Vals (swap2 vs zs) (swap2 us ws) := by
  cases r1 with
  | cons _ _ => exact .nil
  | nil =>
    cases r2 with
    | nil => exact .nil
    | cons a r2 =>
      cases r2 with
      | nil => exact .nil
      | cons b r2 =>
        cases r2 with
        | nil => exact .cons b (.cons a .nil)
        | cons _ _ => exact .nil
theorem kb1 {K : PySem.W.Frag} {x q p : Str} {st : Stmt} {f : Addr} {fd : FuncData} (F : Fun K x q st f fd)
    (hb : ∀ (kV doc pm : Value) (an : Option Addr) (cdv ct : Value) (s : Shared) (a : Value), BindsTo s (PySem.W.fnOf x q (defArgs st) (defBody st) (defScope st) .none kV doc pm an cdv ct) ⟨[], [(p, a)]⟩ [(p, a)]) : KBinds K fd [p] [p] id1 id1 := by
  obtain ⟨oc, od, kV, doc, pm, an, cdv, ct, osl, rfl, _⟩ := F.ex
  refine ⟨fun s us ws _ h => ?_, id1_rel⟩
  match us, ws, h with
  | [], [a], _ => exact hb _ _ _ _ _ _ s a
  | [], [], h => cases h
  | [], _ :: _ :: _, h => cases h
  | _ :: _, _, h => cases h
theorem kb2 {K : PySem.W.Frag} {x q p r : Str} {st : Stmt} {f : Addr} {fd : FuncData} (F : Fun K x q st f fd)
    (hb : ∀ (kV doc pm : Value) (an : Option Addr) (cdv ct : Value) (s : Shared) (m t : Value), BindsTo s (PySem.W.fnOf x q (defArgs st) (defBody st) (defScope st) .none kV doc pm an cdv ct) ⟨[], [(r, m), (p, t)]⟩ [(p, t), (r, m)]) : KBinds K fd [p, r] [r, p] swap2 swap2 := by
  obtain ⟨oc, od, kV, doc, pm, an, cdv, ct, osl, rfl, _⟩ := F.ex
  refine ⟨fun s us ws _ h => ?_, swap2_rel⟩
  match us, ws, h with
  | [], [m, t], _ => exact hb _ _ _ _ _ _ s m t
  | [], [], h => cases h
  | [], [_], h => cases h
  | [], _ :: _ :: _ :: _, h => cases h
  | _ :: _, _, h => cases h
end NH
set_option Elab.async false
set_option linter.all false
set_option maxRecDepth 100000
set_option maxHeartbeats 1000000
set_option exponentiation.threshold 100000
namespace NH
open PySem PySem.Spec PyProof.Rows L2 R1 ZN PK RS DCT
theorem sm_ints {H : Hp} {n : Nat} {a b : Addr} {ns : List Int} (h1 : H a = some (.tup (ns.map V.int))) (h2 : H b = some (.tup (ns.map V.int))) (hz : ns.length ≤ 4000) : Sm H (n + 1) (.ref a) (.ref b) := by
  refine .tup h1 h2 rfl (by rw [List.length_map]; exact hz) fun j x y e1 e2 => ?_
  rw [e1] at e2
  cases e2
  rw [List.getElem?_map] at e1
  obtain ⟨i, _, rfl⟩ := Option.map_eq_some_iff.mp e1
  exact .int i
theorem sm_sum {H : Hp} {n : Nat} {a b : Addr} {L M : List Trm} (h1 : SumAt H a L) (h2 : SumAt H b M) (e : L.map Trm.d = M.map Trm.d) (hz : L.length ≤ 4000) (hm : ∀ r ∈ L, r.ns.length ≤ 4000) : Sm H (n + 3) (.ref a) (.ref b) := by
  have hl := congrArg List.length e
  rw [List.length_map, List.length_map] at hl
  refine .tup h1.at_ h2.at_ (by rw [List.length_map, List.length_map, hl]) (by rw [List.length_map]; exact hz) fun j x y e1 e2 => ?_
  rw [List.getElem?_map] at e1 e2
  obtain ⟨r, r1, rfl⟩ := Option.map_eq_some_iff.mp e1
  obtain ⟨s, s1, rfl⟩ := Option.map_eq_some_iff.mp e2
  have hd : r.d = s.d := by
    have q1 : (L.map Trm.d)[j]? = some r.d := by rw [List.getElem?_map, r1]; rfl
    have q2 : (M.map Trm.d)[j]? = some s.d := by rw [List.getElem?_map, s1]; rfl
    rw [e, q2] at q1
    exact (Option.some.inj q1).symm
  have hns : r.ns = s.ns := congrArg Prod.fst hd
  have hc : r.c = s.c := congrArg Prod.snd hd
  obtain ⟨o1, o2⟩ := h1.rows r (List.mem_of_getElem? r1)
  obtain ⟨p1, p2⟩ := h2.rows s (List.mem_of_getElem? s1)
  refine .tup o1 p1 rfl (by show 2 ≤ 4000; decide) fun i x y f1 f2 => ?_
  rcases i with _ | _ | i
  · cases (Option.some.inj f1 : V.ref r.p = x)
    cases (Option.some.inj f2 : V.ref s.p = y)
    exact sm_ints o2 (by rw [p2, hns]) (hm r (List.mem_of_getElem? r1))
  · cases (Option.some.inj f1 : V.int r.c = x)
    cases (Option.some.inj f2 : V.int s.c = y)
    rw [hc]
    exact .int _
  · cases f1
theorem sm_lst {H : Hp} {n : Nat} {a b : Addr} {xs ys : List V} (h1 : H a = some (.lst xs)) (h2 : H b = some (.lst ys)) (hz : xs.length ≤ 4000) (h : Paired (Sm H n) xs ys) : Sm H (n + 1) (.ref a) (.ref b) := by
  refine .lst h1 h2 (Paired.length h) hz ?_
  clear h1 h2 hz
  induction h with
  | nil => exact fun j x y e => by simp at e
  | cons a _ ih =>
    intro j x y e1 e2
    cases j with
    | zero =>
      cases Option.some.inj e1
      cases Option.some.inj e2
      exact a
    | succ j => exact ih j x y (by simpa using e1) (by simpa using e2)

/-! ### a dict of terms and the sum that it is written as -/
theorem norm_nodup {D T : Ts} (h : Norm D T) : NodupK T := by
  unfold NodupK
  rw [List.Nodup, List.pairwise_map]
  exact h.sorted.imp fun h => lex_ne h
theorem norm_val {D T : Ts} (h : Norm D T) (n : NodupK D) (j : List Int) : val T j = val D j := by
  have nT := norm_nodup h
  by_cases e : val D j = 0
  · rw [e]
    by_cases e2 : val T j = 0
    · exact e2
    · have := (val_mem nT (j, val T j)).mpr ⟨rfl, e2⟩
      have h3 := (h.mem (j, val T j)).mp this.1
      have h4 := (val_mem n (j, val T j)).mp h3
      exact (show val T j = val D j from h4.1.symm).trans e
  · have h1 := (val_mem n (j, val D j)).mpr ⟨rfl, e⟩
    have h2 := (h.mem (j, val D j)).mpr h1
    exact ((val_mem nT (j, val D j)).mp ⟨h2, e⟩).1
theorem mulF_filter (F : List Int → Int) (j : List Int) : ∀ D : Ts, mulF F (D.filter nz) j = mulF F D j
  | [] => rfl
  | q :: D => by
    have ih := mulF_filter F j D
    rw [List.filter_cons]
    by_cases e : q.2 = 0
    · rw [if_neg (by simp [nz, e]), ih, mulF, e, Int.zero_mul, Int.zero_add]
    · rw [if_pos (by simp [nz, e]), mulF, mulF, ih]
theorem nodup_of_keys {D : Ts} (n : NodupK D) : D.Nodup := by
  unfold NodupK at n
  rw [List.Nodup, List.pairwise_map] at n
  exact n.imp fun h e => h (by rw [e])
theorem norm_perm {D T : Ts} (h : Norm D T) (n : NodupK D) : T.Perm (D.filter nz) := by
  refine (List.perm_ext_iff_of_nodup (nodup_of_keys (norm_nodup h)) (nodup_of_keys (nodupK_filter n))).mpr fun q => ?_
  rw [h.mem, List.mem_filter]
  exact ⟨fun ⟨a, b⟩ => ⟨a, decide_eq_true b⟩, fun ⟨a, b⟩ => ⟨a, of_decide_eq_true b⟩⟩
theorem norm_mulF {D T : Ts} (h : Norm D T) (n : NodupK D) (F : List Int → Int) (j : List Int) : mulF F T j = mulF F D j := by
  rw [mulF_perm F j (norm_perm h n), mulF_filter]
/-- the product of written sums is that of the dicts -/
theorem norm_mul {m : Nat} {D1 D2 T1 T2 : Ts} (h1 : Norm D1 T1) (h2 : Norm D2 T2) (n1 : NodupK D1) (n2 : NodupK D2) (l1 : ∀ q ∈ D1, q.1.length = m) (l2 : ∀ q ∈ D2, q.1.length = m) (j : List Int) : val (mulT T1 T2) j = val (mulT D1 D2) j := by
  have a1 : ∀ q ∈ T1, q.1.length = m := fun q hq => l1 q ((h1.mem q).mp hq).1
  have a2 : ∀ q ∈ T2, q.1.length = m := fun q hq => l2 q ((h2.mem q).mp hq).1
  by_cases hj : j.length = m
  · rw [mulT_val (norm_nodup h1) a1 a2 hj, mulT_val n1 l1 l2 hj, norm_mulF h2 n2]
    exact mulF_congr (fun k _ => norm_val h1 n1 k) l2 hj
  · rw [val_out (mulT_len a1 a2) hj, val_out (mulT_len l1 l2) hj]
theorem norm_add {D1 D2 T1 T2 : Ts} (h1 : Norm D1 T1) (h2 : Norm D2 T2) (n1 : NodupK D1) (n2 : NodupK D2) (j : List Int) : val (addT T1 T2) j = val (addT D1 D2) j := by
  rw [addT_val (norm_nodup h1) (norm_nodup h2), addT_val n1 n2, norm_val h1 n1, norm_val h2 n2]
/-- sizes of a dict of terms -/
structure Sz (D : Ts) (α R : Nat) : Prop where
  c : ∀ q ∈ D, q.2.natAbs < 2 ^ α
  r : ∀ q ∈ D, ∀ x ∈ q.1, x.natAbs ≤ R
theorem Sz.norm {D T : Ts} {α R : Nat} (h : Sz D α R) (n : Norm D T) : Sz T α R := ⟨fun q hq => h.c q ((n.mem q).mp hq).1, fun q hq => h.r q ((n.mem q).mp hq).1⟩
theorem Sz.more {D : Ts} {α R β S : Nat} (h : Sz D α R) (h1 : α ≤ β) (h2 : R ≤ S) : Sz D β S := ⟨fun q hq => Nat.lt_of_lt_of_le (h.c q hq) (Nat.pow_le_pow_right (by decide) h1), fun q hq x hx => Nat.le_trans (h.r q hq x hx) h2⟩
theorem Sz.mul {m : Nat} {A B : Ts} {α β R S : Nat} (hA : Sz A α R) (hB : Sz B β S) (nA : NodupK A) (lA : ∀ q ∈ A, q.1.length = m) (lB : ∀ q ∈ B, q.1.length = m) (hn : B.length ≤ 1000) : Sz (mulT A B) (α + β + 10) (R + S) := by
  refine ⟨fun q hq => ?_, fun q hq x hx => ?_⟩
  · have hql := mulT_len lA lB q hq
    rw [← val_mem2 (mulT_nodup A B) hq, mulT_val nA lA lB hql]
    have h1 := mulF_small (fun k => val_lt nA hA.c k) q.1 hB.c
    have h2 : B.length * 2 ^ (α + β) < 2 ^ 10 * 2 ^ (α + β) := Nat.mul_lt_mul_of_pos_right (by omega) (Nat.pow_pos (by decide))
    rw [← Nat.pow_add, Nat.add_comm 10] at h2
    exact Nat.lt_of_le_of_lt h1 h2
  · obtain ⟨a, ha, b, hb, e⟩ := mulT_keys hq
    rw [e] at hx
    exact addP_mem (hA.r a ha) (hB.r b hb) hx
theorem mulT_size {A B : Ts} : (mulT A B).length ≤ A.length * B.length := by
  refine Nat.le_trans (gather_len idk (prodsT A B) []) ?_
  rw [prodsT_length, List.length_nil]
  omega
theorem addT_size {A B : Ts} : (addT A B).length ≤ A.length + B.length := by
  have h1 := gather_len idk B (gather idk [] A)
  have h2 := gather_len idk A []
  rw [List.length_nil] at h2
  unfold addT
  omega
theorem addT_lens {m : Nat} {A B : Ts} (lA : ∀ q ∈ A, q.1.length = m) (lB : ∀ q ∈ B, q.1.length = m) : ∀ q ∈ addT A B, q.1.length = m := gather_keys _ _ (gather_keys _ _ (fun q h => by cases h) lA) lB
theorem sm_sum' {m : Nat} {H : Hp} {n : Nat} {a b : Addr} {L M : List Trm} {D E : Ts} (h1 : SumAt H a L) (h2 : SumAt H b M) (nD : NodupK D) (nE : NodupK E) (hv : ∀ j, val D j = val E j) (x : Norm D (L.map Trm.d)) (y : Norm E (M.map Trm.d)) (hz : L.length ≤ 4000) (hm : m ≤ 4000) (lD : ∀ q ∈ D, q.1.length = m) : Sm H (n + 3) (.ref a) (.ref b) := by
  refine sm_sum h1 h2 (Norm.unique nD nE hv x y) hz fun r hr => ?_
  have := lD r.d ((x.mem _).mp (List.mem_map_of_mem hr)).1
  have : r.ns.length = m := this
  omega
theorem kb_plus {K : PySem.W.Frag} {mg : Str → Option Value} {f : Nat → Addr} {d : Nat → FuncData} (D : Defs K mg f d) : KBinds K (d i_plus) ["one", "other"] ["other", "one"] swap2 swap2 := kb2 D.F_plus fun _ _ _ _ _ _ _ _ _ => .of_eq rfl
theorem kb_times {K : PySem.W.Frag} {mg : Str → Option Value} {f : Nat → Addr} {d : Nat → FuncData} (D : Defs K mg f d) : KBinds K (d i_times) ["one", "other"] ["other", "one"] swap2 swap2 := kb2 D.F_times fun _ _ _ _ _ _ _ _ _ => .of_eq rfl
theorem kb_power {K : PySem.W.Frag} {mg : Str → Option Value} {f : Nat → Addr} {d : Nat → FuncData} (D : Defs K mg f d) : KBinds K (d i_power) ["one", "times"] ["times", "one"] swap2 swap2 := kb2 D.F_power fun _ _ _ _ _ _ _ _ _ => .of_eq rfl
end NH
set_option Elab.async false
set_option linter.all false
set_option maxRecDepth 100000
set_option maxHeartbeats 1000000
set_option exponentiation.threshold 100000
namespace NH
open PySem PySem.Spec PyProof.Rows L2 R1 ZN PK RS DCT
theorem tNil_ap {σ : L2.St} {H : Hp} {R : List V → Hp → Prop} (h : R [] H) : tNil σ H R := h
section
variable {P : Program} {w : World} {K : PySem.W.Frag} {mg : Str → Option Value} {base : Heap} {f : Nat → Addr} {d : Nat → FuncData}
def spIsRight : Sp := fun vs H Q _ => ∃ (d1 d2 : Addr) (m : Nat) (D1 D2 : Ts), vs = [.ref d1, .ref d2] ∧ DictAt H d1 m D1 ∧ DictAt H d2 m D2 ∧ D1.length ≤ 20 ∧ D2.length ≤ 20 ∧ 0 < m ∧ m ≤ 400 ∧ Sz D1 200 1000 ∧ Sz D2 200 1000 ∧ ∀ H', Same H H' → Q (.bl true) H'
theorem ok_isRight {k : Nat} (D : Defs K mg f d) : FnOk P w K mg base CX0 (k + 7) (f i__law_is_right) (d i__law_is_right) ["_law_first", "_law_second"] spIsRight := by
  have G__law_written : FnOk P w K mg base CX0 (k + 6) (f i__law_written) (d i__law_written) ["_law_terms_here"] spWritten := (ok_written (k := k) D.F__law_written D.z_tuple D.z_sorted).mono (by omega)
  have G__law_plus : FnOk P w K mg base CX0 (k + 6) (f i__law_plus) (d i__law_plus) ["_law_one", "_law_other"] spPlus := (ok_plus (k := k) D).mono (by omega)
  have G__law_times : FnOk P w K mg base CX0 (k + 6) (f i__law_times) (d i__law_times) ["_law_one", "_law_other"] spLTimes := (ok_ltimes (k := k) D).mono (by omega)
  have G_plus : FnOk P w K mg base CX0 (k + 6) (f i_plus) (d i_plus) ["one", "other"] spPlusP := (ok_plusP (k := k) D).mono (by omega)
  have G_times : FnOk P w K mg base CX0 (k + 6) (f i_times) (d i_times) ["one", "other"] spTimesP := (ok_timesP (k := k) D).mono (by omega)
  have G__law_same : FnOk P w K mg base CX0 (k + 6) (f i__law_same) (d i__law_same) ["_law_told", "_law_due"] (spSame 5) := ok_same D.F__law_same D.b__law_same D.g__law_same D.z_isinstance D.z_bool D.z_int D.z_str D.z_list D.z_tuple D.z_len D.z_zip 5
  refine D.F__law_is_right.ok sc__law_is_right (fun vs H Q E h => ?_) (fun cdv A outer s H vs Q E hr h => ?_)
  · obtain ⟨d1, d2, m, D1, D2, rfl, _⟩ := h
    rfl
  · obtain ⟨d1, d2, m, D1, D2, rfl, h1, h2, l1, l2, hm0, hm, z1, z2, q⟩ := h
    have nd := sc__law_is_right.nd
    refine ⟨_, pss_cons (ps_par (i := 2) (j := 3) (by rfl) nd rfl rfl (by decide) rfl rfl (pa_cons (pe_call G__law_written hr (by rfl) D.g__law_written D.F__law_written.kp D.b__law_written .nil pass0 (pa_cons (pv 0) pa_nil)) (pa_cons (pe_call G__law_written hr (by rfl) D.g__law_written D.F__law_written.kp D.b__law_written .nil pass0 (pa_cons (pv 1) pa_nil)) pa_nil)) (by rfl))
      (pss_cons (ps_set (i := 4) nd rfl (.inl rfl) (pe_lst (pa_cons (pe_call G__law_written hr (by rfl) D.g__law_written D.F__law_written.kp D.b__law_written .nil pass0 (pa_cons (pe_call G__law_plus hr (by rfl) D.g__law_plus D.F__law_plus.kp D.b__law_plus .nil pass0 (pa_cons (pv 0) (pa_cons (pv 1) pa_nil))) pa_nil)) (pa_cons (pe_call G__law_written hr (by rfl) D.g__law_written D.F__law_written.kp D.b__law_written .nil pass0 (pa_cons (pe_call G__law_times hr (by rfl) D.g__law_times D.F__law_times.kp D.b__law_times .nil pass0 (pa_cons (pv 0) (pa_cons (pv 1) pa_nil))) pa_nil)) pa_nil))))
      (pss_cons (ps_if (pt_not (pt_val (pe_call G__law_same hr (by rfl) D.g__law_same D.F__law_same.kp D.b__law_same .nil pass0 (pa_cons (pe_lst (pa_cons (pe_call G_plus hr (by rfl) D.g_plus D.F_plus.kp D.b_plus .nil pass0 (pa_cons (pv 2) (pa_cons (pv 3) pa_nil))) (pa_cons (pe_call G_times hr (by rfl) D.g_times D.F_times.kp D.b_times .nil pass0 (pa_cons (pv 2) (pa_cons (pv 3) pa_nil))) pa_nil))) (pa_cons (pv 4) pa_nil)))))
        (pss_one (ps_ret (pe_bl)))
        pss_nil)
      (pss_cons (ps_if (pt_not (pt_val (pe_call G__law_same hr (by rfl) D.g__law_same D.F__law_same.kp D.b__law_same .nil pass0 (pa_cons (pe_lst (pa_cons (pe_call G_plus hr (by rfl) D.g_plus D.F_plus.kp D.b_plus .nil pass0 (pa_cons (pv 3) (pa_cons (pv 2) pa_nil))) (pa_cons (pe_call G_times hr (by rfl) D.g_times D.F_times.kp D.b_times .nil pass0 (pa_cons (pv 3) (pa_cons (pv 2) pa_nil))) pa_nil))) (pa_cons (pv 4) pa_nil)))))
        (pss_one (ps_ret (pe_bl)))
        pss_nil)
      (pss_one (ps_ret (pe_call G__law_same hr (by rfl) D.g__law_same D.F__law_same.kp D.b__law_same .nil pass0 (pa_cons (pe_lst (pa_cons (pe_callK0 G_plus hr (by rfl) D.g_plus D.F_plus.kp (kb_plus D) pass0 (pk_cons (pv 3) (pk_cons (pv 2) pk_nil))) (pa_cons (pe_callK0 G_times hr (by rfl) D.g_times D.F_times.kp (kb_times D) pass0 (pk_cons (pv 3) (pk_cons (pv 2) pk_nil))) pa_nil))) (pa_cons (pv 4) pa_nil)))))))), ?_⟩
    refine ⟨.ref d1, rfl, d1, m, D1, rfl, h1, hm0, by omega, fun H1 t1 L1 s1 _ hS1 hN1 hL1 => ?_⟩
    refine ⟨.ref d2, rfl, d2, m, D2, rfl, h2.same s1, hm0, by omega, fun H2 t2 L2 s2 _ hS2 hN2 hL2 => ?_⟩
    have hS1 := hS1.same s2
    have s12 := s1.trans s2
    refine ⟨_, _, rfl, ?_⟩
    dsimp only [tSeq, tAsg, gName, tNext]
    have g1 := hN1.good h1.len
    have g2 := hN2.good h2.len
    have x1 := z1.norm hN1
    have x2 := z2.norm hN2
    refine ⟨.ref d1, rfl, .ref d2, rfl, d1, d2, m, D1, D2, rfl, h1.same s12, h2.same s12, by omega, fun H3 e1 s3 _ hE1 => ?_⟩
    have s13 := s12.trans s3
    refine tNil_ap ?_
    refine ⟨e1, m, _, rfl, hE1, hm0, by have := addT_size (A := D1) (B := D2); omega, fun H4 u1 M1 s4 _ hU1 hM1 hM1l => ?_⟩
    have s14 := s13.trans s4
    refine ⟨.ref d1, rfl, .ref d2, rfl, d1, d2, m, D1, D2, rfl, h1.same s14, h2.same s14, by omega, by omega, hm, fun q hq => Nat.lt_of_lt_of_le (z1.c q hq) (Nat.pow_le_pow_right (by decide) (by decide)), fun q hq => Nat.lt_of_lt_of_le (z2.c q hq) (Nat.pow_le_pow_right (by decide) (by decide)), fun H5 e2 s5 _ hE2 => ?_⟩
    have s15 := s14.trans s5
    refine tNil_ap ?_
    have lmul : (mulT D1 D2).length ≤ 400 := by
      have := mulT_size (A := D1) (B := D2)
      have h3 : D1.length * D2.length ≤ 20 * 20 := Nat.mul_le_mul l1 l2
      omega
    refine ⟨e2, m, _, rfl, hE2, hm0, by omega, fun H6 u2 M2 s6 _ hU2 hM2 hM2l => ?_⟩
    have s16 := s15.trans s6
    have s46 := s5.trans s6
    refine ⟨two_ok, fun l nl => ?_⟩
    have s7 := same_new (o := .lst [V.ref u1, .ref u2]) nl
    have hl : upd H6 l (.lst [V.ref u1, .ref u2]) l = some (.lst [V.ref u1, .ref u2]) := upd_same
    have hU1 := hU1.same (s46.trans s7)
    have hU2 := hU2.same s7
    have s07 := s16.trans s7
    have hS1 := hS1.same (((s3.trans s4).trans s5).trans (s6.trans s7))
    have hS2 := hS2.same (((s3.trans s4).trans s5).trans (s6.trans s7))
    generalize upd H6 l (.lst [V.ref u1, .ref u2]) = H7 at hl hU1 hU2 s07 hS1 hS2
    dsimp only [tSeq, tAsg, gName, tNext]
    have hb12 : ∀ q ∈ L1.map Trm.d ++ L2.map Trm.d, q.2.natAbs < 2 ^ 200 ∧ ∀ x ∈ q.1, x.natAbs ≤ 1000 := fun q hq => (List.mem_append.mp hq).elim (fun h => ⟨x1.c q h, x1.r q h⟩) fun h => ⟨x2.c q h, x2.r q h⟩
    have hb21 : ∀ q ∈ L2.map Trm.d ++ L1.map Trm.d, q.2.natAbs < 2 ^ 200 ∧ ∀ x ∈ q.1, x.natAbs ≤ 1000 := fun q hq => hb12 q (List.mem_append.mpr (List.mem_append.mp hq).symm)
    have hll : L1.length * L2.length ≤ 1000 := by
      have : L1.length * L2.length ≤ 20 * 20 := Nat.mul_le_mul (by omega) (by omega)
      omega
    have hll' : L2.length * L1.length ≤ 1000 := by rw [Nat.mul_comm]; exact hll
    have nA : NodupK (addT D1 D2) := addT_nodup _ _
    have nM : NodupK (mulT D1 D2) := mulT_nodup _ _
    -- what each of the three comparisons comes to
    have cmp : ∀ {H8 : Hp} {p1 p2 l2 : Addr} {N1 N2 : List Trm} {A C : Ts}, SumAt H8 p1 N1 → SumAt H8 p2 N2 → H8 l2 = some (.lst [.ref p1, .ref p2]) → Same H7 H8 → NodupK A → (∀ j, val A j = val (addT D1 D2) j) → Norm A (N1.map Trm.d) → (∀ q ∈ A, q.1.length = m) → N1.length ≤ 4000 → NodupK C → (∀ j, val C j = val (mulT D1 D2) j) → Norm C (N2.map Trm.d) → N2.length ≤ 4000 → Sm H8 4 (.ref l2) (.ref l) := by
      intro H8 p1 p2 l2 N1 N2 A C a1 a2 hl2 s78 nA' vA hA lA kA nC vC hC kC
      refine sm_lst hl2 (s78 _ _ hl) (by show 2 ≤ 4000; decide) (.cons ?_ (.cons ?_ .nil))
      · exact sm_sum' (m := m) a1 (hU1.same s78) nA' nA vA hA hM1 kA (by omega) lA
      · have e : N2.map Trm.d = M2.map Trm.d := Norm.unique nC nM vC hC hM2
        refine sm_sum a2 (hU2.same s78) e kC fun r hr => ?_
        have h9 : r.d ∈ M2.map Trm.d := by rw [← e]; exact List.mem_map_of_mem hr
        have h10 := mulT_len h1.len h2.len r.d ((hM2.mem _).mp h9).1
        have h10 : r.ns.length = m := h10
        omega
    -- one, other
    refine ⟨.ref t1, rfl, .ref t2, rfl, t1, t2, m, L1, L2, rfl, hS1, hS2, by omega, by omega, hm0, g1, g2, fun H8 p1 N1 s8 hP1 hN1' hl1' => ?_⟩
    refine ⟨.ref t1, rfl, .ref t2, rfl, t1, t2, m, L1, L2, rfl, hS1.same s8, hS2.same s8, by omega, by omega, hll, hm0, hm, g1, g2, hb12, fun H9 p2 N2 C s9 hP2 nC vC hN2' hl2' => ?_⟩
    refine ⟨two_ok, fun l2 nl2 => ?_⟩
    have s10 := same_new (o := .lst [V.ref p1, .ref p2]) nl2
    have hl2 : upd H9 l2 (.lst [V.ref p1, .ref p2]) l2 = some (.lst [V.ref p1, .ref p2]) := upd_same
    have hP1 := hP1.same (s9.trans s10)
    have hP2 := hP2.same s10
    have s710 := (s8.trans s9).trans s10
    generalize upd H9 l2 (.lst [V.ref p1, .ref p2]) = H10 at hl2 hP1 hP2 s710
    have c1 := cmp hP1 hP2 hl2 s710 (addT_nodup _ _) (norm_add hN1 hN2 h1.nodup h2.nodup) hN1' (addT_lens (fun q hq => (g1.1 q hq).1) fun q hq => (g2.1 q hq).1) (by omega) nC (fun j => (vC j).trans (norm_mul hN1 hN2 h1.nodup h2.nodup h1.len h2.len j)) hN2' (by omega)
    refine ⟨.ref l, rfl, _, _, rfl, c1, fun H11 s11 => ⟨true, rfl, iteF ?_⟩⟩
    have s711 := s710.trans s11
    dsimp only [tSeq, tAsg, gName, tNext]
    have hS1b := hS1.same s711
    have hS2b := hS2.same s711
    -- other, one
    have val21 : ∀ j, val (addT (L2.map Trm.d) (L1.map Trm.d)) j = val (addT D1 D2) j := fun j => by
      rw [norm_add hN2 hN1 h2.nodup h1.nodup, addT_val h2.nodup h1.nodup, addT_val h1.nodup h2.nodup, Int.add_comm]
    have mul21 : ∀ j, val (mulT (L2.map Trm.d) (L1.map Trm.d)) j = val (mulT D1 D2) j := fun j => by
      rw [norm_mul hN2 hN1 h2.nodup h1.nodup h2.len h1.len, mulT_comm_val]
    have len21 : ∀ q ∈ addT (L2.map Trm.d) (L1.map Trm.d), q.1.length = m := addT_lens (fun q hq => (g2.1 q hq).1) fun q hq => (g1.1 q hq).1
    refine ⟨.ref t2, rfl, .ref t1, rfl, t2, t1, m, L2, L1, rfl, hS2b, hS1b, by omega, by omega, hm0, g2, g1, fun H12 p3 N3 s12 hP3 hN3 hl3 => ?_⟩
    refine ⟨.ref t2, rfl, .ref t1, rfl, t2, t1, m, L2, L1, rfl, hS2b.same s12, hS1b.same s12, by omega, by omega, hll', hm0, hm, g2, g1, hb21, fun H13 p4 N4 C4 s13 hP4 nC4 vC4 hN4 hl4 => ?_⟩
    refine ⟨two_ok, fun l3 nl3 => ?_⟩
    have s14 := same_new (o := .lst [V.ref p3, .ref p4]) nl3
    have hl3' : upd H13 l3 (.lst [V.ref p3, .ref p4]) l3 = some (.lst [V.ref p3, .ref p4]) := upd_same
    have hP3 := hP3.same (s13.trans s14)
    have hP4 := hP4.same s14
    have s714 := ((s711.trans s12).trans s13).trans s14
    generalize upd H13 l3 (.lst [V.ref p3, .ref p4]) = H14 at hl3' hP3 hP4 s714
    have c2 := cmp hP3 hP4 hl3' s714 (addT_nodup _ _) val21 hN3 len21 (by omega) nC4 (fun j => (vC4 j).trans (mul21 j)) hN4 (by omega)
    refine ⟨.ref l, rfl, _, _, rfl, c2, fun H15 s15 => ⟨true, rfl, iteF ?_⟩⟩
    have s715 := s714.trans s15
    dsimp only [tSeq, tAsg, gName, tNext]
    have hS1c := hS1.same s715
    have hS2c := hS2.same s715
    -- by name
    refine ⟨.ref t2, rfl, .ref t1, rfl, t1, t2, m, L1, L2, rfl, hS1c, hS2c, by omega, by omega, hm0, g1, g2, fun H16 p5 N5 s16 hP5 hN5 hl5 => ?_⟩
    refine ⟨.ref t2, rfl, .ref t1, rfl, t1, t2, m, L1, L2, rfl, hS1c.same s16, hS2c.same s16, by omega, by omega, hll, hm0, hm, g1, g2, hb12, fun H17 p6 N6 C6 s17 hP6 nC6 vC6 hN6 hl6 => ?_⟩
    refine ⟨two_ok, fun l4 nl4 => ?_⟩
    have s18 := same_new (o := .lst [V.ref p5, .ref p6]) nl4
    have hl4' : upd H17 l4 (.lst [V.ref p5, .ref p6]) l4 = some (.lst [V.ref p5, .ref p6]) := upd_same
    have hP5 := hP5.same (s17.trans s18)
    have hP6 := hP6.same s18
    have s718 := ((s715.trans s16).trans s17).trans s18
    generalize upd H17 l4 (.lst [V.ref p5, .ref p6]) = H18 at hl4' hP5 hP6 s718
    have c3 := cmp hP5 hP6 hl4' s718 (addT_nodup _ _) (norm_add hN1 hN2 h1.nodup h2.nodup) hN5 (addT_lens (fun q hq => (g1.1 q hq).1) fun q hq => (g2.1 q hq).1) (by omega) nC6 (fun j => (vC6 j).trans (norm_mul hN1 hN2 h1.nodup h2.nodup h1.len h2.len j)) hN6 (by omega)
    refine ⟨.ref l, rfl, _, _, rfl, c3, fun H19 s19 => ?_⟩
    exact q H19 ((s07.trans s718).trans s19)
end
end NH
set_option Elab.async false
set_option linter.all false
set_option maxRecDepth 100000
set_option maxHeartbeats 1000000
set_option exponentiation.threshold 100000
namespace NH
open PySem PySem.Spec PyProof.Rows L2 R1 ZN PK RS DCT
/-- a dict of terms to a power from 1 on, step by step -/
def dueT (D : Ts) : Nat → Ts
  | 0 => D
  | i + 1 => mulT (dueT D i) D
theorem dueT_nodup {D : Ts} (n : NodupK D) : ∀ i, NodupK (dueT D i)
  | 0 => n
  | _ + 1 => mulT_nodup _ _
theorem dueT_len {D : Ts} {m : Nat} (l : ∀ q ∈ D, q.1.length = m) : ∀ i, ∀ q ∈ dueT D i, q.1.length = m
  | 0 => l
  | i + 1 => mulT_len (dueT_len l i) l
theorem dueT_val {D : Ts} {m : Nat} (n : NodupK D) (l : ∀ q ∈ D, q.1.length = m) : ∀ (i : Nat) {j : List Int}, j.length = m → val (dueT D i) j = powF (val D) D i j
  | 0, _, _ => rfl
  | i + 1, j, hj => by
    rw [dueT, mulT_val (dueT_nodup n i) (dueT_len l i) l hj]
    exact mulF_congr (fun k hk => dueT_val n l i hk) l hj
theorem dueT_keys {D : Ts} {m : Nat} (l : ∀ q ∈ D, q.1.length = m) : ∀ i, ∀ q ∈ dueT D i, q.1 ∈ covS m (D.map fun q => q.1) (i + 1)
  | 0, q, hq => by
    have := covS_step (m := m) (vs := D.map fun q => q.1) 0 (x := zerosP m) (by rw [covS_zero]; exact List.mem_singleton.mpr rfl) (List.mem_map_of_mem (f := fun q : List Int × Int => q.1) hq)
    rw [addP_zeros (l q hq)] at this
    exact this
  | i + 1, q, hq => by
    obtain ⟨a, ha, b, hb, e⟩ := mulT_keys hq
    rw [e]
    exact covS_step (i + 1) (dueT_keys l i a ha) (List.mem_map_of_mem (f := fun q : List Int × Int => q.1) hb)
/-- up to which power a dict of so many terms goes -/
def topP (k : Nat) : Nat := if k ≤ 4 then 12 else if k = 5 then 8 else 6
theorem cov_ok {k n : Nat} (h6 : k ≤ 6) (h : n ≤ topP k + 1) : cntS k n ≤ 1000 := by
  refine cntS_ok k h6 n ?_
  unfold topP at h
  split at h
  · rename_i h4
    rw [if_pos h4]
    exact h
  · rename_i h4
    rw [if_neg h4]
    split at h
    · rename_i h5
      rw [if_pos h5]
      exact h
    · rename_i h5
      rw [if_neg h5]
      exact h
theorem topP_mono {a b : Nat} (h : a ≤ b) : topP b ≤ topP a := by
  unfold topP
  split
  · rw [if_pos (by omega)]
    exact Nat.le_refl _
  · split
    · split
      · omega
      · split <;> omega
    · split
      · omega
      · split <;> omega
theorem dueT_size {D : Ts} {m : Nat} (n : NodupK D) (l : ∀ q ∈ D, q.1.length = m) (h6 : D.length ≤ 6) {i : Nat} (hi : i ≤ topP D.length) : (dueT D i).length ≤ 1000 := by
  refine Nat.le_trans (keys_le (dueT_nodup n i) (dueT_keys l i)) ?_
  rw [covS_len, List.length_map]
  exact cov_ok h6 (by omega)
theorem dueT_sz {D : Ts} {m α R : Nat} (z : Sz D α R) (n : NodupK D) (l : ∀ q ∈ D, q.1.length = m) (h6 : D.length ≤ 6) : ∀ i, Sz (dueT D i) (α + i * (α + 10)) (R + i * R)
  | 0 => by rw [Nat.zero_mul, Nat.add_zero, Nat.zero_mul, Nat.add_zero]; exact z
  | i + 1 => by
    have := (dueT_sz z n l h6 i).mul z (dueT_nodup n i) (dueT_len l i) l (by omega)
    refine this.more ?_ ?_
    · rw [Nat.succ_mul]
      omega
    · rw [Nat.succ_mul]
      omega
theorem powF_shift (F : List Int → Int) (B : Ts) : ∀ n, powF F B (n + 1) = powF (mulF F B) B n
  | 0 => rfl
  | n + 1 => by
    show mulF (powF F B (n + 1)) B = mulF (powF (mulF F B) B n) B
    rw [powF_shift F B n]
theorem powF_norm {D T : Ts} {m : Nat} (x : Norm D T) (n : NodupK D) (l : ∀ q ∈ D, q.1.length = m) (F : List Int → Int) : ∀ (i : Nat) {j : List Int}, j.length = m → powF F T i j = powF F D i j
  | 0, _, _ => rfl
  | i + 1, j, hj => by
    rw [powF, powF, norm_mulF x n]
    exact mulF_congr (fun k hk => powF_norm x n l F i hk) l hj
theorem pow_due {D T : Ts} {m : Nat} (x : Norm D T) (n : NodupK D) (l : ∀ q ∈ D, q.1.length = m) (i : Nat) {j : List Int} (hj : j.length = m) : powF (val [(zerosP m, 1)]) T (i + 1) j = val (dueT D i) j := by
  have lT : ∀ q ∈ T, q.1.length = m := fun q hq => l q ((x.mem q).mp hq).1
  rw [powF_shift, dueT_val n l i hj, powF_congr (G := val D) lT (fun k hk => by rw [mulF_unit lT hk, tot_val k (norm_nodup x), norm_val x n]) i hj, powF_norm x n l _ i hj]
section
variable {P : Program} {w : World} {K : PySem.W.Frag} {mg : Str → Option Value} {base : Heap} {f : Nat → Addr} {d : Nat → FuncData}
def spIsPower : Sp := fun vs H Q _ => ∃ (t1 d1 : Addr) (m n : Nat) (L1 : List Trm) (D1 : Ts), vs = [.ref t1, .ref d1, .int (n : Nat)] ∧ SumAt H t1 L1 ∧ DictAt H d1 m D1 ∧ Norm D1 (L1.map Trm.d) ∧ L1.length ≤ D1.length ∧ D1.length ≤ 6 ∧ 1 ≤ n ∧ n ≤ topP D1.length ∧ 0 < m ∧ m ≤ 400 ∧ Sz D1 110 12 ∧ ∀ H', Same H H' → Q (.bl true) H'
def tCmpP : TT := tNot (tB (tCall (spSame 4) [] E0 (tCons (tCall spPowerP [] E0 (tCons (tVar 0) (tCons (tVar 4) tNil))) (tCons (tCall spWritten [] E0 (tCons (tVar 3) tNil)) tNil))))
def tCmpK : TT := tNot (tB (tCall (spSame 4) [] E0 (tCons (tCallK spPowerP swap2 E0 tNil (tCons (tVar 4) (tCons (tVar 0) tNil))) (tCons (tCall spWritten [] E0 (tCons (tVar 3) tNil)) tNil))))
theorem ok_isPower {k : Nat} (D : Defs K mg f d) (hMT : ∃ u, mg "MOST_TIMES" = some u ∧ RelV (.int 12) u) : FnOk P w K mg base CX0 (k + 7) (f i__law_is_power) (d i__law_is_power) ["_law_one", "_law_terms_here", "_law_most"] spIsPower := by
  have G__law_written : FnOk P w K mg base CX0 (k + 6) (f i__law_written) (d i__law_written) ["_law_terms_here"] spWritten := (ok_written (k := k) D.F__law_written D.z_tuple D.z_sorted).mono (by omega)
  have G__law_times : FnOk P w K mg base CX0 (k + 6) (f i__law_times) (d i__law_times) ["_law_one", "_law_other"] spLTimes := (ok_ltimes (k := k) D).mono (by omega)
  have G_power : FnOk P w K mg base CX0 (k + 6) (f i_power) (d i_power) ["one", "times"] spPowerP := (ok_powerP (k := k) D hMT).mono (by omega)
  have G__law_same : FnOk P w K mg base CX0 (k + 6) (f i__law_same) (d i__law_same) ["_law_told", "_law_due"] (spSame 4) := (ok_same (k := k) D.F__law_same D.b__law_same D.g__law_same D.z_isinstance D.z_bool D.z_int D.z_str D.z_list D.z_tuple D.z_len D.z_zip 4).mono (by omega)
  refine D.F__law_is_power.ok sc__law_is_power (fun vs H Q E h => ?_) (fun cdv A outer s H vs Q E hr h => ?_)
  · obtain ⟨t1, d1, m, n, L1, D1, rfl, _⟩ := h
    rfl
  · obtain ⟨t1, d1, m, n, L1, D1, rfl, hS, hD, hN, hl1, hl6, hn1, hn, hm0, hm, hz, q⟩ := h
    have nd := sc__law_is_power.nd
    refine ⟨_, pss_cons (ps_set (i := 3) nd rfl (.inl rfl) (pv 1))
      (pss_cons (ps_for PassesOwn.never rfl (pi_range2 (by rfl) D.z_range (pa_cons pe_int (pa_cons (pe_op op_add (pv 2) pe_int) pa_nil))) (pg_name (i := 4) nd rfl (.inl rfl))
        (Evl.pss_cut (ps_if (PW.pt (pw_and (PW.pt (pw_or (pt_cmpR op_lt (pv 4) pe_int (nomark _)) (pw_or1 (pt_cmpR op_eq (pv 4) (pv 2) (nomark _))))) (pw_and1 (pt_not (pt_val (pe_call G__law_same hr (by rfl) D.g__law_same D.F__law_same.kp D.b__law_same .nil pass0 (pa_cons (pe_call G_power hr (by rfl) D.g_power D.F_power.kp D.b_power .nil pass0 (pa_cons (pv 0) (pa_cons (pv 4) pa_nil))) (pa_cons (pe_call G__law_written hr (by rfl) D.g__law_written D.F__law_written.kp D.b__law_written .nil pass0 (pa_cons (pv 3) pa_nil)) pa_nil))))))))
            (pss_one (ps_ret (pe_bl)))
            pss_nil)
          (Evl.pss_cut (ps_if (PW.pt (pw_and (pt_cmpR op_eq (pv 4) (pv 2) (nomark _)) (pw_and1 (pt_not (pt_val (pe_call G__law_same hr (by rfl) D.g__law_same D.F__law_same.kp D.b__law_same .nil pass0 (pa_cons (pe_callK0 G_power hr (by rfl) D.g_power D.F_power.kp (kb_power D) pass0 (pk_cons (pv 4) (pk_cons (pv 0) pk_nil))) (pa_cons (pe_call G__law_written hr (by rfl) D.g__law_written D.F__law_written.kp D.b__law_written .nil pass0 (pa_cons (pv 3) pa_nil)) pa_nil))))))))
            (pss_one (ps_ret (pe_bl)))
            pss_nil)
          (pss_one (ps_set (i := 3) nd rfl (.inl rfl) (pe_call G__law_times hr (by rfl) D.g__law_times D.F__law_times.kp D.b__law_times .nil pass0 (pa_cons (pv 3) (pa_cons (pv 1) pa_nil))))))))
      (pss_one (ps_ret (pe_bl)))), ?_⟩
    have hGd := hN.good hD.len
    have zT := hz.norm hN
    have hlT : (L1.map Trm.d).length ≤ D1.length := by rw [List.length_map]; exact hl1
    have top12 : topP D1.length ≤ 12 := by
      unfold topP
      split
      · omega
      · split <;> omega
    have pw : ∀ {i : Nat} {H1 : Hp} {Q1 : VK}, i < n → Same H H1 → (∀ (H2 : Hp) (p : Addr) (N : List Trm) (C : Ts), Same H1 H2 → SumAt H2 p N → NodupK C → (∀ q ∈ C, q.1.length = m) → (∀ j, val C j = val (dueT D1 i) j) → Norm C (N.map Trm.d) → N.length ≤ 1000 → Q1 (.ref p) H2) → spPowerP [.ref t1, .int ((i + 1 : Nat) : Int)] H1 Q1 E0 := by
      intro i H1 Q1 hi s1 hq
      refine ⟨t1, m, i + 1, L1, covS m ((L1.map Trm.d).map fun q => q.1), rfl, hS.same s1, by omega, by omega, by omega, hm0, hm, hGd, fun q hq => ⟨Nat.lt_of_lt_of_le (zT.c q hq) (Nat.pow_le_pow_right (by decide) (by decide)), fun x hx => Nat.le_trans (zT.r q hq x hx) (by decide)⟩, by rw [covS_zero]; exact List.mem_singleton.mpr rfl, fun j hj x hx q hq => covS_step j hx (List.mem_map_of_mem (f := fun q : List Int × Int => q.1) hq), fun j hj => ?_, fun H2 p N C s2 hP nC lC vC hC hl => ?_⟩
      · rw [covS_len, List.length_map]
        have := topP_mono hlT
        exact cov_ok (by omega) (by omega)
      · refine hq H2 p N C s2 hP nC lC (fun j => ?_) hC hl
        by_cases hj : j.length = m
        · rw [vC j hj, pow_due hN hD.nodup hD.len i hj]
        · rw [val_out lC hj, val_out (dueT_len hD.len i) hj]
    dsimp only [tSeq, tAsg, gName, tNext]
    refine ⟨.ref d1, rfl, ?_⟩
    refine ⟨.int (n : Nat), rfl, _, _, rfl, rfl, 1, (n : Int) + 1, rfl, by omega, ?_⟩
    rw [show (((n : Nat) : Int) + 1 - 1).toNat = n by omega]
    refine for_range (lo := 1) (n := n) (fun i σ H' => ∃ (x : Addr) (y4 : Option V), σ = [some (.ref t1), some (.ref d1), some (.int (n : Nat)), some (.ref x), y4] ∧ Same H H' ∧ DictAt H' x m (dueT D1 i)) ⟨d1, none, rfl, Same.refl _, hD⟩ (fun i σ H' hi h => ?_) (fun σ H' h => ?_)
    · obtain ⟨x, y4, rfl, s1, hx⟩ := h
      dsimp only [gName]
      rw [show ((1 : Int) + (i : Nat)) = ((i + 1 : Nat) : Int) by omega]
      have hsz := dueT_size hD.nodup hD.len hl6 (i := i) (by omega)
      refine ⟨fun σ' H2 => σ' = [some (.ref t1), some (.ref d1), some (.int (n : Nat)), some (.ref x), some (.int ((i + 1 : Nat) : Int))] ∧ Same H' H2, ?_, ?_⟩
      · have hR : ∀ K' : Bool → Hp → Prop, (∀ H2, Same H' H2 → K' false H2) → tCmpP [some (.ref t1), some (.ref d1), some (.int (n : Nat)), some (.ref x), some (.int ((i + 1 : Nat) : Int))] H' K' := fun K' hK => by
          refine ⟨.ref t1, rfl, .int ((i + 1 : Nat) : Int), rfl, tNil_ap ?_⟩
          refine pw hi s1 fun H2 p N C s2 hP nC lC vC hC hl => ?_
          refine ⟨.ref x, rfl, x, m, _, rfl, hx.same s2, hm0, by omega, fun H3 u M s3 _ hU hM hMl => ?_⟩
          refine ⟨_, _, rfl, sm_sum' (m := m) (hP.same s3) hU nC (dueT_nodup hD.nodup i) vC hC hM (by omega) (by omega) lC, fun H4 s4 => ⟨true, rfl, hK H4 ((s2.trans s3).trans s4)⟩⟩
        refine ⟨.int ((i + 1 : Nat) : Int), rfl, _, _, rfl, rfl, _, rfl, ite2 (fun e => ?_) (fun e => ?_)⟩
        · refine iteT ?_
          exact hR _ fun H2 s2 => iteF ⟨rfl, s2⟩
        · refine ⟨.int ((i + 1 : Nat) : Int), rfl, .int (n : Nat), rfl, rfl, _, rfl, ite2 (fun e => ?_) (fun e => ?_)⟩
          · exact hR _ fun H2 s2 => iteF ⟨rfl, s2⟩
          · exact iteF ⟨rfl, fun _ _ e => e⟩
      · rintro σ' H2 ⟨rfl, s2⟩
        refine ⟨fun σ' H3 => σ' = [some (.ref t1), some (.ref d1), some (.int (n : Nat)), some (.ref x), some (.int ((i + 1 : Nat) : Int))] ∧ Same H2 H3, ?_, ?_⟩
        · have hR : ∀ K' : Bool → Hp → Prop, (∀ H3, Same H2 H3 → K' false H3) → tCmpK [some (.ref t1), some (.ref d1), some (.int (n : Nat)), some (.ref x), some (.int ((i + 1 : Nat) : Int))] H2 K' := fun K' hK => by
            refine ⟨.int ((i + 1 : Nat) : Int), rfl, .ref t1, rfl, tNil_ap ?_⟩
            refine pw hi (s1.trans s2) fun H3 p N C s3 hP nC lC vC hC hl => ?_
            refine ⟨.ref x, rfl, x, m, _, rfl, (hx.same s2).same s3, hm0, by omega, fun H4 u M s4 _ hU hM hMl => ?_⟩
            refine ⟨_, _, rfl, sm_sum' (m := m) (hP.same s4) hU nC (dueT_nodup hD.nodup i) vC hC hM (by omega) (by omega) lC, fun H5 s5 => ⟨true, rfl, hK H5 ((s3.trans s4).trans s5)⟩⟩
          refine ⟨.int ((i + 1 : Nat) : Int), rfl, .int (n : Nat), rfl, rfl, _, rfl, ite2 (fun e => ?_) (fun e => ?_)⟩
          · exact hR _ fun H3 s3 => iteF ⟨rfl, s3⟩
          · exact iteF ⟨rfl, fun _ _ e => e⟩
        · rintro σ' H3 ⟨rfl, s3⟩
          have s03 := (s1.trans s2).trans s3
          have hz2 := dueT_sz hz hD.nodup hD.len hl6 i
          have hbits : 110 + i * (110 + 10) ≤ 40000 := by
            have : i * (110 + 10) ≤ 12 * 120 := Nat.mul_le_mul (by omega) (by decide)
            omega
          refine ⟨.ref x, rfl, .ref d1, rfl, x, d1, m, _, D1, rfl, (hx.same s2).same s3, hD.same s03, hsz, by omega, hm, fun q hq => Nat.lt_of_lt_of_le (hz2.c q hq) (Nat.pow_le_pow_right (by decide) hbits), fun q hq => Nat.lt_of_lt_of_le (hz.c q hq) (Nat.pow_le_pow_right (by decide) (by decide)), fun H4 e s4 _ he => ?_⟩
          exact ⟨e, _, rfl, s03.trans s4, he⟩
    · obtain ⟨x, y4, rfl, s1, hx⟩ := h
      exact q H' s1
end
end NH
set_option Elab.async false
set_option linter.all false
set_option maxRecDepth 100000
set_option maxHeartbeats 1000000
set_option exponentiation.threshold 100000
namespace NH
open PySem PySem.Spec PyProof.Rows L2 R1 ZN PK RS DCT
theorem ten30 : (10 : Int) ^ (30 : Int).toNat = 1000000000000000000000000000000 := by decide
theorem four_ok {a b c e : V} : [a, b, c, e].length ≤ sizeLine := two_ok4
theorem pick4 {x y z u r : Int} (h0 : 0 ≤ r) (h1 : r < 4) : ∃ v, atI [V.int x, .int y, .int z, .int u] r = some (.int v) ∧ (v = x ∨ v = y ∨ v = z ∨ v = u) := by
  obtain ⟨k, rfl⟩ : ∃ k : Nat, r = k := ⟨r.toNat, by omega⟩
  match k, h1 with
  | 0, _ => exact ⟨x, rfl, .inl rfl⟩
  | 1, _ => exact ⟨y, rfl, .inr (.inl rfl)⟩
  | 2, _ => exact ⟨z, rfl, .inr (.inr (.inl rfl))⟩
  | 3, _ => exact ⟨u, rfl, .inr (.inr (.inr rfl))⟩
  | k + 4, h => omega
theorem sgn_pick {r : Int} (h0 : 0 ≤ r) (h1 : r < 2) : 1 - 2 * r = 1 ∨ 1 - 2 * r = -1 := by omega
theorem flat_rep (m : Nat) (x : Int) : (List.replicate (m : Int).toNat [V.int x]).flatten = ((List.replicate m x).map V.int) := by
  rw [show (m : Int).toNat = m by omega]
  induction m with
  | zero => rfl
  | succ m ih => rw [List.replicate_succ, List.flatten_cons, ih, List.replicate_succ, List.map_cons]; rfl
theorem stock_dict {H : Hp} {a c e : Addr} {n : Nat} {ks : List (List Key × V)} (S : Stock H a c n) (h : H e = some (.dT ks)) : e ≠ a ∧ e ≠ c := by
  obtain ⟨ne, cs, x, y, z, h1, h2, _⟩ := S
  exact ⟨ne_of h h1 (by intro z; cases z), ne_of h h2 (by intro z; cases z)⟩
/-- a dict of terms with sizes -/
structure Oth (m N : Nat) (R : Ts) : Prop where
  nd : NodupK R
  len : ∀ q ∈ R, q.1.length = m
  sz : Sz R 110 12
  few : R.length ≤ N
theorem Oth.nil (m : Nat) : Oth m 0 [] := ⟨List.nodup_nil, fun q h => (by cases h), ⟨fun q h => (by cases h), fun q h => (by cases h)⟩, Nat.le_refl _⟩
theorem Oth.put {m N : Nat} {R : Ts} {k : List Int} {v : Int} (h : Oth m N R) (hk : k.length = m) (hv : v.natAbs < 2 ^ 110) (hr : ∀ x ∈ k, x.natAbs ≤ 12) : Oth m (N + 1) (setD R k v) := by
  refine ⟨setD_nodup _ _ h.nd, fun q hq => ?_, ⟨fun q hq => ?_, fun q hq => ?_⟩, Nat.le_trans (setD_len _ _ _) (Nat.succ_le_succ h.few)⟩
  · rcases setD_mem hq with ⟨hq, _⟩ | rfl
    · exact h.len q hq
    · exact hk
  · rcases setD_mem hq with ⟨hq, _⟩ | rfl
    · exact h.sz.c q hq
    · exact hv
  · rcases setD_mem hq with ⟨hq, _⟩ | rfl
    · exact h.sz.r q hq
    · exact hr
theorem Oth.more {m N M : Nat} {R : Ts} (h : Oth m N R) (l : N ≤ M) : Oth m M R := ⟨h.nd, h.len, h.sz, Nat.le_trans h.few l⟩
theorem oth_of {m N : Nat} {H : Hp} {e : Addr} {R : Ts} {g sp : Int} (h : DictAt H e m R) (b : Bn g sp R) (hg : g.natAbs < 2 ^ 110) (hsp : sp ≤ 12) (l : R.length ≤ N) : Oth m N R :=
  ⟨h.nodup, h.len, ⟨fun q hq => Nat.lt_of_le_of_lt (b.b q hq).1 hg, fun q hq x hx => by have := (b.b q hq).2 x hx; omega⟩, l⟩
theorem Oth.dict {m N : Nat} {H : Hp} {e : Addr} {R : Ts} (h : Oth m N R) (he : H e = some (dZ R)) : DictAt H e m R := ⟨he, h.nd, h.len⟩
section
variable {P : Program} {w : World} {K : PySem.W.Frag} {mg : Str → Option Value} {base : Heap} {f : Nat → Addr} {d : Nat → FuncData}
def spTwo : Sp := fun vs H Q _ => ∃ (a c : Addr) (n m : Nat), vs = [.ref a, .int (m : Nat)] ∧ Stock H a c n ∧ n ≤ 800000 ∧ 1 ≤ m ∧ m ≤ 5 ∧
  ∀ H' (z e1 e2 : Addr) (D1 D2 : Ts), Stock H' a c (n + 500) → Keep a c H H' → H' z = some (.tup [.ref e1, .ref e2]) → DictAt H' e1 m D1 → DictAt H' e2 m D2 → Oth m 6 D1 → D2.length ≤ 20 → Sz D2 200 1000 → Q (.ref z) H'
theorem ok_two {k : Nat} (D : Defs K mg f d) : FnOk P w K mg base CX0 (k + 4) (f i__law_two) (d i__law_two) ["_law_stock_here", "_law_many"] spTwo := by
  have G__law_pick : FnOk P w K mg base CX0 (k + 3) (f i__law_pick) (d i__law_pick) ["_law_stock_here", "_law_limit"] spPick := (ok_pick (k := k) D.F__law_pick D.z_int).mono (by omega)
  have G__law_terms : FnOk P w K mg base CX0 (k + 3) (f i__law_terms) (d i__law_terms) ["_law_stock_here", "_law_many", "_law_most", "_law_span", "_law_great"] spTerms := ok_terms D.F__law_terms D.F__law_pick D.b__law_pick D.g__law_pick D.F__law_wide D.b__law_wide D.g__law_wide D.z_int D.z_range D.z_tuple
  have G__law_times : FnOk P w K mg base CX0 (k + 3) (f i__law_times) (d i__law_times) ["_law_one", "_law_other"] spLTimes := (ok_ltimes (k := k) D).mono (by omega)
  refine D.F__law_two.ok sc__law_two (fun vs H Q E h => ?_) (fun cdv A outer s H vs Q E hr h => ?_)
  · obtain ⟨a, c, n, m, rfl, _⟩ := h
    rfl
  · obtain ⟨a, c, n, m, rfl, S, hn, hm1, hm5, q⟩ := h
    have nd := sc__law_two.nd
    have hu := hu_of hr
    refine ⟨_, pss_cons (ps_set (i := 2) nd rfl (.inl rfl) (pe_call G__law_pick hr (by rfl) D.g__law_pick D.F__law_pick.kp D.b__law_pick .nil pass0 (pa_cons (pv 0) (pa_cons pe_int pa_nil))))
      (pss_cons (ps_set (i := 3) nd rfl (.inl rfl) (pe_ix ix_list (pe_lst (pa_cons pe_int (pa_cons pe_int (pa_cons pe_int (pa_cons pe_int pa_nil))))) (pe_call G__law_pick hr (by rfl) D.g__law_pick D.F__law_pick.kp D.b__law_pick .nil pass0 (pa_cons (pv 0) (pa_cons pe_int pa_nil))) (fun _ _ => rfl)))
      (pss_cons (ps_set (i := 4) nd rfl (.inl rfl) (pe_ix ix_list (pe_lst (pa_cons pe_int (pa_cons (pe_op op_sub (pe_op op_powX pe_int pe_int) pe_int) (pa_cons pe_int (pa_cons pe_int pa_nil))))) (pe_call G__law_pick hr (by rfl) D.g__law_pick D.F__law_pick.kp D.b__law_pick .nil pass0 (pa_cons (pv 0) (pa_cons pe_int pa_nil))) (fun _ _ => rfl)))
      (pss_cons (ps_set (i := 5) nd rfl (.inl rfl) (pe_call G__law_terms hr (by rfl) D.g__law_terms D.F__law_terms.kp D.b__law_terms .nil pass0 (pa_cons (pv 0) (pa_cons (pv 1) (pa_cons pe_int (pa_cons (pv 3) (pa_cons (pv 4) pa_nil)))))))
      (pss_cons (ps_if (pt_cmpR op_eq (pv 2) pe_int (nomark _))
        (pss_one (ps_ret (pe_tup (pa_cons (pv 5) (pa_cons (pe_call G__law_times hr (by rfl) D.g__law_times D.F__law_times.kp D.b__law_times .nil pass0 (pa_cons (pv 5) (pa_cons (pe_disp1T hu (pe_callTy call_tuple_of (by rfl) D.z_tuple (by decide +kernel) (pa_cons (pe_op op_rep (pe_lst (pa_cons pe_int pa_nil)) (pv 1)) pa_nil)) (pe_un un_neg pe_int)) pa_nil))) pa_nil)))))
        pss_nil)
      (pss_cons (ps_if (pt_cmpR op_eq (pv 2) pe_int (nomark _))
        (pss_cons (ps_set (i := 6) nd rfl (.inl rfl) (pe_dnewT))
          (pss_cons (ps_lock (ps_for PassesOwn.never rfl (pi_keys (pv 5)) (pg_name (i := 7) nd rfl (.inl rfl))
            (pss_one (ps_dput hu (pv 6) (pv 7) (pe_op op_mulX (pe_dget hu (pv 5) (pv 7) (fun _ _ => rfl)) (pe_op op_sub pe_int (pe_op op_mulX pe_int (pe_call G__law_pick hr (by rfl) D.g__law_pick D.F__law_pick.kp D.b__law_pick .nil pass0 (pa_cons (pv 0) (pa_cons pe_int pa_nil)))))) rfl))))
          (pss_one (ps_ret (pe_tup (pa_cons (pv 5) (pa_cons (pv 6) pa_nil)))))))
        pss_nil)
      (pss_cons (ps_if (pt_cmpR op_eq (pv 2) pe_int (nomark _))
        (pss_one (ps_ret (pe_tup (pa_cons (pv 5) (pa_cons pe_dnewT pa_nil)))))
        pss_nil)
      (pss_cons (ps_set (i := 6) nd rfl (.inl rfl) (pe_call G__law_terms hr (by rfl) D.g__law_terms D.F__law_terms.kp D.b__law_terms .nil pass0 (pa_cons (pv 0) (pa_cons (pv 1) (pa_cons (pe_ix ix_list (pe_lst (pa_cons pe_int (pa_cons pe_int pa_nil))) (pe_callTy call_int1 (by rfl) D.z_int (by decide +kernel) (pa_cons (pe_cmpR op_eq (pv 2) pe_int (nomark _)) pa_nil)) (fun _ _ => rfl)) (pa_cons (pv 3) (pa_cons (pv 4) pa_nil)))))))
      (Evl.pss_cut (ps_if (pt_cmpR op_eq (pv 2) pe_int (nomark _))
        (pss_one (ps_lock (ps_for PassesOwn.never rfl (pi_keys (pv 5)) (pg_name (i := 7) nd rfl (.inl rfl))
            (pss_one (ps_dput hu (pv 6) (pv 7) (pe_op op_sub pe_int (pe_dget hu (pv 5) (pv 7) (fun _ _ => rfl))) rfl)))))
        pss_nil)
      (Evl.pss_cut (ps_if (PW.pt (pw_and (pt_cmpR op_eq (pv 2) pe_int (nomark _)) (pw_and1 (pt_cmpR (op_neD0 (Nat.lt_of_succ_lt hu)) (pv 5) pe_dnewT (nomark _)))))
        (pss_one (ps_dput hu (pv 6) (pe_ix ix_list (pe_callB (cr_sortedDT rfl) (by rfl) D.z_sorted (by decide +kernel) (pa_cons (pv 5) pa_nil)) (pe_call G__law_pick hr (by rfl) D.g__law_pick D.F__law_pick.kp D.b__law_pick .nil pass0 (pa_cons (pv 0) (pa_cons (pe_callB L2.call_len_dT (by rfl) D.z_len PySem.boot_len (pa_cons (pv 5) pa_nil)) pa_nil))) (fun _ _ => rfl)) (pe_op op_add pe_int (pe_call G__law_pick hr (by rfl) D.g__law_pick D.F__law_pick.kp D.b__law_pick .nil pass0 (pa_cons (pv 0) (pa_cons pe_int pa_nil)))) rfl))
        pss_nil)
      (pss_one (ps_ret (pe_tup (pa_cons (pv 5) (pa_cons (pv 6) pa_nil)))))))))))))), ?_⟩
    refine ⟨.ref a, rfl, a, c, _, 8, rfl, S, by omega, by decide, by decide, fun H1 r1 S1 k1 p10 p11 => ?_⟩
    dsimp only [tSeq, tAsg, gName, tNext]
    refine ⟨four_ok, fun p np => ?_⟩
    have ap := S1.fresh np
    have S2 := S1.new (o := .lst [V.int 1, .int 12, .int 2, .int 1]) np
    have k2 := k1.trans (Keep.new (a := a) (c := c) (o := .lst [V.int 1, .int 12, .int 2, .int 1]) np)
    have hp : upd H1 p (.lst [V.int 1, .int 12, .int 2, .int 1]) p = some (.lst [V.int 1, .int 12, .int 2, .int 1]) := upd_same
    generalize upd H1 p (.lst [V.int 1, .int 12, .int 2, .int 1]) = H2 at S2 hp k2
    refine ⟨.ref a, rfl, a, c, _, 4, rfl, S2, by omega, by decide, by decide, fun H3 r3 S3 k3 p30 p31 => ?_⟩
    obtain ⟨sp, hsp, hsp4⟩ := pick4 (x := 1) (y := 12) (z := 2) (u := 1) p30 p31
    refine ⟨p, _, r3, .int sp, rfl, rfl, sqlOf (k3 p _ ap.1 ap.2 hp), hsp, ?_⟩
    dsimp only [tSeq, tAsg, gName, tNext]
    refine ⟨_, _, rfl, rfl, powx (a := 4) (by decide) (by decide) (by decide) (by decide), ?_⟩
    dsimp only
    rw [ten30]
    refine ⟨_, _, rfl, rfl, four_ok, fun p2 np2 => ?_⟩
    have ap2 := S3.fresh np2
    have S4 := S3.new (o := .lst [V.int 2, .int (1000000000000000000000000000000 - 1), .int 9, .int 1]) np2
    have k4 := (k2.trans k3).trans (Keep.new (a := a) (c := c) (o := .lst [V.int 2, .int (1000000000000000000000000000000 - 1), .int 9, .int 1]) np2)
    have hp2 : upd H3 p2 (.lst [V.int 2, .int (1000000000000000000000000000000 - 1), .int 9, .int 1]) p2 = some (.lst [V.int 2, .int (1000000000000000000000000000000 - 1), .int 9, .int 1]) := upd_same
    generalize upd H3 p2 (.lst [V.int 2, .int (1000000000000000000000000000000 - 1), .int 9, .int 1]) = H4 at S4 hp2 k4
    refine ⟨.ref a, rfl, a, c, _, 4, rfl, S4, by omega, by decide, by decide, fun H5 r5 S5 k5 p50 p51 => ?_⟩
    obtain ⟨g, hg, hg4⟩ := pick4 (x := 2) (y := 1000000000000000000000000000000 - 1) (z := 9) (u := 1) p50 p51
    refine ⟨p2, _, r5, .int g, rfl, rfl, sqlOf (k5 p2 _ ap2.1 ap2.2 hp2), hg, ?_⟩
    have hsb : 1 ≤ sp ∧ sp ≤ 12 := by rcases hsp4 with rfl | rfl | rfl | rfl <;> decide
    have hgb : 1 ≤ g ∧ g ≤ 2 ^ 120 := by rcases hg4 with rfl | rfl | rfl | rfl <;> decide
    have hgs : g.natAbs < 2 ^ 110 := by rcases hg4 with rfl | rfl | rfl | rfl <;> decide
    have k05 := k4.trans k5
    dsimp only [tSeq, tAsg, gName, tNext]
    refine ⟨.ref a, rfl, .int (m : Nat), rfl, .int sp, rfl, .int g, rfl, a, c, _, m, 6, sp, g, rfl, S5, by omega, by omega, by omega, by decide, hsb.1, hsb.2, hgb.1, hgb.2, fun H6 e T S6 k6 ne hT hB hTl => ?_⟩
    have ae := S5.fresh ne
    have k06 := k05.trans k6
    have oT := oth_of hT hB hgs hsb.2 hTl
    have ne0 : H e = none := k05.free ae ne
    have S6 : Stock H6 a c (n + 210) := S6.more (by omega)
    dsimp only [tSeq, tAsg, gName, tNext]
    refine ⟨.int r1, rfl, rfl, _, rfl, ite2 (fun _ => ?_) (fun _ => ?_)⟩
    · -- the opposite one
      refine ⟨.ref e, rfl, .ref e, rfl, fun u nu => ?_⟩
      have s1 := same_new (o := .dT []) nu
      have hu1 : upd H6 u (.dT []) u = some (.dT []) := upd_same
      generalize upd H6 u (.dT []) = H7 at s1 hu1
      refine ⟨one1, fun l nl => ⟨.int (m : Nat), rfl, l, m, [.int 0], rfl, rfl, upd_same, by omega, by omega, by rw [sizeLine_eq]; show 1 * (m : Int).toNat ≤ _; omega, fun l2 nl2 => ?_⟩⟩
      rw [flat_rep]
      have s2 := same_new (o := .lst [V.int 0]) nl
      have s3 := same_new (o := .lst ((List.replicate m 0).map V.int)) nl2
      refine ⟨l2, _, rfl, .inl ⟨sqlOf upd_same, fun t nt => ?_⟩⟩
      have s4 := same_new (o := .tup ((List.replicate m 0).map V.int)) nt
      have s24 := (s2.trans s3).trans s4
      have ht : upd (upd (upd H7 l (.lst [V.int 0])) l2 (.lst ((List.replicate m 0).map V.int))) t (.tup ((List.replicate m 0).map V.int)) t = some (.tup ((List.replicate m 0).map V.int)) := upd_same
      generalize upd (upd (upd H7 l (.lst [V.int 0])) l2 (.lst ((List.replicate m 0).map V.int))) t (.tup ((List.replicate m 0).map V.int)) = H8 at s24 ht
      refine ⟨1, rfl, [], (zerosP m).map Sum.inl, t, rfl, by rw [map_kV]; exact ht, s24 _ _ hu1, by rw [sizeLine_eq]; decide, ?_⟩
      have nu0 : H6 u = none := nu
      have s68 : Same H6 (upd H8 u (.dT (putK [] ((zerosP m).map Sum.inl) (.int (-1))))) := fun b o eb => by
        rw [upd_ne (ne_of_none eb nu0)]
        exact s24 _ _ (s1 _ _ eb)
      have hU : upd H8 u (.dT (putK [] ((zerosP m).map Sum.inl) (.int (-1)))) u = some (dZ [(zerosP m, -1)]) := upd_same
      generalize upd H8 u (.dT (putK [] ((zerosP m).map Sum.inl) (.int (-1)))) = H9 at s68 hU
      have dU : DictAt H9 u m [(zerosP m, -1)] := ⟨hU, List.nodup_cons.mpr ⟨by simp, List.nodup_nil⟩, fun q hq => by cases List.mem_singleton.mp hq; exact List.length_replicate ..⟩
      have zU : Sz [(zerosP m, -1)] 1 0 := ⟨fun q hq => by cases List.mem_singleton.mp hq; show 1 < 2 ^ 1; decide, fun q hq x hx => by
        cases List.mem_singleton.mp hq
        have := List.eq_of_mem_replicate hx
        subst this
        exact Nat.le_refl _⟩
      refine ⟨e, u, m, T, _, rfl, hT.same s68, dU, by have := oT.few; omega, by show 1 ≤ 1000; decide, by omega, fun q hq => Nat.lt_of_lt_of_le (oT.sz.c q hq) (Nat.pow_le_pow_right (by decide) (by decide)), fun q hq => Nat.lt_of_lt_of_le (zU.c q hq) (Nat.pow_le_pow_right (by decide) (by decide)), fun Ha e2 sa _ hE2 => ⟨two_ok, fun z nz => ?_⟩⟩
      have sz := same_new (o := .tup [V.ref e, .ref e2]) nz
      have s6z := (s68.trans sa).trans sz
      have hsz := oT.sz.mul zU oT.nd oT.len dU.len (by show 1 ≤ 1000; decide)
      refine q _ z e e2 T _ ((S6.same s6z).more (by omega)) (k06.trans (same_keep s6z)) upd_same (hT.same s6z) (hE2.same sz) oT ?_ (hsz.more (by decide) (by decide))
      have := mulT_size (A := T) (B := [(zerosP m, -1)])
      have h2 := oT.few
      rw [List.length_singleton] at this
      omega
    refine ⟨.int r1, rfl, rfl, _, rfl, ite2 (fun _ => ?_) (fun _ => ?_)⟩
    · -- other signs
      dsimp only [tSeq, tAsg, gName, tNext]
      refine fun u nu => ?_
      have s1 := same_new (o := .dT []) nu
      have au := S6.fresh nu
      have nu0 : H u = none := k06.free au nu
      have hu1 : upd H6 u (.dT []) u = some (.dT []) := upd_same
      have S7 := S6.same s1
      have k07 := k06.trans (same_keep (a := a) (c := c) s1)
      have hT7 := hT.same s1
      generalize upd H6 u (.dT []) = H7 at *
      have eu : e ≠ u := fun z => by
        have h9 := hT.at_
        rw [z, nu] at h9
        cases h9
      refine ⟨e, _, hT7.at_, trivial, fun od => ?_⟩
      refine ⟨.ref e, rfl, e, od, rfl, .inr ⟨_, upd_same, for_it (walk_keysT (d := e) (o := od) (kvs := T.map enc)) (fun j σ H' => ∃ (y7 : Option V) (R : Ts), σ = [some (.ref a), some (.int (m : Nat)), some (.int r1), some (.int sp), some (.int g), some (.ref e), some (.ref u), y7] ∧ H' u = some (dZ R) ∧ Oth m j R ∧ H' e = some (.frz od (dZ T)) ∧ Stock H' a c (n + 210 + j) ∧ Keep a c H H')
        ⟨none, [], rfl, by rw [upd_ne eu.symm]; exact hu1, Oth.nil m, upd_same, S7.put ae, k07.put ne0⟩ (fun j σ H' _ h => ?_) (fun j x σ H0 H' hj h hy => ?_) (fun σ H' h => ?_)⟩⟩
      · obtain ⟨_, _, _, _, _, h, _⟩ := h
        exact h
      · obtain ⟨y7, R, rfl, hR, oR, hE, S', k'⟩ := h
        obtain ⟨rfl, kk, v, qa, e1, rfl, hqa⟩ := hy
        obtain ⟨r, hr1, er⟩ := Option.map_eq_some_iff.mp (by rw [List.getElem?_map] at e1; exact e1)
        cases er
        have hrm := List.mem_of_getElem? hr1
        have hjT : j < T.length := (List.getElem?_eq_some_iff.mp hr1).1
        have hT6 := oT.few
        rw [map_kV] at hqa
        have g1 : DGet H' e (.ref qa) (some (.int r.2)) := by
          have := DictAt.get (m := m) (D := T) (k := r.1) (.inr ⟨od, hE⟩) hqa
          rwa [show getO T r.1 = some r.2 from (getO_mem oT.nd).mpr hrm] at this
        have aq : qa ≠ a ∧ qa ≠ c := by
          obtain ⟨_, cs, x, y, z, f1, f2, _⟩ := S'
          exact ⟨ne_of hqa f1 (by intro z; cases z), ne_of hqa f2 (by intro z; cases z)⟩
        refine ⟨.ref e, rfl, .ref qa, rfl, e, .int r.2, rfl, g1, .ref a, rfl, a, c, _, 2, rfl, S', by omega, by decide, by decide, fun H8 r8 S8 k8 p80 p81 => ?_⟩
        have sg := sgn_pick p80 p81
        have hR8 := k8 _ _ au.1 au.2 hR
        have hcc : (r.2 * (1 - 2 * r8)).natAbs < 2 ^ 110 := by
          have := oT.sz.c r hrm
          rcases sg with h | h <;> rw [h]
          · rw [Int.mul_one]; exact this
          · rw [Int.mul_neg, Int.mul_one, Int.natAbs_neg]; exact this
        refine ⟨_, _, rfl, rfl, mulS (by decide) (by omega), _, _, rfl, rfl, _, _, rfl, rfl, mulx (oT.sz.c r hrm) (show (1 - 2 * r8).natAbs < 2 ^ 10 by omega) (by decide), .ref u, rfl, .ref qa, rfl, u, _, rfl, DPut.t (k := r.1.map Sum.inl) hR8 (by rw [map_kV]; exact k8 _ _ aq.1 aq.2 hqa) ?_, ?_⟩
        · rw [List.length_map, sizeLine_eq]
          have := oR.few
          omega
        · refine ⟨_, _, rfl, by rw [upd_same]; exact congrArg some (congrArg HO.dT (NH.putK_enc _ _ _)), oR.put (oT.len r hrm) hcc (oT.sz.r r hrm), by rw [upd_ne eu]; exact k8 _ _ ae.1 ae.2 hE, (S8.put au).more (by omega), (k'.trans k8).put nu0⟩
      · obtain ⟨y7, R, rfl, hR, oR, hE, S', k'⟩ := h
        have hT6 := oT.few
        rw [List.length_map] at oR S'
        refine ⟨hE, ?_⟩
        have S2' := S'.put (p := e) (o := dZ T) ae
        have k2' := k'.put (p := e) (o := dZ T) ne0
        have hR2 : upd H' e (dZ T) u = some (dZ R) := by rw [upd_ne eu.symm]; exact hR
        have hE2 : upd H' e (dZ T) e = some (dZ T) := upd_same
        generalize upd H' e (dZ T) = H8 at S2' k2' hR2 hE2
        refine ⟨.ref e, rfl, .ref u, rfl, two_ok, fun z nz => ?_⟩
        have sz := same_new (o := .tup [V.ref e, .ref u]) nz
        exact q _ z e u T R ((S2'.same sz).more (by omega)) (k2'.trans (same_keep sz)) upd_same (oT.dict (sz _ _ hE2)) (oR.dict (sz _ _ hR2)) oT (by have := oR.few; omega) (oR.sz.more (by decide) (by decide))
    refine ⟨.int r1, rfl, rfl, _, rfl, ite2 (fun _ => ?_) (fun _ => ?_)⟩
    · refine ⟨.ref e, rfl, fun u nu => ⟨two_ok, fun z nz => ?_⟩⟩
      have s1 := same_new (o := .dT []) nu
      have s2 := same_new (o := .tup [V.ref e, .ref u]) nz
      have s12 := s1.trans s2
      exact q _ z e u T [] ((S6.same s12).more (by omega)) (k06.trans (same_keep s12)) upd_same (hT.same s12) ((Oth.nil m).dict (s2 _ _ (upd_same : upd H6 u (.dT []) u = _))) oT (by decide) ⟨fun q h => (by cases h), fun q h => (by cases h)⟩
    dsimp only [tSeq, tAsg, gName, tNext]
    refine ⟨.ref a, rfl, .int (m : Nat), rfl, two_ok, fun p3 np3 => ?_⟩
    have s7 := same_new (o := .lst [V.int 6, .int 1]) np3
    have hp3 : upd H6 p3 (.lst [V.int 6, .int 1]) p3 = some (.lst [V.int 6, .int 1]) := upd_same
    have S7 := S6.same s7
    have k07 := k06.trans (same_keep (a := a) (c := c) s7)
    have hT7 := hT.same s7
    generalize upd H6 p3 (.lst [V.int 6, .int 1]) = H7 at *
    refine ⟨.int r1, rfl, rfl, .inr ⟨_, rfl, ?_⟩⟩
    dsimp only
    obtain ⟨mo, hmo, hmo6⟩ : ∃ mo : Nat, atI [V.int 6, .int 1] (if decide (V.int r1 = V.int 3) = true then 1 else 0) = some (.int (mo : Nat)) ∧ mo ≤ 6 := by
      cases decide (V.int r1 = V.int 3) with
      | true => exact ⟨1, rfl, by decide⟩
      | false => exact ⟨6, rfl, by decide⟩
    refine ⟨p3, _, _, .int (mo : Nat), rfl, rfl, sqlOf hp3, hmo, ?_⟩
    refine ⟨.int sp, rfl, .int g, rfl, a, c, _, m, mo, sp, g, rfl, S7, by omega, by omega, by omega, by omega, hsb.1, hsb.2, hgb.1, hgb.2, fun H8 e2 T2 S8 k8 ne2 hT2 hB2 hTl2 => ?_⟩
    have ae2 := S7.fresh ne2
    have k08 := k07.trans k8
    have ne20 : H e2 = none := k07.free ae2 ne2
    have oT2 : Oth m 6 T2 := (oth_of hT2 hB2 hgs hsb.2 hTl2).more hmo6
    have hT8 : DictAt H8 e m T := ⟨k8 _ _ ae.1 ae.2 hT7.at_, hT7.nodup, hT7.len⟩
    have ee : e ≠ e2 := fun z => by
      have h9 := hT7.at_
      rw [z, ne2] at h9
      cases h9
    have S8 : Stock H8 a c (n + 420) := S8.more (by omega)
    refine ⟨fun σ' H' => ∃ (y7 : Option V) (R : Ts), σ' = [some (.ref a), some (.int (m : Nat)), some (.int r1), some (.int sp), some (.int g), some (.ref e), some (.ref e2), y7] ∧ H' e = some (dZ T) ∧ H' e2 = some (dZ R) ∧ Oth m 12 R ∧ Stock H' a c (n + 420) ∧ Keep a c H H', ?_, ?_⟩
    · refine ⟨.int r1, rfl, rfl, _, rfl, ite2 (fun _ => ?_) (fun _ => ⟨none, T2, rfl, hT8.at_, hT2.at_, oT2.more (by decide), S8, k08⟩)⟩
      refine ⟨e, _, hT8.at_, trivial, fun od => ?_⟩
      refine ⟨.ref e, rfl, e, od, rfl, .inr ⟨_, upd_same, for_it (walk_keysT (d := e) (o := od) (kvs := T.map enc)) (fun j σ H' => ∃ (y7 : Option V) (R : Ts), σ = [some (.ref a), some (.int (m : Nat)), some (.int r1), some (.int sp), some (.int g), some (.ref e), some (.ref e2), y7] ∧ H' e2 = some (dZ R) ∧ Oth m (6 + j) R ∧ H' e = some (.frz od (dZ T)) ∧ Stock H' a c (n + 420) ∧ Keep a c H H')
        ⟨none, T2, rfl, by rw [upd_ne ee.symm]; exact hT2.at_, oT2, upd_same, S8.put ae, k08.put ne0⟩ (fun j σ H' _ h => ?_) (fun j x σ H0 H' hj h hy => ?_) (fun σ H' h => ?_)⟩⟩
      · obtain ⟨_, _, _, _, _, h, _⟩ := h
        exact h
      · obtain ⟨y7, R, rfl, hR, oR, hE, S', k'⟩ := h
        obtain ⟨rfl, kk, v, qa, e1, rfl, hqa⟩ := hy
        obtain ⟨r, hr1, er⟩ := Option.map_eq_some_iff.mp (by rw [List.getElem?_map] at e1; exact e1)
        cases er
        have hrm := List.mem_of_getElem? hr1
        have hjT : j < T.length := (List.getElem?_eq_some_iff.mp hr1).1
        have hT6 := oT.few
        rw [map_kV] at hqa
        have g1 : DGet H' e (.ref qa) (some (.int r.2)) := by
          have := DictAt.get (m := m) (D := T) (k := r.1) (.inr ⟨od, hE⟩) hqa
          rwa [show getO T r.1 = some r.2 from (getO_mem oT.nd).mpr hrm] at this
        have hcc : (0 - r.2).natAbs < 2 ^ 110 := by
          have := oT.sz.c r hrm
          rw [Int.zero_sub, Int.natAbs_neg]
          exact this
        refine ⟨.ref e, rfl, .ref qa, rfl, e, .int r.2, rfl, g1, _, _, rfl, rfl, .ref e2, rfl, .ref qa, rfl, e2, _, rfl, DPut.t (k := r.1.map Sum.inl) hR (by rw [map_kV]; exact hqa) ?_, ?_⟩
        · rw [List.length_map, sizeLine_eq]
          have := oR.few
          omega
        · exact ⟨_, _, rfl, by rw [upd_same]; exact congrArg some (congrArg HO.dT (NH.putK_enc _ _ _)), oR.put (oT.len r hrm) hcc (oT.sz.r r hrm), by rw [upd_ne ee]; exact hE, S'.put ae2, k'.put ne20⟩
      · obtain ⟨y7, R, rfl, hR, oR, hE, S', k'⟩ := h
        have hT6 := oT.few
        rw [List.length_map] at oR
        exact ⟨hE, y7, R, rfl, upd_same, by rw [upd_ne ee.symm]; exact hR, oR.more (by omega), S'.put ae, k'.put ne0⟩
    rintro σ' H' ⟨y7, R, rfl, hE, hR, oR, S', k'⟩
    refine ⟨fun σ' H' => ∃ (y7 : Option V) (R : Ts), σ' = [some (.ref a), some (.int (m : Nat)), some (.int r1), some (.int sp), some (.int g), some (.ref e), some (.ref e2), y7] ∧ H' e = some (dZ T) ∧ H' e2 = some (dZ R) ∧ Oth m 13 R ∧ Stock H' a c (n + 430) ∧ Keep a c H H', ?_, ?_⟩
    · have stay : ∃ (y7' : Option V) (R' : Ts), [some (.ref a), some (.int (m : Nat)), some (.int r1), some (.int sp), some (.int g), some (.ref e), some (.ref e2), y7] = [some (.ref a), some (.int (m : Nat)), some (.int r1), some (.int sp), some (.int g), some (.ref e), some (.ref e2), y7'] ∧ H' e = some (dZ T) ∧ H' e2 = some (dZ R') ∧ Oth m 13 R' ∧ Stock H' a c (n + 430) ∧ Keep a c H H' :=
        ⟨y7, R, rfl, hE, hR, oR.more (by decide), S'.more (by omega), k'⟩
      refine ⟨.int r1, rfl, rfl, _, rfl, ite2 (fun _ => ?_) (fun _ => iteF stay)⟩
      refine ⟨.ref e, rfl, fun u nu => ?_⟩
      have su := same_new (o := .dT []) nu
      refine ⟨e, u, T.map enc, rfl, rfl, su _ _ hE, upd_same, _, rfl, ite2 (fun hne => ?_) (fun _ => ⟨y7, R, rfl, su _ _ hE, su _ _ hR, oR.more (by decide), (S'.same su).more (by omega), k'.trans (same_keep su)⟩)⟩
      have hTl0 : 0 < T.length := by
        cases T with
        | nil => exact absurd hne (by decide)
        | cons _ _ => exact Nat.succ_pos _
      have hT6 := oT.few
      have hEu := su _ _ hE
      have hRu := su _ _ hR
      have Su := S'.same su
      have ku := k'.trans (same_keep (a := a) (c := c) su)
      generalize upd H' u (.dT []) = Hu at *
      refine ⟨.ref a, rfl, a, c, _, 3, rfl, Su, by omega, by decide, by decide, fun H9 r9 S9 k9 p90 p91 => ?_⟩
      refine ⟨_, _, rfl, rfl, .ref e2, rfl, ?_⟩
      have hE9 := k9 _ _ ae.1 ae.2 hEu
      have hR9 := k9 _ _ ae2.1 ae2.2 hRu
      refine ⟨.ref e, rfl, e, T.map fun q => (q.1, V.int q.2), rfl, .inl (by rw [dI_dZ]; exact hE9), fun p hp => ?_, fun ks p perm srt kt np => ?_⟩
      · obtain ⟨q1, hq, rfl⟩ := List.mem_map.mp hp
        intro z
        have h1 := oT.len q1 hq
        have z : q1.1 = [] := z
        rw [z] at h1
        simp at h1
        omega
      have s10 := same_new (o := .lst (ks.map fun q : Addr × List Int => V.ref q.1)) np
      have hp10 : upd H9 p (.lst (ks.map fun q : Addr × List Int => V.ref q.1)) p = some (.lst (ks.map fun q : Addr × List Int => V.ref q.1)) := upd_same
      have perm2 : (ks.map (·.2)).Perm (T.map (·.1)) := by
        rw [List.map_map] at perm
        exact perm
      have kl : ks.length = T.length := by
        have := perm2.length_eq
        rw [List.length_map, List.length_map] at this
        exact this
      have S10 := S9.same s10
      have ap10 := S9.fresh np
      have k10 := (ku.trans k9).trans (same_keep (a := a) (c := c) s10)
      have hE10 := s10 _ _ hE9
      have hR10 := s10 _ _ hR9
      have kt10 : ∀ q ∈ ks, upd H9 p (.lst (ks.map fun q : Addr × List Int => V.ref q.1)) q.1 = some (.tup (q.2.map V.int)) := fun q hq => s10 _ _ (kt q hq)
      generalize upd H9 p (.lst (ks.map fun q : Addr × List Int => V.ref q.1)) = H10 at *
      refine ⟨.ref a, rfl, .ref e, rfl, e, T.map enc, rfl, hE10, ?_⟩
      rw [List.length_map]
      refine ⟨a, c, _, ((T.length : Nat) : Int), rfl, S10, by omega, by omega, by rw [Int.natAbs_natCast]; omega, fun H11 r11 S11 k11 p110 p111 => ?_⟩
      obtain ⟨i, hi⟩ : ∃ i : Nat, r11 = i := ⟨r11.toNat, by omega⟩
      subst hi
      have hik : i < ks.length := by omega
      have hks : ks[i]? = some ks[i] := List.getElem?_eq_getElem hik
      have hkm := List.getElem_mem hik
      obtain ⟨q1, hq1, eq1⟩ : ∃ q1 ∈ T, q1.1 = (ks[i]).2 := by
        have : (ks[i]).2 ∈ T.map (·.1) := perm2.mem_iff.mp (List.mem_map_of_mem hkm)
        obtain ⟨q1, h1, h2⟩ := List.mem_map.mp this
        exact ⟨q1, h1, h2⟩
      have hkt := kt10 _ hkm
      have aq : (ks[i]).1 ≠ a ∧ (ks[i]).1 ≠ c := by
        obtain ⟨_, cs, x, y, z, f1, f2, _⟩ := S10
        exact ⟨ne_of hkt f1 (by intro z; cases z), ne_of hkt f2 (by intro z; cases z)⟩
      refine ⟨p, _, (i : Int), .ref (ks[i]).1, rfl, rfl, sqlOf (k11 _ _ ap10.1 ap10.2 hp10), atI_nat (by rw [List.getElem?_map, hks]; rfl), ?_⟩
      refine ⟨e2, _, rfl, DPut.t (k := (ks[i]).2.map Sum.inl) (k11 _ _ ae2.1 ae2.2 hR10) (by rw [map_kV]; exact k11 _ _ aq.1 aq.2 hkt) ?_, ?_⟩
      · rw [List.length_map, sizeLine_eq]
        have := oR.few
        omega
      · refine ⟨y7, _, rfl, by rw [upd_ne ee]; exact k11 _ _ ae.1 ae.2 hE10, by rw [upd_same]; exact congrArg some (congrArg HO.dT (NH.putK_enc _ _ _)), oR.put (by rw [← eq1]; exact oT.len q1 hq1) (by omega) (by rw [← eq1]; exact oT.sz.r q1 hq1), (S11.put ae2).more (by omega), (k10.trans k11).put ne20⟩
    rintro σ' H' ⟨y7, R, rfl, hE, hR, oR, S', k'⟩
    refine ⟨.ref e, rfl, .ref e2, rfl, two_ok, fun z nz => ?_⟩
    have sz := same_new (o := .tup [V.ref e, .ref e2]) nz
    exact q _ z e e2 T R ((S'.same sz).more (by omega)) (k'.trans (same_keep sz)) upd_same (oT.dict (sz _ _ hE)) (oR.dict (sz _ _ hR)) oT (by have := oR.few; omega) (oR.sz.more (by decide) (by decide))
end
end NH
set_option Elab.async false
set_option linter.all false
set_option maxRecDepth 100000
set_option maxHeartbeats 1000000
set_option exponentiation.threshold 100000
namespace NH
open PySem PySem.Spec PyProof.Rows L2 R1 ZN PK RS DCT
theorem fmod25 (i : Int) : 0 ≤ i.fmod 25 ∧ i.fmod 25 < 25 := ⟨Int.fmod_nonneg_of_pos i (by decide), Int.fmod_lt_of_pos i (by decide)⟩
/-- steps of a long sum -/
def Stp (H : Hp) (r : Addr) : Prop := ∃ a b c : Int, H r = some (.tup [.int a, .int b, .int c]) ∧ 1 ≤ a ∧ a ≤ 24 ∧ 1 ≤ b ∧ b ≤ 9 ∧ 0 ≤ c ∧ c ≤ 24
theorem Stp.keep {H H' : Hp} {r : Addr} (h : Stp H r) (k : KeepT H H') : Stp H' r := by
  obtain ⟨a, b, c, e, r⟩ := h
  exact ⟨a, b, c, k _ _ e, r⟩
section
variable {P : Program} {w : World} {K : PySem.W.Frag} {mg : Str → Option Value} {base : Heap} {f : Nat → Addr} {d : Nat → FuncData}
def spLong : Sp := fun vs H Q _ => ∃ (a c : Addr) (n m cn : Nat), vs = [.ref a, .int (m : Nat), .int (cn : Nat)] ∧ Stock H a c n ∧ n ≤ 800000 ∧ 1 ≤ m ∧ m ≤ 5 ∧ 1 ≤ cn ∧ cn ≤ 300 ∧
  ∀ H' (e : Addr) (D : Ts), Stock H' a c (n + 30) → Keep a c H H' → H e = none → DictAt H' e m D → Oth m 300 D → D ≠ [] → (∀ q ∈ D, q.2 ≠ 0 ∧ q.2.natAbs < 2 ^ 95) → Q (.ref e) H'
theorem ok_long {k : Nat} (D : Defs K mg f d) : FnOk P w K mg base CX0 (k + 3) (f i__law_long) (d i__law_long) ["_law_stock_here", "_law_many", "_law_count"] spLong := by
  have G__law_pick : FnOk P w K mg base CX0 (k + 2) (f i__law_pick) (d i__law_pick) ["_law_stock_here", "_law_limit"] spPick := (ok_pick (k := k) D.F__law_pick D.z_int).mono (by omega)
  have G__law_wide : FnOk P w K mg base CX0 (k + 2) (f i__law_wide) (d i__law_wide) ["_law_stock_here", "_law_limit"] spWide := ok_wide D.F__law_wide D.F__law_pick D.b__law_pick D.g__law_pick D.z_int D.z_range
  refine D.F__law_long.ok sc__law_long (fun vs H Q E h => ?_) (fun cdv A outer s H vs Q E hr h => ?_)
  · obtain ⟨a, c, n, m, cn, rfl, _⟩ := h
    rfl
  · obtain ⟨a, c, n, m, cn, rfl, S, hn, hm1, hm3, hcn1, hcn, q⟩ := h
    have nd := sc__law_long.nd
    have hu := hu_of hr
    refine ⟨_, pss_cons (ps_setLc (i := 3) (own := [("_law_j", 9)]) (g := gName 9) (by rfl) nd rfl rfl (sw_true rfl rfl rfl (by decide +kernel)) (pi_range1 (by rfl) D.z_range (pa_cons (pv 1) pa_nil)) (blkOk_by (own := [("_law_j", 9)]) (N := N__law_long) (sc := defScope s__law_long) (by decide +kernel))
          (fun _ _ _ _ _ => pg_name (i := 9) nd rfl (.inl rfl)) (fun _ _ _ _ _ => pts_nil) (fun _ _ _ _ _ => pe_tup (pa_cons (pe_op op_add pe_int (pe_call G__law_pick hr (by rfl) D.g__law_pick D.F__law_pick.kp D.b__law_pick .nil pass0 (pa_cons (pv 0) (pa_cons pe_int pa_nil)))) (pa_cons (pe_op op_add pe_int (pe_call G__law_pick hr (by rfl) D.g__law_pick D.F__law_pick.kp D.b__law_pick .nil pass0 (pa_cons (pv 0) (pa_cons pe_int pa_nil)))) (pa_cons (pe_call G__law_pick hr (by rfl) D.g__law_pick D.F__law_pick.kp D.b__law_pick .nil pass0 (pa_cons (pv 0) (pa_cons pe_int pa_nil))) pa_nil)))))
      (pss_cons (ps_par (i := 4) (j := 5) (by rfl) nd rfl rfl (by decide) rfl rfl (pa_cons (pe_call G__law_pick hr (by rfl) D.g__law_pick D.F__law_pick.kp D.b__law_pick .nil pass0 (pa_cons (pv 0) (pa_cons pe_int pa_nil))) (pa_cons (pe_op op_add pe_int (pe_call G__law_wide hr (by rfl) D.g__law_wide D.F__law_wide.kp D.b__law_wide .nil pass0 (pa_cons (pv 0) (pa_cons (pe_op op_powX pe_int pe_int) pa_nil)))) pa_nil)) (by rfl))
      (pss_cons (ps_set (i := 6) nd rfl (.inl rfl) (pe_dnewT))
      (pss_cons (ps_for PassesOwn.never rfl (pi_range1 (by rfl) D.z_range (pa_cons (pv 2) pa_nil)) (pg_name (i := 7) nd rfl (.inr rfl))
        (pss_cons (ps_set (i := 8) nd rfl (.inl rfl) (pe_callTy call_tuple_of (by rfl) D.z_tuple (by decide +kernel) (pa_cons (pe_lc (own := [("_law_a", 10), ("_law_b", 11), ("_law_c", 12)]) (g := (gTup K 3 (gCons (gName 10) (gCons (gName 11) (gCons (gName 12) gNil))))) (by rfl) nd (pi_list (pv 3)) (blkOk_by (own := [("_law_a", 10), ("_law_b", 11), ("_law_c", 12)]) (N := N__law_long) (sc := defScope s__law_long) (by decide +kernel))
          (fun _ _ _ _ _ => pg_tup rfl (pgs_cons (pg_name (i := 10) nd rfl (.inl rfl)) (pgs_cons (pg_name (i := 11) nd rfl (.inl rfl)) (pgs_cons (pg_name (i := 12) nd rfl (.inl rfl)) pgs_nil)))) (fun _ _ _ _ _ => pts_nil) (fun _ _ _ _ _ => pe_op op_sub (pe_op op_modN (pe_callTy call_int1 (by rfl) D.z_int (by decide +kernel) (pa_cons (pe_op op_add (pe_op op_add (pe_op op_mulX (pv 7) (pv 10)) (pv 12)) (pe_op op_fdivB (pv 7) (pe_op op_mulX (pv 11) pe_int))) pa_nil)) pe_int) pe_int)) pa_nil)))
          (pss_one (ps_dput hu (pv 6) (pv 8) (pe_op op_mulX (pe_op op_add (pv 5) (pv 7)) (pe_op op_sub pe_int (pe_op op_mulX pe_int (pe_callTy call_int1 (by rfl) D.z_int (by decide +kernel) (pa_cons (pe_cmpR op_eq (pe_op op_modN (pv 7) pe_int) (pv 4) (nomark _)) pa_nil))))) rfl))))
      (pss_one (ps_ret (pv 6)))))), ?_⟩
    refine ⟨.int (m : Nat), rfl, m, rfl, by omega, by omega, fun l nl => ?_⟩
    have al : l ≠ a ∧ l ≠ c := S.fresh nl
    refine lc_range (lo := 0) (n := m) (fun j H' => ∃ rs : List Addr, rs.length = j ∧ (∀ r ∈ rs, Stp H' r) ∧ H' l = some (.lst (rs.map V.ref)) ∧ Stock H' a c (n + 3 * j) ∧ Keep a c H H')
      ⟨[], rfl, (fun x h => by cases h), upd_same, S.new nl, Keep.new nl⟩ (fun j H2 hj h => ?_) (fun H2 h => ?_)
    · obtain ⟨rs, hrl, hrs, hl, S2, k2⟩ := h
      refine ⟨rfl, .ref a, rfl, a, c, _, 24, rfl, S2, by omega, by decide, by decide, fun H3 r3 S3 k3 p30 p31 => ?_⟩
      refine ⟨_, _, rfl, rfl, .ref a, rfl, a, c, _, 9, rfl, S3, by omega, by decide, by decide, fun H4 r4 S4 k4 p40 p41 => ?_⟩
      refine ⟨_, _, rfl, rfl, .ref a, rfl, a, c, _, 25, rfl, S4, by omega, by decide, by decide, fun H5 r5 S5 k5 p50 p51 => ?_⟩
      refine ⟨by rw [sizeLine_eq]; show 3 ≤ _; decide, fun p np => ?_⟩
      have kt : KeepT H2 H5 := S2.keepT ((k3.trans k4).trans k5)
      have kl := k5 l _ al.1 al.2 (k4 l _ al.1 al.2 (k3 l _ al.1 al.2 hl))
      have lp : l ≠ p := ne_of_none kl np
      refine ⟨_, by rw [upd_ne lp]; exact kl, by rw [List.length_map, sizeLine_eq]; omega, rs ++ [p], by rw [List.length_append, hrl]; rfl, fun r hr' => ?_, by rw [upd_same, List.map_append]; rfl, ?_, ?_⟩
      · rcases List.mem_append.mp hr' with hr' | hr'
        · have h1 := ((hrs r hr').keep kt).keep (KeepT.new (o := .tup [V.int (1 + r3), .int (1 + r4), .int r5]) np)
          refine h1.keep fun b ys eb => ?_
          rw [upd_ne (fun z => ?_)]
          · exact eb
          · rw [z, upd_ne lp, kl] at eb
            cases eb
        · cases List.mem_singleton.mp hr'
          refine ⟨1 + r3, 1 + r4, r5, ?_, by omega, by omega, by omega, by omega, by omega, by omega⟩
          rw [upd_ne lp.symm]
          exact upd_same
      · exact ((S5.new np).put al).more (by omega)
      · exact ((((k2.trans k3).trans k4).trans k5).trans (Keep.new np)).put nl
    · obtain ⟨rs, hrl, hrs, hl, S2, k2⟩ := h
      dsimp only [tSeq, tAsg, gName]
      refine ⟨.ref a, rfl, a, c, _, 5, rfl, S2, by omega, by decide, by decide, fun H2b r2 S2b k2b p20 p21 => ?_⟩
      refine ⟨.ref a, rfl, _, _, rfl, rfl, ⟨by decide, by decide, by decide +kernel⟩, a, c, _, 10 ^ 28, rfl, S2b, by omega, by decide, fun H3 r3 S3 k3b p30 p31 => ?_⟩
      have k3 := k2b.trans k3b
      refine ⟨_, _, rfl, rfl, _, _, rfl, ?_⟩
      dsimp only [tSeq, tAsg, gName]
      refine fun e ne => ?_
      have ae : e ≠ a ∧ e ≠ c := S3.fresh ne
      have hl3 := k3 l _ al.1 al.2 hl
      have hrs3 : ∀ r ∈ rs, Stp H3 r := fun r h => (hrs r h).keep (S2.keepT k3)
      have k03 := k2.trans k3
      have ne0 : H e = none := k03.free ae ne
      have le : l ≠ e := ne_of_none hl3 ne
      have he4 : upd H3 e (.dT []) e = some (.dT []) := upd_same
      have hl4 : upd H3 e (.dT []) l = some (.lst (rs.map V.ref)) := by rw [upd_ne le]; exact hl3
      have hrs4 : ∀ r ∈ rs, Stp (upd H3 e (.dT [])) r := fun r h => (hrs3 r h).keep (KeepT.new ne)
      have k4 : Keep a c H (upd H3 e (.dT [])) := k03.put ne0
      have S4 : Stock (upd H3 e (.dT [])) a c (n + 3 * m + 5) := S3.put ae
      generalize upd H3 e (.dT []) = H4 at he4 hl4 hrs4 k4 S4
      refine ⟨.int (cn : Nat), rfl, cn, rfl, by omega, by omega, for_range (n := cn) (fun j σ H' => ∃ (y5 y6 : Option V) (R : Ts), σ = [some (.ref a), some (.int (m : Nat)), some (.int (cn : Nat)), some (.ref l), some (.int r2), some (.int (1 + r3)), some (.ref e), y5, y6, none, none, none, none] ∧ H' e = some (dZ R) ∧ Oth m j R ∧ (0 < j → R ≠ []) ∧ (∀ q ∈ R, q.2 ≠ 0 ∧ q.2.natAbs < 2 ^ 95) ∧ H' l = some (.lst (rs.map V.ref)) ∧ (∀ r ∈ rs, Stp H' r) ∧ Stock H' a c (n + 3 * m + 5) ∧ Keep a c H H')
        ⟨none, none, [], rfl, he4, Oth.nil m, (fun h => absurd h (Nat.lt_irrefl 0)), (fun q h => by cases h), hl4, hrs4, S4, k4⟩ (fun j σ H' hj h => ?_) (fun σ H' h => ?_)⟩
      · obtain ⟨y5, y6, R, rfl, hR, oR, eR, zR, hl', hrs', S', k'⟩ := h
        refine ⟨.ref l, rfl, l, rfl, ⟨_, sqlOf hl'⟩, fun D nD => ?_⟩
        refine lc_list (xs := rs.map V.ref) (fun i H6 => ∃ ns : List Int, ns.length = i ∧ (∀ x ∈ ns, -12 ≤ x ∧ x ≤ 12) ∧ H6 D = some (.lst (ns.map V.int)) ∧ But D H' H6) ⟨[], rfl, (fun x h => by cases h), upd_same, But.start⟩ (fun i H6 _ h => ?_) (fun i x H6 hx h => ?_) (fun H6 h => ?_)
        · obtain ⟨_, _, _, _, kp⟩ := h
          exact sqlOf (kp _ _ (ne_of_none hl' nD) hl')
        · obtain ⟨ns, rfl, h12, hD, kp⟩ := h
          rw [List.getElem?_map] at hx
          obtain ⟨r, hr', rfl⟩ := Option.map_eq_some_iff.mp hx
          obtain ⟨a1, b1, c1, e1, a11, a12, b11, b12, c11, c12⟩ := hrs' r (List.mem_of_getElem? hr')
          have e6 := kp _ _ (ne_of_none e1 nD) e1
          have m25 := fmod25 (((0 : Int) + (j : Nat)) * a1 + c1 + ((0 : Int) + (j : Nat)).fdiv (b1 * 7))
          have hns : ns.length < rs.length := (List.getElem?_eq_some_iff.mp hr').1
          refine ⟨r, _, rfl, sqtOf e6, rfl, _, _, rfl, _, _, rfl, _, _, rfl, rfl, ?_⟩
          refine ⟨rfl, .int ((0 : Int) + (j : Nat)), rfl, .int a1, rfl, _, _, rfl, rfl, mulS (by omega) (by omega), .int c1, rfl, _, _, rfl, rfl, .int ((0 : Int) + (j : Nat)), rfl, .int b1, rfl, _, _, rfl, rfl, mulS (by omega) (by omega), _, _, rfl, rfl, ⟨by omega, Nat.lt_of_le_of_lt (Nat.log2_le_self _) (by omega)⟩, _, _, rfl, rfl, .inl ⟨_, rfl, _, _, rfl, rfl, (by decide : (25 : Int) ≠ 0), _, _, rfl, rfl, _, hD, by rw [List.length_map, sizeLine_eq]; omega, ns ++ [_], by rw [List.length_append]; rfl, fun x hx' => ?_, by rw [upd_same, List.map_append]; rfl, kp.step (Same.refl _)⟩⟩
          rcases List.mem_append.mp hx' with hx' | hx'
          · exact h12 x hx'
          · cases List.mem_singleton.mp hx'
            omega
        · obtain ⟨ns, hns, h12, hD, kp⟩ := h
          rw [List.length_map] at hns
          refine ⟨D, _, rfl, .inl ⟨sqlOf hD, fun t nt => ?_⟩⟩
          have kH : Same H' (upd H6 t (.tup (ns.map V.int))) := fun b o eb => same_new (o := .tup (ns.map V.int)) nt _ _ (kp b o (ne_of_none eb nD) eb)
          have nt' : H' t = none := by
            cases hH : H' t with
            | none => rfl
            | some o =>
              rw [kp t o (ne_of_none hH nD) hH] at nt
              cases nt
          have ht : upd H6 t (.tup (ns.map V.int)) t = some (.tup (ns.map V.int)) := upd_same
          generalize upd H6 t (.tup (ns.map V.int)) = H7 at kH ht
          have hR7 := kH _ _ hR
          refine ⟨.int (1 + r3), rfl, .int ((0 : Int) + (j : Nat)), rfl, _, _, rfl, rfl, .int ((0 : Int) + (j : Nat)), rfl, _, _, rfl, rfl, (by decide : (5 : Int) ≠ 0), .int r2, rfl, rfl, .inr ⟨_, rfl, ?_⟩⟩
          dsimp only
          have hb : ∀ t : Bool, (if t = true then (1 : Int) else 0) = 0 ∨ (if t = true then (1 : Int) else 0) = 1 := fun t => by cases t <;> simp
          generalize hw : (if decide (V.int (((0 : Int) + (j : Nat)).fmod 5) = V.int r2) = true then (1 : Int) else 0) = b
          have b01 : b = 0 ∨ b = 1 := by rw [← hw]; exact hb _
          have h1 : (1 + r3 + ((0 : Int) + (j : Nat))).natAbs ≤ 2 ^ 100 := by
            have : (10 : Int) ^ 28 + 400 ≤ 2 ^ 100 := by decide
            omega
          have cf : ((1 + r3 + ((0 : Int) + (j : Nat))) * (1 - 2 * b)).natAbs < 2 ^ 110 := by
            rw [Int.natAbs_mul]
            exact Nat.lt_of_le_of_lt (Nat.mul_le_mul h1 (show (1 - 2 * b).natAbs ≤ 1 by omega)) (by decide +kernel)
          have cf95 : ((1 + r3 + ((0 : Int) + (j : Nat))) * (1 - 2 * b)).natAbs < 2 ^ 95 := by
            have h2 : (1 + r3 + ((0 : Int) + (j : Nat))).natAbs ≤ 2 ^ 94 := by
              have : (10 : Int) ^ 28 + 400 ≤ 2 ^ 94 := by decide
              omega
            rw [Int.natAbs_mul]
            exact Nat.lt_of_le_of_lt (Nat.mul_le_mul h2 (show (1 - 2 * b).natAbs ≤ 1 by omega)) (by decide +kernel)
          have cn0 : (1 + r3 + ((0 : Int) + (j : Nat))) * (1 - 2 * b) ≠ 0 := fun z => by
            rcases Int.mul_eq_zero.mp z with h | h <;> omega
          have on : Oth m (j + 1) (setD R ns ((1 + r3 + ((0 : Int) + (j : Nat))) * (1 - 2 * b))) := oR.put (by omega) cf fun x hx => by have := h12 x hx; omega
          have hRj := oR.few
          refine ⟨_, _, rfl, rfl, mulS (by decide) (by omega), _, _, rfl, rfl, _, _, rfl, rfl, mulx (show _ < 2 ^ 110 from ?_) (show _ < 2 ^ 10 from ?_) (by decide), .ref e, rfl, .ref t, rfl, e, _, rfl, DPut.t (k := ns.map Sum.inl) hR7 (by rw [map_kV]; exact ht) ?_, ?_⟩
          · have h2 : (2 : Nat) ^ 100 < 2 ^ 110 := by decide
            omega
          · omega
          · rw [List.length_map, sizeLine_eq]
            omega
          · refine ⟨_, _, setD R ns ((1 + r3 + ((0 : Int) + (j : Nat))) * (1 - 2 * b)), rfl, by rw [upd_same]; exact congrArg some (congrArg HO.dT (NH.putK_enc _ _ _)), on, fun _ z => ?_, fun q hq => ?_, by rw [upd_ne le]; exact kH _ _ hl', fun r hr' => ?_, (S'.same kH).put ae, ?_⟩
            · have h3 : getO (setD R ns ((1 + r3 + ((0 : Int) + (j : Nat))) * (1 - 2 * b))) ns = some ((1 + r3 + ((0 : Int) + (j : Nat))) * (1 - 2 * b)) := by rw [getO_set, if_pos rfl]
              rw [z] at h3
              cases h3
            · rcases setD_mem hq with ⟨hq, _⟩ | rfl
              · exact zR q hq
              · exact ⟨cn0, cf95⟩
            · refine ((hrs' r hr').keep fun b ys eb => kH _ _ eb).keep fun b ys eb => ?_
              have eb : H7 b = _ := eb
              rw [upd_ne (fun z => by rw [z, hR7] at eb; cases eb)]
              exact eb
            · exact Keep.put (fun b o h1 h2 eb => kH _ _ (k' b o h1 h2 eb)) ne0
      · obtain ⟨y5, y6, R, rfl, hR, oR, eR, zR, hl', hrs', S', k'⟩ := h
        exact ⟨.ref e, rfl, q _ e R (S'.more (by omega)) k' ne0 (oR.dict hR) (oR.more hcn) (eR (by omega)) zR⟩
end
end NH
set_option Elab.async false
set_option linter.all false
set_option maxRecDepth 100000
set_option maxHeartbeats 1000000
set_option exponentiation.threshold 100000
namespace NH
open PySem PySem.Spec PyProof.Rows L2 R1 ZN PK RS DCT
/-! ### products of sums but 0 are not 0 -/
theorem lex_trans : ∀ {x y z : List Int}, x.length = y.length → y.length = z.length → HT.lexLt x y = true → HT.lexLt y z = true → HT.lexLt x z = true
  | [], [], _, _, _, h, _ => by cases h
  | a :: x, b :: y, c :: z, h1, h2, h3, h4 => by
    rw [HT.lexLt_cons] at h3 h4 ⊢
    by_cases e1 : a = b
    · subst e1
      rw [if_pos rfl] at h3
      by_cases e2 : a = c
      · subst e2
        rw [if_pos rfl] at h4 ⊢
        exact lex_trans (Nat.succ.inj h1) (Nat.succ.inj h2) h3 h4
      · rw [if_neg e2] at h4 ⊢
        exact h4
    · rw [if_neg e1] at h3
      have h3 := of_decide_eq_true h3
      by_cases e2 : b = c
      · subst e2
        rw [if_neg e1]
        exact decide_eq_true h3
      · rw [if_neg e2] at h4
        have h4 := of_decide_eq_true h4
        rw [if_neg (by omega)]
        exact decide_eq_true (by omega)
  | [], _ :: _, _, h, _, _, _ => by cases h
  | _ :: _, [], _, h, _, _, _ => by cases h
  | _ :: _, _ :: _, [], _, h, _, _ => by cases h
theorem lex_addP : ∀ {x y z : List Int}, x.length = z.length → y.length = z.length → HT.lexLt (addP x z) (addP y z) = HT.lexLt x y
  | [], [], [], _, _ => rfl
  | a :: x, b :: y, c :: z, h1, h2 => by
    show HT.lexLt ((a + c) :: addP x z) ((b + c) :: addP y z) = _
    rw [HT.lexLt_cons, HT.lexLt_cons, lex_addP (Nat.succ.inj h1) (Nat.succ.inj h2)]
    by_cases e : a = b
    · rw [if_pos e, if_pos (by omega)]
    · rw [if_neg e, if_neg (by omega)]
      exact decide_eq_decide.mpr (by omega)
  | [], _ :: _, [], _, h => by cases h
  | _ :: _, _, [], h, _ => by cases h
  | [], _, _ :: _, h, _ => by cases h
  | _ :: _, [], _ :: _, _, h => by cases h
theorem top_ex {m : Nat} : ∀ {D : Ts}, D ≠ [] → (∀ q ∈ D, q.1.length = m) → ∃ a ∈ D, ∀ q ∈ D, q.1 = a.1 ∨ HT.lexLt q.1 a.1 = true
  | [], h, _ => absurd rfl h
  | [p], _, _ => ⟨p, List.mem_singleton.mpr rfl, fun q hq => .inl (by rw [List.mem_singleton.mp hq])⟩
  | p :: r :: D, _, hl => by
    obtain ⟨a, ha, h⟩ := top_ex (D := r :: D) (by simp) fun q hq => hl q (List.mem_cons_of_mem _ hq)
    have la := hl a (List.mem_cons_of_mem _ ha)
    have lp := hl p List.mem_cons_self
    cases e : HT.lexLt p.1 a.1 with
    | true =>
      refine ⟨a, List.mem_cons_of_mem _ ha, fun q hq => ?_⟩
      rcases List.mem_cons.mp hq with rfl | hq
      · exact .inr e
      · exact h q hq
    | false =>
      by_cases e2 : p.1 = a.1
      · refine ⟨a, List.mem_cons_of_mem _ ha, fun q hq => ?_⟩
        rcases List.mem_cons.mp hq with rfl | hq
        · exact .inl e2
        · exact h q hq
      · have e3 : HT.lexLt a.1 p.1 = true := by
          cases e4 : HT.lexLt a.1 p.1 with
          | true => rfl
          | false => exact absurd (lex_total (by omega) e e4) e2
        refine ⟨p, List.mem_cons_self, fun q hq => ?_⟩
        rcases List.mem_cons.mp hq with rfl | hq
        · exact .inl rfl
        · rcases h q hq with h | h
          · rw [h]
            exact .inr e3
          · exact .inr (lex_trans (by rw [hl q (List.mem_cons_of_mem _ hq), la]) (by omega) h e3)
theorem mulF_only {F : List Int → Int} {b : List Int × Int} {j : List Int} : ∀ {B : Ts}, NodupK B → b ∈ B → (∀ q ∈ B, q.1 ≠ b.1 → F (subP j q.1) = 0) → mulF F B j = b.2 * F (subP j b.1)
  | p :: B, hn, hb, h => by
    obtain ⟨n1, n2⟩ := List.nodup_cons.mp hn
    have zero : ∀ {C : Ts}, (∀ q ∈ C, F (subP j q.1) = 0) → mulF F C j = 0 := fun {C} => by
      induction C with
      | nil => intro _; rfl
      | cons q C ih =>
        intro hC
        rw [mulF, hC q List.mem_cons_self, Int.mul_zero, ih fun r hr => hC r (List.mem_cons_of_mem _ hr)]
        rfl
    rcases List.mem_cons.mp hb with rfl | hb'
    · rw [mulF, zero fun q hq => h q (List.mem_cons_of_mem _ hq) fun e => n1 (by show b.1 ∈ _; rw [← e]; exact List.mem_map_of_mem (f := fun q : List Int × Int => q.1) hq), Int.add_zero]
    · have hne : p.1 ≠ b.1 := fun e => n1 (by show p.1 ∈ _; rw [e]; exact List.mem_map_of_mem (f := fun q : List Int × Int => q.1) hb')
      rw [mulF, h p List.mem_cons_self hne, Int.mul_zero, Int.zero_add]
      exact mulF_only n2 hb' fun q hq => h q (List.mem_cons_of_mem _ hq)
theorem mulT_ne {m : Nat} {A B : Ts} (nA : NodupK A) (nB : NodupK B) (lA : ∀ q ∈ A, q.1.length = m) (lB : ∀ q ∈ B, q.1.length = m) (zA : ∀ q ∈ A, q.2 ≠ 0) (zB : ∀ q ∈ B, q.2 ≠ 0) (eA : A ≠ []) (eB : B ≠ []) : ∃ j : List Int, val (mulT A B) j ≠ 0 := by
  obtain ⟨a, ha, ta⟩ := top_ex eA lA
  obtain ⟨b, hb, tb⟩ := top_ex eB lB
  have la := lA a ha
  have lb := lB b hb
  have lj : (addP a.1 b.1).length = m := addP_len la lb
  refine ⟨addP a.1 b.1, ?_⟩
  rw [mulT_val nA lA lB lj, mulF_only nB hb fun q hq hne => ?_]
  · have : subP (addP a.1 b.1) b.1 = a.1 := (addP_iff (p := a.1) (q := b.1) (by omega) (by omega)).mp rfl
    rw [this, val_mem2 nA ha]
    exact Int.mul_ne_zero (zB b hb) (zA a ha)
  · have lq := lB q hq
    have lt : HT.lexLt q.1 b.1 = true := (tb q hq).resolve_left hne
    have hk : addP a.1 b.1 = addP (subP (addP a.1 b.1) q.1) q.1 := (addP_iff (by rw [subP_len lj lq, lq]) (by omega)).mpr rfl
    generalize hK : subP (addP a.1 b.1) q.1 = k at hk
    have lk : k.length = m := by rw [← hK]; exact subP_len lj lq
    have h1 : HT.lexLt (addP q.1 a.1) (addP b.1 a.1) = true := by rw [lex_addP (by omega) (by omega)]; exact lt
    rw [addP_comm q.1, addP_comm b.1, hk, lex_addP (by omega) (by omega)] at h1
    by_cases e : val A k = 0
    · exact e
    · exfalso
      have hm := ((val_mem nA (k, val A k)).mpr ⟨rfl, e⟩).1
      rcases ta _ hm with h | h
      · have h : k = a.1 := h
        rw [h, lex_irrefl] at h1
        cases h1
      · have h : HT.lexLt k a.1 = true := h
        have := lex_asym _ _ h1
        rw [h] at this
        cases this
/-! ### the worth of a sum at numbers 1 and -1 -/
/-- the sign of the first letters -/
def sgP (xs : List Int) (p : List Int) : Nat → Int
  | 0 => 1
  | j + 1 => sgP xs p j * (if (p.getD j 0).fmod 2 = 1 then xs.getD j 0 else 1)
def totS (xs : List Int) (m : Nat) : Ts → Int
  | [] => 0
  | q :: T => q.2 * sgP xs q.1 m + totS xs m T
theorem totS_snoc (xs : List Int) (m : Nat) (q : List Int × Int) : ∀ T : Ts, totS xs m (T ++ [q]) = totS xs m T + q.2 * sgP xs q.1 m
  | [] => by simp [totS]
  | p :: T => by
    rw [List.cons_append, totS, totS, totS_snoc xs m q T]
    omega
theorem one_pow {x : Int} (hx : x = 1 ∨ x = -1) (n : Nat) : x ^ n = if (n : Int).fmod 2 = 1 then x else 1 := by
  induction n with
  | zero => simp
  | succ n ih =>
    rw [Int.pow_succ, ih]
    have e1 : ((n : Nat) : Int).fmod 2 = ((n % 2 : Nat) : Int) := by
      rw [Int.fmod_eq_emod_of_nonneg _ (by decide)]
      omega
    have e2 : ((n + 1 : Nat) : Int).fmod 2 = (((n + 1) % 2 : Nat) : Int) := by
      rw [Int.fmod_eq_emod_of_nonneg _ (by decide)]
      omega
    rw [e1, e2]
    have : n % 2 = 0 ∨ n % 2 = 1 := by omega
    rcases this with h | h
    · have h2 : (n + 1) % 2 = 1 := by omega
      rw [h, h2]
      simp
    · have h2 : (n + 1) % 2 = 0 := by omega
      rw [h, h2]
      rcases hx with rfl | rfl <;> simp
theorem pow_split {x a b : Int} (hx : x = 1 ∨ x = -1) (h0 : 0 ≤ b) (h1 : 0 ≤ a + b) : x ^ (a + b).toNat = (if a.fmod 2 = 1 then x else 1) * x ^ b.toNat := by
  rw [one_pow hx, one_pow hx]
  have e1 : (((a + b).toNat : Nat) : Int) = a + b := by omega
  have e2 : ((b.toNat : Nat) : Int) = b := by omega
  rw [e1, e2, Int.fmod_eq_emod_of_nonneg _ (by decide), Int.fmod_eq_emod_of_nonneg _ (by decide), Int.fmod_eq_emod_of_nonneg _ (by decide)]
  have ha : a % 2 = 0 ∨ a % 2 = 1 := by omega
  have hb : b % 2 = 0 ∨ b % 2 = 1 := by omega
  rcases ha with ha | ha <;> rcases hb with hb | hb
  · rw [ha, hb, show (a + b) % 2 = 0 by omega]; simp
  · rw [ha, hb, show (a + b) % 2 = 1 by omega]; simp
  · rw [ha, hb, show (a + b) % 2 = 1 by omega]; simp
  · rw [ha, hb, show (a + b) % 2 = 0 by omega]
    rcases hx with rfl | rfl <;> simp
theorem mono_sg {xs : List Int} : ∀ {m : Nat} {p r mm : List Int}, (∀ j, j < m → (xs.getD j 0 = 1 ∨ xs.getD j 0 = -1) ∧ 0 ≤ mm.getD j 0 ∧ 0 ≤ p.getD j 0 + mm.getD j 0 ∧ r.getD j 0 = p.getD j 0 + mm.getD j 0) → GM.mono xs m r = sgP xs p m * GM.mono xs m mm
  | 0, _, _, _, _ => rfl
  | m + 1, p, r, mm, h => by
    have ih := mono_sg (xs := xs) (m := m) (p := p) (r := r) (mm := mm) fun j hj => h j (by omega)
    obtain ⟨h1, h2, h3, h4⟩ := h m (Nat.lt_succ_self m)
    rw [GM.mono, GM.mono, sgP, ih, h4, pow_split h1 h2 h3]
    grind
theorem tval_tot {xs : List Int} {m : Nat} {mm : List Int} {F : List Int × Int → List Int × Int} : ∀ {T : Ts}, (∀ q ∈ T, (F q).2 = q.2 ∧ GM.mono xs m (F q).1 = sgP xs q.1 m * GM.mono xs m mm) → GM.tval xs m (T.map F) = totS xs m T * GM.mono xs m mm
  | [], _ => by simp [GM.tval, totS]
  | q :: T, h => by
    obtain ⟨h1, h2⟩ := h q List.mem_cons_self
    rw [List.map_cons, GM.tval, totS, tval_tot fun r hr => h r (List.mem_cons_of_mem _ hr), h1, h2, Int.add_mul, Int.mul_assoc]
theorem low_one (T : Int) : GM.IsLow T 1 T 1 := ⟨by decide, by simp, by rw [Int.mul_one]⟩
/-- what value tells at numbers 1 and -1 -/
theorem value_one {T : Ts} {m : Nat} {xs ms : List Int} {a b : Int} (hl : ∀ q ∈ T, q.1.length = m) (hxl : xs.length = m) (hx : ∀ y ∈ xs, y = 1 ∨ y = -1) (hI : IsLeast T m ms)
    (h : GM.IsLow (GM.tval xs m (T.map (more (ms.map miss)))) (GM.mono xs m (ms.map miss)) a b) : a = totS xs m T ∧ b = 1 := by
  have hxj : ∀ j, j < m → xs.getD j 0 = 1 ∨ xs.getD j 0 = -1 := fun j hj => by
    rw [List.getD_eq_getElem?_getD, List.getElem?_eq_getElem (by omega)]
    exact hx _ (List.getElem_mem _)
  have ml : (ms.map miss).length = m := by rw [List.length_map]; exact hI.1
  have key : GM.tval xs m (T.map (more (ms.map miss))) = totS xs m T * GM.mono xs m (ms.map miss) := tval_tot fun q hq => ⟨rfl, mono_sg fun j hj => by
    have e1 : (more (ms.map miss) q).1.getD j 0 = q.1.getD j 0 + (ms.map miss).getD j 0 := more_at (hl q hq) ml hj
    have e2 : (ms.map miss).getD j 0 = miss (ms.getD j 0) := getD_map_miss ms (by rw [hI.1]; exact hj)
    have e3 := (least_at hI hj).2 q hq
    have e4 := miss_is (ms.getD j 0)
    refine ⟨hxj j hj, by rw [e2]; exact e4.1, by rw [e2]; omega, e1⟩⟩
  have hne : GM.mono xs m (ms.map miss) ≠ 0 := GM.mono_ne fun j hj => by
    rcases hxj j hj with h | h <;> rw [h] <;> decide
  have := GM.IsLow.uniq h (low_one (totS xs m T)) hne (by decide) (by rw [key, Int.mul_one])
  exact this
end NH
set_option Elab.async false
set_option linter.all false
set_option maxRecDepth 100000
set_option maxHeartbeats 1000000
set_option exponentiation.threshold 100000
namespace NH
open PySem PySem.Spec PyProof.Rows L2 R1 ZN PK RS DCT LamX NdefX
theorem prog_of {K : PySem.W.Frag} {mg : Str → Option Value} {f : Nat → Addr} {d : Nat → FuncData} (D : Defs K mg f d) : Prog K mg (f i_is_sum) (f i_check_sum) (f i_letters_of) (f i_lines_of) (f i_least_of) (d i_is_sum) (d i_check_sum) (d i_letters_of) (d i_lines_of) (d i_least_of) :=
  { Is := D.F_is_sum, Ch := D.F_check_sum, Lo := D.F_letters_of, Li := D.F_lines_of, Le := D.F_least_of, bIs := D.b_is_sum, bCh := D.b_check_sum, bLo := D.b_letters_of, bLi := D.b_lines_of, bLe := D.b_least_of, gIs := D.g_is_sum, gCh := D.g_check_sum, gLo := D.g_letters_of, gLi := D.g_lines_of, gLe := D.g_least_of, enumerate := D.z_enumerate, len := D.z_len, list := D.z_list, zip := D.z_zip, min := D.z_min, tuple := D.z_tuple }
theorem codeO_ext {c : Addr} {q : Str} : ∃ p, CodeO c q = .ext p := ⟨_, rfl⟩
theorem tabs_gen {T : List (Addr × Str)} {H H' : Hp} (h : Tabs T H) (k : ∀ b o, H b = some o → (∀ xs, o ≠ .lst xs) → (∀ kvs, o ≠ .dT kvs) → H' b = some o) : Tabs T H' := fun p hp => by
  obtain ⟨ps, h1, h2, h3⟩ := h p hp
  refine ⟨ps, k _ _ h1 (fun _ z => by cases z) (fun _ z => by cases z), h2, fun pos cv hc => ?_⟩
  obtain ⟨c, e1, e2⟩ := h3 pos cv hc
  refine ⟨c, e1, k _ _ e2 (fun _ z => ?_) (fun _ z => ?_)⟩
  · obtain ⟨p, e⟩ := codeO_ext (c := c) (q := p.2)
    rw [e] at z
    cases z
  · obtain ⟨p, e⟩ := codeO_ext (c := c) (q := p.2)
    rw [e] at z
    cases z
theorem not_lst {H : Hp} {a b : Addr} {o : HO} {xs : List V} (e : H b = some o) (ha : H a = some (.lst xs)) (n : ∀ xs, o ≠ .lst xs) : b ≠ a := fun z => by
  rw [z, ha] at e
  cases e
  exact n _ rfl
theorem not_dT {H : Hp} {a b : Addr} {o : HO} {kvs : List (List Key × V)} (e : H b = some o) (ha : H a = some (.dT kvs)) (n : ∀ xs, o ≠ .dT xs) : b ≠ a := fun z => by
  rw [z, ha] at e
  cases e
  exact n _ rfl
theorem tabs_keep {T : List (Addr × Str)} {H H' : Hp} {a c : Addr} {n : Nat} (h : Tabs T H) (S : Stock H a c n) (k : Keep a c H H') : Tabs T H' := by
  obtain ⟨_, _, _, _, ha, hc, _⟩ := S.ex
  exact tabs_gen h fun b o e n1 _ => k b o (not_lst e ha n1) (not_lst e hc n1) e
theorem Stock.ext {H H' : Hp} {a c : Addr} {n : Nat} (h : Stock H a c n) (s : ExtN H H') : Stock H' a c n := by
  obtain ⟨hne, cs, x, y, z, h1, h2, h3⟩ := h
  exact ⟨hne, cs, x, y, z, s _ _ h1 (fun _ z => by cases z), s _ _ h2 (fun _ z => by cases z), h3⟩
theorem DictAt.ext {H H' : Hp} {d : Addr} {m : Nat} {D : Ts} (h : DictAt H d m D) (s : ExtN H H') : DictAt H' d m D := ⟨s _ _ h.at_ (fun _ z => by cases z), h.nodup, h.len⟩
theorem setD_new {D : Ts} {k : List Int} {v : Int} (h : k ∉ D.map fun q => q.1) : setD D k v = D ++ [(k, v)] := by
  unfold setD
  rw [if_neg]
  intro e
  obtain ⟨q, hq, hk⟩ := List.any_eq_true.mp e
  exact h (by rw [← of_decide_eq_true hk]; exact List.mem_map_of_mem (f := fun q : List Int × Int => q.1) hq)
theorem sgP_abs {xs p : List Int} (hx : ∀ y ∈ xs, y = 1 ∨ y = -1) : ∀ {j : Nat}, j ≤ xs.length → (sgP xs p j).natAbs = 1
  | 0, _ => rfl
  | j + 1, h => by
    rw [sgP, Int.natAbs_mul, sgP_abs hx (j := j) (by omega), Nat.one_mul]
    split
    · rw [List.getD_eq_getElem?_getD, List.getElem?_eq_getElem (by omega)]
      rcases hx _ (List.getElem_mem (l := xs) (n := j) (by omega)) with h | h
      · show (xs[j]).natAbs = 1
        rw [h]
        rfl
      · show (xs[j]).natAbs = 1
        rw [h]
        rfl
    · rfl
theorem fmod2 (i : Int) : i.fmod 2 = 0 ∨ i.fmod 2 = 1 := by
  rw [Int.fmod_eq_emod_of_nonneg _ (by decide)]
  omega
theorem norm_swap {C M T : Ts} (h : Norm C T) (nC : NodupK C) (nM : NodupK M) (hv : ∀ j, val C j = val M j) : Norm M T :=
  ⟨h.sorted, fun q => by rw [h.mem, val_mem nC, val_mem nM, hv]⟩
theorem unit_len (i : Int) (m : Nat) : (unit i m).length = m := by unfold unit; rw [List.length_map, List.length_range]
theorem unit_small {i : Int} {m : Nat} : ∀ x ∈ unit i m, x.natAbs ≤ 1 := fun x hx => by
  obtain ⟨j, _, rfl⟩ := List.mem_map.mp hx
  split <;> decide
theorem good_unit (m : Nat) : Good m [(unit 0 m, 1)] := ⟨fun q hq => by cases List.mem_singleton.mp hq; exact ⟨unit_len 0 m, Int.one_ne_zero⟩, List.pairwise_singleton _ _⟩
theorem norm_self {T : Ts} {m : Nat} (h : Good m T) : Norm T T := ⟨h.2, fun q => ⟨fun hq => ⟨hq, (h.1 q hq).2⟩, fun hq => hq.1⟩⟩
/-- a sum times the first letter -/
theorem up_val {W : Ts} {m : Nat} (n : NodupK W) (l : ∀ q ∈ W, q.1.length = m) {j : List Int} (hj : j.length = m) : val (mulT W [(unit 0 m, 1)]) j = val W (subP j (unit 0 m)) := by
  rw [mulT_val n l (fun q hq => (good_unit m).1 q hq |>.1) hj, mulF, mulF, Int.one_mul, Int.add_zero]
theorem up_small {W : Ts} {m : Nat} (n : NodupK W) (l : ∀ q ∈ W, q.1.length = m) (z : Sz W 198 24) : Sz (mulT W [(unit 0 m, 1)]) 198 25 := by
  have lU : ∀ q ∈ [(unit 0 m, (1 : Int))], q.1.length = m := fun q hq => ((good_unit m).1 q hq).1
  refine ⟨fun q hq => ?_, fun q hq x hx => ?_⟩
  · rw [← val_mem2 (mulT_nodup _ _) hq, up_val n l (mulT_len l lU q hq)]
    exact val_lt n z.c _
  · obtain ⟨a, ha, b, hb, e⟩ := mulT_keys hq
    rw [e] at hx
    cases List.mem_singleton.mp hb
    exact addP_mem (z.r a ha) unit_small hx
theorem up_ne {W : Ts} {m : Nat} (n : NodupK W) (l : ∀ q ∈ W, q.1.length = m) (h : ∃ j, val W j ≠ 0) : ∃ j, val (mulT W [(unit 0 m, 1)]) j ≠ 0 := by
  obtain ⟨j, hj⟩ := h
  have hl : j.length = m := by
    by_cases e : j.length = m
    · exact e
    · exact absurd (val_out l e) hj
  refine ⟨addP j (unit 0 m), ?_⟩
  have hu := unit_len 0 m
  rw [up_val n l (addP_len hl hu)]
  have : subP (addP j (unit 0 m)) (unit 0 m) = j := (addP_iff (by omega) (by rw [addP_len hl hu]; omega)).mp rfl
  rw [this]
  exact hj
section
variable {P : Program} {w : World} {K : PySem.W.Frag} {mg : Str → Option Value} {base : Heap} {f : Nat → Addr} {d : Nat → FuncData}
def spGoesOn (Pt : Addr) : Sp := fun vs H Q _ => ∃ (a c : Addr) (n : Nat) (dw : Addr) (m : Nat) (W : Ts), vs = [.ref a, .ref dw, .int (m : Nat)] ∧ Stock H a c n ∧ n ≤ 900000 ∧ DictAt H dw m W ∧ W.length ≤ 1000 ∧ 1 ≤ m ∧ m ≤ 5 ∧ Sz W 198 24 ∧ (∃ j, val W j ≠ 0) ∧ Tabs (T5 Pt) H ∧ ∀ H', Q (.bl true) H'
theorem ok_goesOn {k : Nat} {c Pt : Addr} (D : Defs K mg f d) (gG : mg "gcd" = some (.builtin "math.gcd")) (hMT : ∃ u, mg "MOST_TIMES" = some u ∧ RelV (.int 12) u) (hc : (d i_without_letters).code = .ref c) (TB : TabB base mg c Pt) : FnOk P w K mg base CX0 (k + 12) (f i__law_goes_on) (d i__law_goes_on) ["_law_stock_here", "_law_whole", "_law_many"] (spGoesOn Pt) := by
  have G__law_written : FnOk P w K mg base CX0 (k + 11) (f i__law_written) (d i__law_written) ["_law_terms_here"] spWritten := (ok_written (k := k) D.F__law_written D.z_tuple D.z_sorted).mono (by omega)
  have G__law_plus : FnOk P w K mg base CX0 (k + 11) (f i__law_plus) (d i__law_plus) ["_law_one", "_law_other"] spPlus := (ok_plus (k := k) D).mono (by omega)
  have G__law_times : FnOk P w K mg base CX0 (k + 11) (f i__law_times) (d i__law_times) ["_law_one", "_law_other"] spLTimes := (ok_ltimes (k := k) D).mono (by omega)
  have G__law_pick : FnOk P w K mg base CX0 (k + 11) (f i__law_pick) (d i__law_pick) ["_law_stock_here", "_law_limit"] spPick := (ok_pick (k := k) D.F__law_pick D.z_int).mono (by omega)
  have G_plus : FnOk P w K mg base CX0 (k + 11) (f i_plus) (d i_plus) ["one", "other"] spPlusP := (ok_plusP (k := k) D).mono (by omega)
  have G_times : FnOk P w K mg base CX0 (k + 11) (f i_times) (d i_times) ["one", "other"] spTimesP := (ok_timesP (k := k) D).mono (by omega)
  have G_power : FnOk P w K mg base CX0 (k + 11) (f i_power) (d i_power) ["one", "times"] spPowerP := (ok_powerP (k := k) D hMT).mono (by omega)
  have G_letter : FnOk P w K mg base CX0 (k + 11) (f i_letter) (d i_letter) ["at", "many"] spLetter := (ok_letter (k := k) D.F_letter D.F_letter_of D.b_letter_of D.g_letter_of D.z_tuple D.z_range).mono (by omega)
  have G_is_sum : FnOk P w K mg base CX0 (k + 11) (f i_is_sum) (d i_is_sum) ["told", "many"] (spIs K) := (ok_is (k := k) D.F_is_sum D.z_enumerate D.z_len).mono (by omega)
  have G_least_powers : FnOk P w K mg base CX0 (k + 11) (f i_least_powers) (d i_least_powers) ["one"] spLeastP := (ok_leastP (k := k) D.F_least_powers (prog_of D)).mono (by omega)
  have G_freed : FnOk P w K mg base CX0 (k + 11) (f i_freed) (d i_freed) ["one"] spFreed := (ok_freed (k := k) D.F_freed D.F_moved D.b_moved D.g_moved (prog_of D)).mono (by omega)
  have G_ones : FnOk P w K mg base CX0 (k + 11) (f i_ones) (d i_ones) ["one", "places"] (spOnes Pt) := (ok_ones (k := k) D.F_ones D.F_without_letters D.b_without_letters D.g_without_letters D.F_sum_of_terms D.b_sum_of_terms D.g_sum_of_terms D.z_sorted (prog_of D) hc D.F_with_powers D.b_with_powers D.g_with_powers TB).mono (by omega)
  have G_value : FnOk P w K mg base CX0 (k + 11) (f i_value) (d i_value) ["one", "numbers"] spVo := ok_value D gG
  have G__law_same : FnOk P w K mg base CX0 (k + 11) (f i__law_same) (d i__law_same) ["_law_told", "_law_due"] (spSame 6) := (ok_same (k := k) D.F__law_same D.b__law_same D.g__law_same D.z_isinstance D.z_bool D.z_int D.z_str D.z_list D.z_tuple D.z_len D.z_zip 6).mono (by omega)
  refine D.F__law_goes_on.ok sc__law_goes_on (fun vs H Q E h => ?_) (fun cdv A outer s H vs Q E hr h => ?_)
  · obtain ⟨a, c, n, dw, m, W, rfl, _⟩ := h
    rfl
  · obtain ⟨a, ca, n, dw, m, W, rfl, S, hn, hW, hWl, hm1, hm5, zW, hW0, hT, q⟩ := h
    have nd := sc__law_goes_on.nd
    have hu := hu_of hr
    refine ⟨_, pss_cons (ps_asg (pe_tup (pa_cons (pe_call G_times hr (by rfl) D.g_times D.F_times.kp D.b_times .nil pass0 (pa_cons (pe_call G__law_written hr (by rfl) D.g__law_written D.F__law_written.kp D.b__law_written .nil pass0 (pa_cons (pv 1) pa_nil)) (pa_cons (pe_call G_letter hr (by rfl) D.g_letter D.F_letter.kp D.b_letter .nil pass0 (pa_cons pe_int (pa_cons (pv 2) pa_nil))) pa_nil))) (pa_cons (pe_call G__law_pick hr (by rfl) D.g__law_pick D.F__law_pick.kp D.b__law_pick .nil pass0 (pa_cons (pv 0) (pa_cons (pv 2) pa_nil))) pa_nil))) (pg_tup rfl (pgs_cons (pg_name (i := 3) nd rfl (.inl rfl)) (pgs_cons (pg_name (i := 4) nd rfl (.inr rfl)) pgs_nil))))
      (pss_cons (ps_set (i := 6) nd rfl (.inl rfl) (pe_call G__law_times hr (by rfl) D.g__law_times D.F__law_times.kp D.b__law_times .nil pass0 (pa_cons (pv 1) (pa_cons (pe_disp1T hu (pe_callTy call_tuple_of (by rfl) D.z_tuple (by decide +kernel) (pa_cons (pe_lc (own := [("_law_j", 5)]) (g := gName 5) (by rfl) nd (pi_range1 (by rfl) D.z_range (pa_cons (pv 2) pa_nil)) (blkOk_by (own := [("_law_j", 5)]) (N := N__law_goes_on) (sc := defScope s__law_goes_on) (by decide +kernel)) (fun _ _ _ _ _ => pg_name (i := 5) nd rfl (.inl rfl)) (fun _ _ _ _ _ => pts_nil) (fun _ _ _ _ _ => pe_callTy call_int1 (by rfl) D.z_int (by decide +kernel) (pa_cons (pe_cmpR op_eq (pv 5) pe_int (nomark _)) pa_nil))) pa_nil)) pe_int) pa_nil))))
      (pss_cons (ps_if (PW.pt (pw_or (pt_not (pt_val (pe_call G__law_same hr (by rfl) D.g__law_same D.F__law_same.kp D.b__law_same .nil pass0 (pa_cons (pv 3) (pa_cons (pe_call G__law_written hr (by rfl) D.g__law_written D.F__law_written.kp D.b__law_written .nil pass0 (pa_cons (pv 6) pa_nil)) pa_nil))))) (pw_or (pt_cmpR op_isnot_bl (pe_call G_is_sum hr (by rfl) D.g_is_sum D.F_is_sum.kp D.b_is_sum .nil pass0 (pa_cons (pv 3) (pa_cons (pv 2) pa_nil))) pe_bl (nomark _)) (pw_or1 (pt_cmpR op_isnot_bl (pe_call G_is_sum hr (by rfl) D.g_is_sum D.F_is_sum.kp D.b_is_sum .nil pass0 (pa_cons (pv 3) (pa_cons (pe_op op_add (pv 2) pe_int) pa_nil))) pe_bl (nomark _))))))
        (pss_one (ps_ret (pe_bl)))
        pss_nil)
      (pss_cons (ps_par3 (i := 7) (j := 8) (l := 9) (by rfl) nd rfl rfl rfl (by decide) (by decide) (by decide) rfl rfl rfl (pa_cons (pe_lst pa_nil) (pa_cons pe_dnewT (pa_cons pe_dnewT pa_nil))) (by rfl))
      (pss_cons (ps_for PassesOwn.never rfl (pi_range1 (by rfl) D.z_range (pa_cons (pv 2) pa_nil)) (pg_name (i := 5) nd rfl (.inr rfl))
        (pss_one (ps_expr (pe_bm PySem.F.plainAttrs_list PySem.F.slot_list_append PySem.F.type_list_append mt_append (pv 7) (pa_cons (pe_callB (r := rMin K) (cr_min rfl) (by rfl) D.z_min (by decide +kernel) (pa_cons (pe_lc (own := [("_law_powers", 10), ("_law_number", 11)]) (g := (gTup K 2 (gCons (gName 10) (gCons (gName 11) gNil)))) (by rfl) nd (pi_tup (pv 3)) (blkOk_by (own := [("_law_powers", 10), ("_law_number", 11)]) (N := N__law_goes_on) (sc := defScope s__law_goes_on) (by decide +kernel))
          (fun _ _ _ _ _ => pg_tup rfl (pgs_cons (pg_name (i := 10) nd rfl (.inl rfl)) (pgs_cons (pg_name (i := 11) nd rfl (.inl rfl)) pgs_nil))) (fun _ _ _ _ _ => pts_nil) (fun _ _ _ _ _ => pe_ix (r := rIxT K) ix_tup (pv 10) (pv 5) (fun _ _ => rfl))) pa_nil)) pa_nil)))))
      (pss_cons (ps_for PassesOwn.never rfl (pi_tup (pv 3)) (pg_tup rfl (pgs_cons (pg_name (i := 10) nd rfl (.inr rfl)) (pgs_cons (pg_name (i := 11) nd rfl (.inl rfl)) pgs_nil)))
        (pss_cons (ps_set (i := 12) nd rfl (.inl rfl) (pe_callTy call_tuple_of (by rfl) D.z_tuple (by decide +kernel) (pa_cons (pe_lc (own := [("_law_j", 5)]) (g := gName 5) (by rfl) nd (pi_range1 (by rfl) D.z_range (pa_cons (pv 2) pa_nil)) (blkOk_by (own := [("_law_j", 5)]) (N := N__law_goes_on) (sc := defScope s__law_goes_on) (by decide +kernel))
          (fun _ _ _ _ _ => pg_name (i := 5) nd rfl (.inl rfl)) (fun _ _ _ _ _ => pts_nil) (fun _ _ _ _ _ => pe_op op_mulX (pe_ix (r := rIxT K) ix_tup (pv 10) (pv 5) (fun _ _ => rfl)) (pe_callTy call_int1 (by rfl) D.z_int (by decide +kernel) (pa_cons (pe_cmpR op_ne (pv 5) (pv 4) (nomark _)) pa_nil)))) pa_nil)))
          (pss_cons (ps_dput hu (pv 8) (pv 12) (pe_op op_add (pe_dget2 hu (pv 8) (pv 12) pe_int ⟨rfl, rfl, rfl, rfl⟩) (pv 11)) rfl)
          (pss_one (ps_dput hu (pv 9) (pe_callTy call_tuple_of (by rfl) D.z_tuple (by decide +kernel) (pa_cons (pe_lc (own := [("_law_high", 16), ("_law_low", 17)]) (g := (gTup K 2 (gCons (gName 16) (gCons (gName 17) gNil)))) (by rfl) nd (pi_zipM (by rfl) D.z_zip (pa_cons (pv 10) (pa_cons (pv 7) pa_nil))) (blkOk_by (own := [("_law_high", 16), ("_law_low", 17)]) (N := N__law_goes_on) (sc := defScope s__law_goes_on) (by decide +kernel))
          (fun _ _ _ _ _ => pg_tup rfl (pgs_cons (pg_name (i := 16) nd rfl (.inl rfl)) (pgs_cons (pg_name (i := 17) nd rfl (.inl rfl)) pgs_nil))) (fun _ _ _ _ _ => pts_nil) (fun _ _ _ _ _ => pe_op op_sub (pv 16) (pv 17))) pa_nil)) (pv 11) rfl)))))
      (pss_cons (ps_set (i := 13) nd rfl (.inl rfl) (pe_lst (pa_cons (pe_callTy call_tuple_of (by rfl) D.z_tuple (by decide +kernel) (pa_cons (pv 7) pa_nil)) (pa_cons (pe_call G__law_written hr (by rfl) D.g__law_written D.F__law_written.kp D.b__law_written .nil pass0 (pa_cons (pv 9) pa_nil)) (pa_cons (pe_call G__law_written hr (by rfl) D.g__law_written D.F__law_written.kp D.b__law_written .nil pass0 (pa_cons (pv 8) pa_nil)) (pa_cons (pe_call G__law_written hr (by rfl) D.g__law_written D.F__law_written.kp D.b__law_written .nil pass0 (pa_cons (pv 6) pa_nil)) pa_nil))))))
      (pss_cons (ps_if (pt_not (pt_val (pe_call G__law_same hr (by rfl) D.g__law_same D.F__law_same.kp D.b__law_same .nil pass0 (pa_cons (pe_lst (pa_cons (pe_call G_least_powers hr (by rfl) D.g_least_powers D.F_least_powers.kp D.b_least_powers .nil pass0 (pa_cons (pv 3) pa_nil)) (pa_cons (pe_call G_freed hr (by rfl) D.g_freed D.F_freed.kp D.b_freed .nil pass0 (pa_cons (pv 3) pa_nil)) (pa_cons (pe_call G_ones hr (by rfl) D.g_ones D.F_ones.kp D.b_ones .nil pass0 (pa_cons (pv 3) (pa_cons (pe_lst (pa_cons (pv 4) pa_nil)) pa_nil))) (pa_cons (pe_call G_power hr (by rfl) D.g_power D.F_power.kp D.b_power .nil pass0 (pa_cons (pv 3) (pa_cons pe_int pa_nil))) pa_nil))))) (pa_cons (pv 13) pa_nil)))))
        (pss_one (ps_ret (pe_bl)))
        pss_nil)
      (pss_cons (ps_par (i := 14) (j := 15) (by rfl) nd rfl rfl (by decide) rfl rfl (pa_cons (pe_lc (own := [("_law_j", 5)]) (g := gName 5) (by rfl) nd (pi_range1 (by rfl) D.z_range (pa_cons (pv 2) pa_nil)) (blkOk_by (own := [("_law_j", 5)]) (N := N__law_goes_on) (sc := defScope s__law_goes_on) (by decide +kernel))
          (fun _ _ _ _ _ => pg_name (i := 5) nd rfl (.inl rfl)) (fun _ _ _ _ _ => pts_nil) (fun _ _ _ _ _ => pe_op op_sub pe_int (pe_op op_mulX pe_int (pe_call G__law_pick hr (by rfl) D.g__law_pick D.F__law_pick.kp D.b__law_pick .nil pass0 (pa_cons (pv 0) (pa_cons pe_int pa_nil)))))) (pa_cons pe_int pa_nil)) (by rfl))
      (pss_cons (ps_for PassesOwn.never rfl (pi_tup (pv 3)) (pg_tup rfl (pgs_cons (pg_name (i := 10) nd rfl (.inr rfl)) (pgs_cons (pg_name (i := 11) nd rfl (.inl rfl)) pgs_nil)))
        (pss_cons (ps_for PassesOwn.never rfl (pi_range1 (by rfl) D.z_range (pa_cons (pv 2) pa_nil)) (pg_name (i := 5) nd rfl (.inr rfl))
            (pss_one (ps_set (i := 11) nd rfl (.inl rfl) (pe_op op_mulX (pv 11) (pe_ix ix_list (pe_lst (pa_cons pe_int (pa_cons (pe_ix ix_list (pv 14) (pv 5) (fun _ _ => rfl)) pa_nil))) (pe_op op_modN (pe_callTy call_int1 (by rfl) D.z_int (by decide +kernel) (pa_cons (pe_ix (r := rIxT K) ix_tup (pv 10) (pv 5) (fun _ _ => rfl)) pa_nil)) pe_int) (fun _ _ => rfl))))))
          (pss_one (ps_set (i := 15) nd rfl (.inl rfl) (pe_op op_add (pv 15) (pv 11))))))
      (pss_cons (ps_if (pt_not (pt_val (pe_call G__law_same hr (by rfl) D.g__law_same D.F__law_same.kp D.b__law_same .nil pass0 (pa_cons (pe_lst (pa_cons (pe_call G_value hr (by rfl) D.g_value D.F_value.kp D.b_value .nil pass0 (pa_cons (pv 3) (pa_cons (pv 14) pa_nil))) (pa_cons (pe_call G_plus hr (by rfl) D.g_plus D.F_plus.kp D.b_plus .nil pass0 (pa_cons (pv 3) (pa_cons (pe_tup pa_nil) pa_nil))) pa_nil))) (pa_cons (pe_lst (pa_cons (pe_tup (pa_cons (pv 15) (pa_cons pe_int pa_nil))) (pa_cons (pv 3) pa_nil))) pa_nil)))))
        (pss_one (ps_ret (pe_bl)))
        pss_nil)
      (pss_one (ps_ret (pe_call G__law_same hr (by rfl) D.g__law_same D.F__law_same.kp D.b__law_same .nil pass0 (pa_cons (pe_call G_plus hr (by rfl) D.g_plus D.F_plus.kp D.b_plus .nil pass0 (pa_cons (pv 3) (pa_cons (pe_call G__law_written hr (by rfl) D.g__law_written D.F__law_written.kp D.b__law_written .nil pass0 (pa_cons (pv 1) pa_nil)) pa_nil))) (pa_cons (pe_call G__law_written hr (by rfl) D.g__law_written D.F__law_written.kp D.b__law_written .nil pass0 (pa_cons (pe_call G__law_plus hr (by rfl) D.g__law_plus D.F__law_plus.kp D.b__law_plus .nil pass0 (pa_cons (pv 6) (pa_cons (pv 1) pa_nil))) pa_nil)) pa_nil))))))))))))))), ?_⟩
    have hm0 : 0 < m := by omega
    refine ⟨.ref dw, rfl, dw, m, W, rfl, hW, hm0, by omega, fun H1 t0 L0 s1 _ hS0 hN0 hl0 => ?_⟩
    refine ⟨.int (m : Nat), rfl, 0, m, rfl, by omega, by decide, by omega, fun H2 tl Ll s2 _ hSl hdl => ?_⟩
    have lLl : Ll.length = 1 := by
      have := congrArg List.length hdl
      rw [List.length_map] at this
      exact this
    have z0 := zW.norm hN0
    have g0 := hN0.good hW.len
    have gU : Good m (Ll.map Trm.d) := by rw [hdl]; exact good_unit m
    refine ⟨t0, tl, m, L0, Ll, rfl, hS0.same s2, hSl, by omega, by omega, by rw [lLl]; omega, hm0, by omega, g0, gU, fun q1 hq1 => ?_, fun H3 t1 L1 C s3 hS1 nC vC hN1 hl1 => ?_⟩
    · rcases List.mem_append.mp hq1 with h | h
      · exact ⟨Nat.lt_of_lt_of_le (z0.c q1 h) (Nat.pow_le_pow_right (by decide) (by decide)), fun x hx => Nat.le_trans (z0.r q1 h x hx) (by decide)⟩
      · rw [hdl] at h
        cases List.mem_singleton.mp h
        exact ⟨show 1 < 2 ^ 200 by decide, fun x hx => Nat.le_trans (unit_small x hx) (by decide)⟩
    have s13 := (s1.trans s2).trans s3
    -- the sum that is told
    have hM : Norm (mulT W [(unit 0 m, 1)]) (L1.map Trm.d) := by
      refine norm_swap hN1 nC (mulT_nodup _ _) fun j => ?_
      rw [vC, hdl]
      exact norm_mul hN0 (norm_self (good_unit m)) hW.nodup (good_nodup (good_unit m)) hW.len (fun q hq => ((good_unit m).1 q hq).1) j
    have nM : NodupK (mulT W [(unit 0 m, 1)]) := mulT_nodup _ _
    have lM : ∀ q ∈ mulT W [(unit 0 m, 1)], q.1.length = m := mulT_len hW.len fun q hq => ((good_unit m).1 q hq).1
    have zM := up_small hW.nodup hW.len zW
    have szM : (mulT W [(unit 0 m, 1)]).length ≤ 1000 := by
      have := mulT_size (A := W) (B := [(unit 0 m, (1 : Int))])
      rw [List.length_singleton] at this
      omega
    have hTne : L1.map Trm.d ≠ [] := fun z => by
      obtain ⟨j, hj⟩ := up_ne hW.nodup hW.len hW0
      rw [z] at hM
      have := norm_val hM nM j
      rw [← this] at hj
      exact hj rfl
    have gT : Good m (L1.map Trm.d) := hM.good lM
    have zT : Sz (L1.map Trm.d) 198 25 := zM.norm hM
    clear vC hN1 nC
    have S3 := S.same s13
    have hW3 := hW.same s13
    have hT3 := hT.ext s13
    have hN0t := hS0.same (s2.trans s3)
    clear hSl hS0
    refine ⟨.ref a, rfl, .int (m : Nat), rfl, a, ca, n, (m : Nat), rfl, S3, by omega, by omega, by rw [Int.natAbs_natCast]; omega, fun H4 pl S4 k4 p40 p41 => ?_⟩
    refine ⟨two_ok, fun z nz => ?_⟩
    have sz := same_new (o := .tup [V.ref t1, .int pl]) nz
    refine ⟨z, _, rfl, sqtOf upd_same, rfl, _, _, rfl, _, _, rfl, rfl, ?_⟩
    dsimp only [tSeq, tAsg, gName, tNext]
    have hz1 : Same H4 (upd H4 z (.tup [V.ref t1, .int pl])) := sz
    have S5 := S4.same sz
    have hW5 : DictAt (upd H4 z (.tup [V.ref t1, .int pl])) dw m W := by
      have ad := stock_dict S3 hW3.at_
      exact DictAt.same ⟨k4 _ _ ad.1 ad.2 hW3.at_, hW3.nodup, hW3.len⟩ sz
    have sumK : ∀ {t : Addr} {L : List Trm}, SumAt H3 t L → SumAt (upd H4 z (.tup [V.ref t1, .int pl])) t L := fun {t L} h => by
      have kt := S3.keepT k4
      exact SumAt.same ⟨kt _ _ h.at_, h.rows.keep kt⟩ sz
    have hS5 := sumK hS1
    have hN05 := sumK hN0t
    have hT5 : Tabs (T5 Pt) (upd H4 z (.tup [V.ref t1, .int pl])) := (tabs_keep hT3 S3 k4).ext sz
    clear sumK k4 sz hz1 hS1 hN0t hT3 hW3 S3 S4
    generalize upd H4 z (.tup [V.ref t1, .int pl]) = H5 at *
    -- the law's product
    refine ⟨.ref dw, rfl, fun u nu => ?_⟩
    have s6 := same_new (o := .dT []) nu
    have hu6 : upd H5 u (.dT []) u = some (.dT []) := upd_same
    generalize upd H5 u (.dT []) = H6 at s6 hu6
    refine ⟨.int (m : Nat), rfl, m, rfl, by omega, by omega, fun E0' nE => ?_⟩
    refine lc_range (lo := 0) (n := m) (fun j H' => H' E0' = some (.lst ((unit 0 j).map V.int)) ∧ But E0' H6 H') ⟨upd_same, But.start⟩ (fun j H' hj h => ?_) (fun H7 h => ?_)
    · obtain ⟨hD, kp⟩ := h
      refine ⟨rfl, .int ((0 : Int) + (j : Nat)), rfl, rfl, .inr ⟨_, rfl, _, hD, ?_, ?_, kp.step (Same.refl _)⟩⟩
      · rw [List.length_map, unit_len, sizeLine_eq]
        omega
      · rw [upd_same, unit_step, List.map_append]
        have : (if decide (V.int ((0 : Int) + (j : Nat)) = V.int 0) = true then (1 : Int) else 0) = if (j : Int) = 0 then 1 else 0 := by
          by_cases e : (j : Int) = 0
          · rw [if_pos e, if_pos (decide_eq_true (by rw [e]; rfl))]
          · rw [if_neg e, if_neg (fun z => e (by have := V.int.inj (of_decide_eq_true z); omega))]
        rw [this]
        rfl
    obtain ⟨hE7, kp7⟩ := h
    have s67 := kp7.same nE
    refine ⟨E0', _, rfl, .inl ⟨sqlOf hE7, fun t nt => ?_⟩⟩
    have s8 := same_new (o := .tup ((unit 0 m).map V.int)) nt
    have ht : upd H7 t (.tup ((unit 0 m).map V.int)) t = some (.tup ((unit 0 m).map V.int)) := upd_same
    have s68 := s67.trans s8
    generalize upd H7 t (.tup ((unit 0 m).map V.int)) = H8 at s68 ht
    refine ⟨[], (unit 0 m).map Sum.inl, t, rfl, by rw [map_kV]; exact ht, s68 _ _ hu6, by rw [sizeLine_eq]; decide, ?_⟩
    have nu5 : H5 u = none := nu
    have s59 : Same H5 (upd H8 u (.dT (putK [] ((unit 0 m).map Sum.inl) (.int 1)))) := fun b o eb => by
      rw [upd_ne (ne_of_none eb nu5)]
      exact s68 _ _ (s6 _ _ eb)
    have hU : upd H8 u (.dT (putK [] ((unit 0 m).map Sum.inl) (.int 1))) u = some (dZ [(unit 0 m, 1)]) := upd_same
    generalize upd H8 u (.dT (putK [] ((unit 0 m).map Sum.inl) (.int 1))) = H9 at s59 hU
    have gU1 := good_unit m
    refine ⟨dw, u, m, W, [(unit 0 m, 1)], rfl, hW5.same s59, ⟨hU, good_nodup gU1, fun q hq => (gU1.1 q hq).1⟩, hWl, by show 1 ≤ 1000; decide, by omega, fun q hq => Nat.lt_of_lt_of_le (zW.c q hq) (Nat.pow_le_pow_right (by decide) (by decide)), fun q hq => by cases List.mem_singleton.mp hq; exact Nat.one_lt_two_pow (by decide), fun Ha dm sa _ hDm => ?_⟩
    dsimp only [tSeq, tAsg, gName, tNext]
    have s5a := s59.trans sa
    have Sa := S5.same s5a
    have hTa := hT5.ext s5a
    have hSa := hS5.same s5a
    have hN0a := hN05.same s5a
    have hWa := hW5.same s5a
    clear hU s59 sa s68 s67 kp7 hE7 hu6 s6 hS5 hN05 hT5 hW5 S5
    generalize mulT W [(unit 0 m, 1)] = M at *
    -- compared
    refine ⟨.ref t1, rfl, .ref dm, rfl, dm, m, M, rfl, hDm, hm0, by omega, fun Hb u1 M1 sb _ hU1 hM1 hMl1 => ?_⟩
    have hlT : (L1.map Trm.d).length ≤ 1000 := by rw [List.length_map]; exact hl1
    refine ⟨_, _, rfl, sm_sum' (m := m) (n := 2) (hSa.same sb) hU1 nM nM (fun _ => rfl) hM hM1 (by omega) (by omega) lM, fun Hc sc => ⟨true, rfl, iteF ?_⟩⟩
    have sac := sb.trans sc
    refine ⟨.ref t1, rfl, .int (m : Nat), rfl, t1, (m : Nat), L1, rfl, (hSa.same sac).sq, (hSa.same sac).rows, by omega, fun b1 Hd sd hb1 => ?_⟩
    have hL1ne : L1 ≠ [] := fun z => hTne (by rw [z]; rfl)
    have eb1 : b1 = true := hb1.mpr (good_right gT)
    subst eb1
    refine ⟨true, true, rfl, rfl, _, rfl, iteF ?_⟩
    have sad := sac.trans sd
    refine ⟨.ref t1, rfl, .int (m : Nat), rfl, _, _, rfl, rfl, t1, (m : Int) + 1, L1, rfl, (hSa.same sad).sq, (hSa.same sad).rows, by omega, fun b2 He se hb2 => ?_⟩
    have eb2 : b2 = false := by
      cases b2 with
      | false => rfl
      | true =>
        exfalso
        have hR := hb2.mp rfl
        cases L1 with
        | nil => exact hL1ne rfl
        | cons r Lt =>
          obtain ⟨h1, _⟩ := hR 0 (Nat.succ_pos _) r rfl
          have h2 : r.ns.length = m := (gT.1 r.d List.mem_cons_self).1
          omega
    subst eb2
    refine ⟨false, false, rfl, rfl, _, rfl, iteF ?_⟩
    have sae := sad.trans se
    have Se := Sa.same sae
    have hTe := hTa.ext sae
    have hSe := hSa.same sae
    have hN0e := hN0a.same sae
    have hWe := hWa.same sae
    have hDe := hDm.same sae
    clear Sa hTa hSa hN0a hWa hDm sac sad sb sc sd se sae hb1 hb2 hU1 hM1 hMl1
    dsimp only [tSeq, tAsg, gName, tNext]
    refine ⟨Nat.zero_le _, fun l nl => fun d1 nd1 => fun d2 nd2 => ⟨_, _, _, rfl, ?_⟩⟩
    have sl := same_new (o := .lst []) nl
    have sd1 := same_new (o := .dT []) nd1
    have sd2 := same_new (o := .dT []) nd2
    have hl0 : upd (upd (upd He l (.lst [])) d1 (.dT [])) d2 (.dT []) l = some (.lst []) := sd2 _ _ (sd1 _ _ upd_same)
    have hd10 : upd (upd (upd He l (.lst [])) d1 (.dT [])) d2 (.dT []) d1 = some (.dT []) := sd2 _ _ upd_same
    have hd20 : upd (upd (upd He l (.lst [])) d1 (.dT [])) d2 (.dT []) d2 = some (.dT []) := upd_same
    have sf := (sl.trans sd1).trans sd2
    have d12 : d1 ≠ d2 := ne_of_none (upd_same : upd (upd He l (.lst [])) d1 (.dT []) d1 = _) nd2
    have ld1 : l ≠ d1 := ne_of_none (upd_same : upd He l (.lst []) l = _) nd1
    have ld2 : l ≠ d2 := ne_of_none (sd1 _ _ (upd_same : upd He l (.lst []) l = _)) nd2
    have nl0 : He l = none := nl
    have nd10 : He d1 = none := sl.free nd1
    have nd20 : He d2 = none := (sl.trans sd1).free nd2
    generalize upd (upd (upd He l (.lst [])) d1 (.dT [])) d2 (.dT []) = Hf at *
    have hSf := hSe.same sf
    dsimp only [tSeq, tAsg, gName, tNext]
    -- the least powers
    refine ⟨.int (m : Nat), rfl, m, rfl, by omega, by omega, for_range (lo := 0) (n := m) (fun i σ H' => ∃ (y5 : Option V) (ms : List Int), σ = [some (.ref a), some (.ref dw), some (.int (m : Nat)), some (.ref t1), some (.int pl), y5, some (.ref dm), some (.ref l), some (.ref d1), some (.ref d2), none, none, none, none, none, none, none, none] ∧ H' l = some (.lst (ms.map V.int)) ∧ ms.length = i ∧ (∀ j, j < i → ∃ v, ms[j]? = some v ∧ v ∈ col (L1.map Trm.d) j ∧ ∀ y ∈ col (L1.map Trm.d) j, v ≤ y) ∧ But l Hf H')
      ⟨none, [], rfl, hl0, rfl, (fun j h => absurd h (Nat.not_lt_zero j)), fun _ _ _ e => e⟩ (fun i σ H' hi h => ?_) (fun σ H' h => ?_)⟩
    · obtain ⟨y5, ms, rfl, hl, hml, hms, kp⟩ := h
      have lt1 : t1 ≠ l := ne_of_none hSe.at_ nl0
      have hSi : SumAt H' t1 L1 := ⟨kp _ _ lt1 hSf.at_, fun r hr => by
        obtain ⟨o1, o2⟩ := hSe.rows r hr
        exact ⟨kp _ _ (ne_of_none o1 nl0) (sf _ _ o1), kp _ _ (ne_of_none o2 nl0) (sf _ _ o2)⟩⟩
      refine ⟨.ref l, rfl, .inl ⟨rfl, _, sqlOf hl⟩, .ref t1, rfl, t1, rfl, ⟨_, hSi.sq⟩, fun F nF => ?_⟩
      refine lc_tup (xs := L1.map Trm.v) (fun j H2 => H2 F = some (.lst ((((L1.take j).map Trm.d).map fun q => q.1.getD i 0).map V.int)) ∧ But F H' H2) ⟨upd_same, But.start⟩ (fun j H2 _ h => (hSi.at_ |> fun e => sqtOf (h.2.at_ nF e))) (fun j x H2 hx h => ?_) (fun H2 h => ?_)
      · obtain ⟨hF, kp2⟩ := h
        rw [List.getElem?_map] at hx
        obtain ⟨r, hr1, rfl⟩ := Option.map_eq_some_iff.mp hx
        have hrm := List.mem_of_getElem? hr1
        have hjl := (List.getElem?_eq_some_iff.mp hr1).1
        obtain ⟨o1, o2⟩ := hSi.rows r hrm
        have hrl : r.ns.length = m := (gT.1 r.d (List.mem_map_of_mem hrm)).1
        have hat : atI (r.ns.map V.int) ((0 : Int) + (i : Nat)) = some (.int (r.ns.getD i 0)) := by
          rw [Int.zero_add]
          refine atI_nat ?_
          rw [List.getElem?_map, List.getElem?_eq_getElem (by omega), List.getD_eq_getElem?_getD, List.getElem?_eq_getElem (by omega)]
          rfl
        refine ⟨r.t, _, rfl, sqtOf (kp2.at_ nF o1), rfl, _, _, rfl, _, _, rfl, rfl, rfl, .ref r.p, rfl, .int ((0 : Int) + (i : Nat)), rfl, r.p, _, _, _, rfl, rfl, sqtOf (kp2.at_ nF o2), hat, _, hF, ?_, ?_, kp2.step (Same.refl _)⟩
        · rw [List.length_map, List.length_map, List.length_map, List.length_take, sizeLine_eq]
          omega
        · rw [upd_same, List.take_add_one, hr1, List.map_append, List.map_append, List.map_append]
          rfl
      · obtain ⟨hF, kp2⟩ := h
        rw [List.length_map, List.take_length] at hF
        refine tNil_ap ?_
        refine ⟨F, _, rfl, sqlOf hF, ?_, fun mn hmn hub => ?_⟩
        · rw [List.length_map, List.length_map]
          exact List.length_pos_iff.mpr hL1ne
        refine ⟨l, _, _, rfl, rfl, kp2.at_ nF hl, ?_, ?_⟩
        · rw [List.length_map, sizeLine_eq]
          omega
        · refine ⟨_, ms ++ [mn], rfl, by rw [upd_same, List.map_append]; rfl, by rw [List.length_append, hml]; rfl, fun j hj => ?_, ?_⟩
          · by_cases e : j < i
            · obtain ⟨v, h1, h2⟩ := hms j e
              exact ⟨v, by rw [List.getElem?_append_left (by omega)]; exact h1, h2⟩
            · obtain rfl : j = i := by omega
              exact ⟨mn, by rw [List.getElem?_append_right (by omega), show j - ms.length = 0 by omega]; rfl, hmn, hub⟩
          · exact fun b o hb e => by
              rw [upd_ne hb]
              exact (kp2.same nF) _ _ (kp b o hb e)
    obtain ⟨y5, ms, rfl, hl, hml, hms, kpl⟩ := h
    have hI : IsLeast (L1.map Trm.d) m ms := ⟨hml, hms⟩
    dsimp only [tSeq, tAsg, gName, tNext]
    have hg : Same He H' := fun b o e => kpl b o (ne_of_none e nl0) (sf _ _ e)
    have hd1g : H' d1 = some (dZ (gather idk [] [])) := kpl _ _ ld1.symm hd10
    have hd2g : H' d2 = some (dZ (([] : Ts).map (less ms))) := kpl _ _ ld2.symm hd20
    have hSg := hSe.same hg
    have t1d1 : t1 ≠ d1 := ne_of_none hSe.at_ nd10
    have t1d2 : t1 ≠ d2 := ne_of_none hSe.at_ nd20
    have old : ∀ {H2 : Hp}, But2 d1 d2 H' H2 → Same He H2 := fun k b o e => k b o (ne_of_none e nd10) (ne_of_none e nd20) (hg _ _ e)
    clear hSf hd10 hd20 hl0 sl sd1 sd2 kpl hms
    refine ⟨.ref t1, rfl, t1, rfl, ⟨_, hSg.sq⟩, for_it (walk_tup (K := K) (a := t1) (xs := L1.map Trm.v)) (fun i σ H2 => ∃ (y10 y11 y12 : Option V), σ = [some (.ref a), some (.ref dw), some (.int (m : Nat)), some (.ref t1), some (.int pl), y5, some (.ref dm), some (.ref l), some (.ref d1), some (.ref d2), y10, y11, y12, none, none, none, none, none] ∧ H2 d1 = some (dZ (gather (zer [pl]) [] ((L1.take i).map Trm.d))) ∧ H2 d2 = some (dZ (((L1.take i).map Trm.d).map (less ms))) ∧ But2 d1 d2 H' H2)
      ⟨none, none, none, rfl, hd1g, hd2g, But2.refl⟩ (fun i σ H2 _ h => ?_) (fun i x σ H2 H3 hi h hy => ?_) (fun σ H2 h => ?_)⟩
    · obtain ⟨_, _, _, _, _, _, kp⟩ := h
      exact (hSe.same (old kp)).sq
    · obtain ⟨y10, y11, y12, rfl, hf1, hf2, kp⟩ := h
      obtain ⟨rfl, e1⟩ := hy
      rw [List.getElem?_map] at e1
      obtain ⟨r, hr1, rfl⟩ := Option.map_eq_some_iff.mp e1
      have hrm := List.mem_of_getElem? hr1
      have hil := (List.getElem?_eq_some_iff.mp hr1).1
      have hS3 := hSe.same (old kp)
      obtain ⟨o1, o2⟩ := hS3.rows r hrm
      have hrd : r.d ∈ L1.map Trm.d := List.mem_map_of_mem hrm
      have hrl : r.ns.length = m := (gT.1 r.d hrd).1
      refine ⟨r.t, _, rfl, sqtOf o1, rfl, _, _, rfl, _, _, rfl, rfl, ?_⟩
      refine ⟨.int (m : Nat), rfl, m, rfl, by omega, by omega, fun F nF => ?_⟩
      refine lc_range (lo := 0) (n := m) (fun j Hj => Hj F = some (.lst (((zer [pl] r.ns).take j).map V.int)) ∧ But F H3 Hj) ⟨upd_same, But.start⟩ (fun j Hj hj h => ?_) (fun H4 h => ?_)
      · obtain ⟨hF, kp2⟩ := h
        obtain ⟨v, hv⟩ : ∃ v, r.ns[j]? = some v := ⟨r.ns[j]'(by omega), List.getElem?_eq_getElem (by omega)⟩
        have hat : atI (r.ns.map V.int) ((0 : Int) + (j : Nat)) = some (.int v) := by
          rw [Int.zero_add]
          exact atI_nat (by rw [List.getElem?_map, hv]; rfl)
        have hvs : v.natAbs ≤ 25 := zT.r r.d hrd v (List.mem_of_getElem? hv)
        refine ⟨rfl, .ref r.p, rfl, .int ((0 : Int) + (j : Nat)), rfl, r.p, _, _, _, rfl, rfl, sqtOf (kp2.at_ nF o2), hat, .int ((0 : Int) + (j : Nat)), rfl, .int pl, rfl, rfl, .inr ⟨_, rfl, ?_⟩⟩
        dsimp only
        have hval : v * (if (!decide (V.int ((0 : Int) + (j : Nat)) = V.int pl)) = true then 1 else 0) = if (j : Int) ∈ [pl] then 0 else v := by
          by_cases e : (j : Int) = pl
          · rw [if_pos (List.mem_singleton.mpr e), decide_eq_true (by rw [← e, Int.zero_add])]
            simp
          · rw [if_neg (fun z => e (List.mem_singleton.mp z)), decide_eq_false (fun z => e (by have := V.int.inj z; omega))]
            simp
        have hbs : (if (!decide (V.int ((0 : Int) + (j : Nat)) = V.int pl)) = true then (1 : Int) else 0).natAbs ≤ 1 := by split <;> decide
        refine ⟨_, _, rfl, rfl, mulS (by omega) (by omega), _, hF, ?_, ?_, kp2.step (Same.refl _)⟩
        · rw [List.length_map, List.length_take, zer_len, sizeLine_eq]
          omega
        · dsimp only
          rw [upd_same, hval, zer_at hv, List.map_append]
          rfl
      obtain ⟨hF, kp2⟩ := h
      rw [List.take_of_length_le (by rw [zer_len]; omega)] at hF
      refine ⟨F, _, rfl, .inl ⟨sqlOf hF, fun tk ntk => ?_⟩⟩
      have s34 := kp2.same nF
      have s5 := same_new (o := .tup ((zer [pl] r.ns).map V.int)) ntk
      have s35 := s34.trans s5
      have htk : upd H4 tk (.tup ((zer [pl] r.ns).map V.int)) tk = some (.tup ((zer [pl] r.ns).map V.int)) := upd_same
      generalize upd H4 tk (.tup ((zer [pl] r.ns).map V.int)) = H5b at s35 htk
      have hf15 := s35 _ _ hf1
      have hf25 := s35 _ _ hf2
      dsimp only [tSeq, tAsg, gName, tNext]
      have tkd1 : tk ≠ d1 := fun z => by rw [z, hf15] at htk; cases htk
      have tkd2 : tk ≠ d2 := fun z => by rw [z, hf25] at htk; cases htk
      refine ⟨.ref d1, rfl, d1, rfl, .inr ⟨_, .inl hf15⟩, .ref tk, rfl, _, DictAt.get (m := m) (.inl hf15) htk, .int r.c, rfl, _, r.c, sum_of_get, rfl, ?_⟩
      have gl := gather_len (zer [pl]) ((L1.take i).map Trm.d) []
      rw [List.length_map, List.length_take, List.length_nil] at gl
      refine ⟨.ref d1, rfl, .ref tk, rfl, d1, _, rfl, DPut.t (k := (zer [pl] r.ns).map Sum.inl) hf15 (by rw [map_kV]; exact htk) (by rw [List.length_map, sizeLine_eq]; omega), ?_⟩
      have e6 : HO.dT (putK (((gather (zer [pl]) [] ((L1.take i).map Trm.d))).map enc) ((zer [pl] r.ns).map Sum.inl) (.int (((getO (gather (zer [pl]) [] ((L1.take i).map Trm.d)) (zer [pl] r.ns)).getD 0) + r.c))) = dZ (gather (zer [pl]) [] ((L1.take (i + 1)).map Trm.d)) := by
        rw [putK_enc, List.take_add_one, hr1, List.map_append]
        show _ = dZ (gather (zer [pl]) [] ((L1.take i).map Trm.d ++ [r.d]))
        rw [gather_snoc]
        rfl
      rw [e6]
      have hx1 : upd H5b d1 (dZ (gather (zer [pl]) [] ((L1.take (i + 1)).map Trm.d))) d1 = some (dZ (gather (zer [pl]) [] ((L1.take (i + 1)).map Trm.d))) := upd_same
      have hx2 : upd H5b d1 (dZ (gather (zer [pl]) [] ((L1.take (i + 1)).map Trm.d))) d2 = some (dZ (((L1.take i).map Trm.d).map (less ms))) := by rw [upd_ne d12.symm]; exact hf25
      have kp6 : But2 d1 d2 H' (upd H5b d1 (dZ (gather (zer [pl]) [] ((L1.take (i + 1)).map Trm.d)))) := (kp.then s35).at1
      generalize upd H5b d1 (dZ (gather (zer [pl]) [] ((L1.take (i + 1)).map Trm.d))) = H6b at hx1 hx2 kp6
      obtain ⟨_, o26⟩ := (hSe.same (old kp6)).rows r hrm
      have hl6 : H6b l = some (.lst (ms.map V.int)) := kp6 _ _ ld1 ld2 hl
      refine ⟨.int r.c, rfl, .ref d2, rfl, .ref r.p, rfl, .ref l, rfl, r.p, l, _, _, rfl, sqtOf o26, sqlOf hl6, fun G nG => ?_⟩
      refine lc_it (walk_zipM (xs := r.ns.map V.int) (ys := ms.map V.int) (by rw [List.length_map, List.length_map, hrl, hml])) (fun j Hj => Hj G = some (.lst ((((less ms r.d).1).take j).map V.int)) ∧ But G H6b Hj) ⟨upd_same, But.start⟩ (fun j Hj _ h => ⟨sqtOf (h.2.at_ nG o26), sqlOf (h.2.at_ nG hl6)⟩) (fun j x Hj Hk hj h hy => ?_) (fun H7 h => ?_)
      · obtain ⟨hG2, kp3⟩ := h
        obtain ⟨Tt, x1, x2, rfl, nT, rfl, f1, f2⟩ := hy
        dsimp only at f1 f2
        rw [List.getElem?_map] at f1 f2
        obtain ⟨n1, g1, rfl⟩ := Option.map_eq_some_iff.mp f1
        obtain ⟨n2, g2, rfl⟩ := Option.map_eq_some_iff.mp f2
        have sT := same_new (o := .tup [.int n1, .int n2]) nT
        refine ⟨Tt, _, rfl, sqtOf upd_same, rfl, _, _, rfl, _, _, rfl, rfl, rfl, .int n1, rfl, .int n2, rfl, n1, n2, rfl, rfl, _, sT _ _ hG2, ?_, ?_, kp3.step sT⟩
        · rw [List.length_map, List.length_take, sizeLine_eq]
          have : (less ms r.d).1.length = ms.length := less_len (by show r.ns.length = _; omega)
          omega
        · have e7 : ((less ms r.d).1).take (j + 1) = ((less ms r.d).1).take j ++ [n1 + -1 * n2] := zip_take g1 g2
          rw [upd_same, e7, List.map_append]
          show _ = some (HO.lst (_ ++ [V.int (n1 + -1 * n2)]))
          rw [show n1 + -1 * n2 = n1 - n2 by omega]
      obtain ⟨hG2, kp3⟩ := h
      have lless : (less ms r.d).1.length = ms.length := less_len (by show r.ns.length = _; omega)
      rw [List.length_map, List.take_of_length_le (by rw [lless, hml, hrl]; exact Nat.le_refl _)] at hG2
      refine ⟨G, _, rfl, .inl ⟨sqlOf hG2, fun tb ntb => ?_⟩⟩
      have s67 := (kp3.same nG).trans (same_new (o := .tup (((less ms r.d).1).map V.int)) ntb)
      have htb : upd H7 tb (.tup (((less ms r.d).1).map V.int)) tb = some (.tup (((less ms r.d).1).map V.int)) := upd_same
      generalize upd H7 tb (.tup (((less ms r.d).1).map V.int)) = H8b at s67 htb
      refine ⟨d2, _, rfl, DPut.t (k := ((less ms r.d).1).map Sum.inl) (s67 _ _ hx2) (by rw [map_kV]; exact htb) ?_, ?_⟩
      · rw [List.length_map, List.length_map, List.length_map, List.length_take, sizeLine_eq]
        omega
      · refine ⟨_, _, _, rfl, by rw [upd_ne d12]; exact s67 _ _ hx1, ?_, (kp6.then s67).at2⟩
        rw [upd_same, putK_enc]
        have gL := gT.less hml
        have hT1 : ((L1.map Trm.d).map (less ms))[i]? = some (less ms r.d) := by rw [List.getElem?_map, List.getElem?_map, hr1]; rfl
        have hnew := nodup_getElem (g := fun q : List Int × Int => q.1) (good_nodup gL) hT1
        have e8 : ((L1.map Trm.d).map (less ms)).take i = ((L1.take i).map Trm.d).map (less ms) := by rw [← List.map_take, ← List.map_take]
        rw [e8] at hnew
        have e9 : ((L1.take (i + 1)).map Trm.d).map (less ms) = ((L1.take i).map Trm.d).map (less ms) ++ [less ms r.d] := by
          rw [List.take_add_one, hr1, List.map_append, List.map_append]
          rfl
        rw [e9]
        have e10 : setD (((L1.take i).map Trm.d).map (less ms)) (less ms r.d).1 r.c = ((L1.take i).map Trm.d).map (less ms) ++ [less ms r.d] := setD_new hnew
        exact congrArg some (congrArg (fun x : Ts => dZ x) e10)
    obtain ⟨y10, y11, y12, rfl, hf1, hf2, kp⟩ := h
    rw [List.length_map, List.take_length] at hf1 hf2
    have hS2 := hSe.same (old kp)
    have hgH := old kp
    have hl2 := kp _ _ ld1 ld2 hl
    dsimp only [tSeq, tAsg, gName, tNext]
    have hSX := hSe.same hgH
    have hTX := hTe.ext hgH
    have SX := Se.same hgH
    have hWX := hWe.same hgH
    have hDX := hDe.same hgH
    have hN0X := hN0e.same hgH
    clear hS2 hgH old kp hSe hTe Se hWe hDe hN0e hSg hd1g hd2g hl hg nl0 nd10 nd20 t1d1 t1d2 sf nl nd1 nd2
    have gL := gT.less hml
    have dB : DictAt H2 d2 m ((L1.map Trm.d).map (less ms)) := ⟨hf2, good_nodup gL, fun q hq => (gL.1 q hq).1⟩
    have gFn : NodupK (gather (zer [pl]) [] (L1.map Trm.d)) := gather_nodup _ _ _ List.nodup_nil
    have lF : ∀ q ∈ gather (zer [pl]) [] (L1.map Trm.d), q.1.length = m := gather_keys _ _ (fun q h => by cases h) fun q hq => by rw [zer_len]; exact (gT.1 q hq).1
    have dF : DictAt H2 d1 m (gather (zer [pl]) [] (L1.map Trm.d)) := ⟨hf1, gFn, lF⟩
    have szF := gather_len (zer [pl]) (L1.map Trm.d) []
    rw [List.length_map, List.length_nil] at szF
    refine ⟨.ref l, rfl, l, _, rfl, .inl ⟨sqlOf hl2, fun tt ntt => ?_⟩⟩
    have s3b := same_new (o := .tup (ms.map V.int)) ntt
    have htt : upd H2 tt (.tup (ms.map V.int)) tt = some (.tup (ms.map V.int)) := upd_same
    generalize upd H2 tt (.tup (ms.map V.int)) = H3b at s3b htt
    refine ⟨.ref d2, rfl, d2, m, _, rfl, dB.same s3b, hm0, by rw [List.length_map]; omega, fun H4b u2 M2 s4b _ hU2 hM2 hMl2 => ?_⟩
    refine ⟨.ref d1, rfl, d1, m, _, rfl, (dF.same s3b).same s4b, hm0, by omega, fun H5b u3 M3 s5b _ hU3 hM3 hMl3 => ?_⟩
    refine ⟨.ref dm, rfl, dm, m, _, rfl, ((hDX.same s3b).same s4b).same s5b, hm0, by omega, fun H6b u4 M4 s6b _ hU4 hM4 hMl4 => ?_⟩
    refine ⟨two_ok4, fun ld nld => ?_⟩
    have s7b := same_new (o := .lst [V.ref tt, .ref u2, .ref u3, .ref u4]) nld
    have hld : upd H6b ld (.lst [V.ref tt, .ref u2, .ref u3, .ref u4]) ld = some (.lst [V.ref tt, .ref u2, .ref u3, .ref u4]) := upd_same
    have htt7 := s7b _ _ (s6b _ _ (s5b _ _ (s4b _ _ htt)))
    have hU27 := hU2.same ((s5b.trans s6b).trans s7b)
    have hU37 := hU3.same (s6b.trans s7b)
    have hU47 := hU4.same s7b
    have s27 := (((s3b.trans s4b).trans s5b).trans s6b).trans s7b
    generalize upd H6b ld (.lst [V.ref tt, .ref u2, .ref u3, .ref u4]) = H7b at *
    have hS7 := hSX.same s27
    have hT7 := hTX.ext s27
    have S7 := SX.same s27
    have hW7 := hWX.same s27
    have hD7 := hDX.same s27
    have hN07 := hN0X.same s27
    clear htt hU2 hU3 hU4 s3b s4b s5b s6b s7b hf1 hf2 dB dF hSX hTX SX hWX hDX hN0X hl2
    dsimp only [tSeq, tAsg, gName, tNext]
    have hcnt : cnt m L1 = m := by
      unfold cnt
      cases L1 with
      | nil => exact absurd rfl hL1ne
      | cons r Lt => rfl
    refine ⟨.ref t1, rfl, t1, m, L1, rfl, hS7, by omega, hm0, by omega, gT, fun H8b p1 ms1 s8 np1 hp1 hI1 => ?_⟩
    rw [hcnt] at hI1
    obtain rfl := hI1.unique hI
    refine ⟨.ref t1, rfl, t1, m, L1, rfl, hS7.same s8, by omega, hm0, by omega, gT, fun H9b p2 ms2 F2 s9 np2 hp2 hI2 hF2 => ?_⟩
    rw [hcnt] at hI2
    obtain rfl := hI2.unique hI
    have s79 := s8.trans s9
    refine ⟨.ref t1, rfl, .int pl, rfl, one1, fun lp nlp => ?_⟩
    have s10 := same_new (o := .lst [V.int pl]) nlp
    have hlp : upd H9b lp (.lst [V.int pl]) lp = some (.lst [V.int pl]) := upd_same
    have s710 := s79.trans s10
    have hp1x := s10 _ _ (s9 _ _ hp1)
    have hp2x := hp2.same s10
    generalize upd H9b lp (.lst [V.int pl]) = Hx at *
    have hSx := hS7.same s710
    refine ⟨t1, lp, m, L1, [pl], rfl, hSx, by omega, hm0, by omega, gT, hlp, by show 1 ≤ 4000; decide, fun p hp => by cases List.mem_singleton.mp hp; exact p40, fun _ p hp => by cases List.mem_singleton.mp hp; exact p41, hT7.ext s710, fun Hy p3 F3 ey tby hp3 hN3 hl3 => ?_⟩
    have e7y : ExtN H7b Hy := (ExtN.of s710).trans ey
    have hSy := hSx.ext ey
    refine ⟨.ref t1, rfl, t1, m, 1, L1, fun i => if i = 0 then [zerosP m] else (L1.map Trm.d).map fun q => q.1, rfl, hSy, by omega, Nat.le_refl _, by decide, hm0, by omega, gT, fun q hq => ⟨Nat.lt_of_lt_of_le (zT.c q hq) (Nat.pow_le_pow_right (by decide) (by decide)), fun x hx => Nat.le_trans (zT.r q hq x hx) (by decide)⟩, List.mem_singleton.mpr rfl, fun j hj x hx q hq => ?_, fun j hj => ?_, fun Hz p4 F4 C4 sz hp4 nC4 lC4 vC4 hC4 hl4 => ?_⟩
    · obtain rfl : j = 0 := by omega
      cases List.mem_singleton.mp hx
      show addP (zerosP m) q.1 ∈ _
      rw [addP_zeros (gT.1 q hq).1]
      exact List.mem_map_of_mem (f := fun q : List Int × Int => q.1) hq
    · show (if j = 0 then [zerosP m] else (L1.map Trm.d).map fun q => q.1).length ≤ 1000
      split
      · show 1 ≤ 1000
        decide
      · rw [List.length_map]
        exact hlT
    have vT : ∀ j, val C4 j = val M j := fun j => by
      by_cases hj : j.length = m
      · rw [vC4 j hj]
        show mulF (val [(zerosP m, 1)]) (L1.map Trm.d) j = _
        rw [mulF_unit (fun q hq => (gT.1 q hq).1) hj, tot_val j (good_nodup gT), norm_val hM nM]
      · rw [val_out lC4 hj, val_out lM hj]
    refine ⟨two_ok4, fun lq nlq => ?_⟩
    have sq := same_new (o := .lst [V.ref p1, .ref p2, .ref p3, .ref p4]) nlq
    have hlq : upd Hz lq (.lst [V.ref p1, .ref p2, .ref p3, .ref p4]) lq = some (.lst [V.ref p1, .ref p2, .ref p3, .ref p4]) := upd_same
    have e7q : ExtN H7b (upd Hz lq (.lst [V.ref p1, .ref p2, .ref p3, .ref p4])) := (e7y.trans (ExtN.of sz)).trans (ExtN.of sq)
    have exq : ExtN Hx (upd Hz lq (.lst [V.ref p1, .ref p2, .ref p3, .ref p4])) := (ey.trans (ExtN.of sz)).trans (ExtN.of sq)
    have hp1q := exq _ _ hp1x (fun _ z => by cases z)
    have hp2q := hp2x.ext exq
    have hp3q := hp3.same (sz.trans sq)
    have hp4q := hp4.same sq
    have tbq := tby.ext (sz.trans sq)
    generalize upd Hz lq (.lst [V.ref p1, .ref p2, .ref p3, .ref p4]) = Hq at *
    have httq := e7q _ _ htt7 (fun _ z => by cases z)
    have hldq := e7q _ _ hld (fun _ z => by cases z)
    have hU2q := hU27.ext e7q
    have hU3q := hU37.ext e7q
    have hU4q := hU47.ext e7q
    have smq : Sm Hq 5 (.ref lq) (.ref ld) := by
      refine sm_lst hlq hldq (by show 4 ≤ 4000; decide) (.cons ?_ (.cons ?_ (.cons ?_ (.cons ?_ .nil))))
      · exact sm_ints (n := 3) hp1q httq (by omega)
      · have eF : F2.map Trm.d = M2.map Trm.d := by
          rw [hF2]
          exact sorted_ext gL.2 hM2.sorted fun q => by rw [hM2.mem]; exact ⟨fun h => ⟨h, (gL.1 q h).2⟩, fun h => h.1⟩
        refine sm_sum (n := 1) hp2q hU2q eF ?_ fun r hr => ?_
        · have := congrArg List.length hF2
          rw [List.length_map, List.length_map, List.length_map] at this
          omega
        · have h9 : r.d ∈ (L1.map Trm.d).map (less ms2) := by rw [← hF2]; exact List.mem_map_of_mem hr
          have h10 : r.ns.length = m := (gL.1 _ h9).1
          omega
      · exact sm_sum' (m := m) (n := 1) hp3q hU3q gFn gFn (fun _ => rfl) hN3 hM3 (by omega) (by omega) lF
      · exact sm_sum' (m := m) (n := 1) hp4q hU4q nC4 nM vT hC4 hM4 (by omega) (by omega) lC4
    refine ⟨.ref ld, rfl, _, _, rfl, smq, fun Hr sr => ⟨true, rfl, iteF ?_⟩⟩
    have e7r := e7q.trans (ExtN.of sr)
    have hSr := hS7.ext e7r
    have Sr := S7.ext e7r
    have hWr := hW7.ext e7r
    have hDr := hD7.ext e7r
    have hN0r := hN07.ext e7r
    clear hS7 S7 hW7 hD7 hN07 smq e7q exq hp1q hp2q hp3q hp4q tbq httq hldq hU2q hU3q hU4q e7r
    dsimp only [tSeq, tAsg, gName, tNext]
    refine ⟨.int (m : Nat), rfl, m, rfl, by omega, by omega, fun ln nln => ?_⟩
    have aln := Sr.fresh nln
    refine lc_range (lo := 0) (n := m) (fun j H' => ∃ xs : List Int, xs.length = j ∧ (∀ y ∈ xs, y = 1 ∨ y = -1) ∧ H' ln = some (.lst (xs.map V.int)) ∧ Stock H' a ca (n + 1 + j) ∧ Keep a ca Hr H') ⟨[], rfl, (fun y h => by cases h), upd_same, Sr.new nln, Keep.new nln⟩ (fun j H' hj h => ?_) (fun H' h => ?_)
    · obtain ⟨xs, hxl, hx, hl, S', k'⟩ := h
      refine ⟨rfl, .ref a, rfl, a, ca, _, 2, rfl, S', by omega, by decide, by decide, fun H3 r3 S3 k3 p30 p31 => ?_⟩
      have sg := sgn_pick p30 p31
      refine ⟨_, _, rfl, rfl, mulS (by decide) (by omega), _, _, rfl, rfl, _, k3 _ _ aln.1 aln.2 hl, by rw [List.length_map, sizeLine_eq]; omega, xs ++ [1 - 2 * r3], by rw [List.length_append, hxl]; rfl, fun y hy => ?_, by rw [upd_same, List.map_append]; rfl, S3.put aln, (k'.trans k3).put nln⟩
      rcases List.mem_append.mp hy with hy | hy
      · exact hx y hy
      · rw [List.mem_singleton.mp hy]
        exact sg
    obtain ⟨xs, hxl, hx, hln, Sn, kn⟩ := h
    refine ⟨_, _, rfl, ?_⟩
    have kt := Sr.keepT kn
    have hSn : SumAt H' t1 L1 := ⟨kt _ _ hSr.at_, hSr.rows.keep kt⟩
    have hN0n : SumAt H' t0 L0 := ⟨kt _ _ hN0r.at_, hN0r.rows.keep kt⟩
    have aw := stock_dict Sr hWr.at_
    have am := stock_dict Sr hDr.at_
    have hWn : DictAt H' dw m W := ⟨kn _ _ aw.1 aw.2 hWr.at_, hWr.nodup, hWr.len⟩
    have hDn : DictAt H' dm m M := ⟨kn _ _ am.1 am.2 hDr.at_, hDr.nodup, hDr.len⟩
    clear hSr Sr hWr hDr hN0r kt aw am kn aln
    dsimp only [tSeq, tAsg, gName, tNext]
    refine ⟨.ref t1, rfl, t1, rfl, ⟨_, hSn.sq⟩, for_it (walk_tup (K := K) (a := t1) (xs := L1.map Trm.v)) (fun i σ H2 => ∃ (y5 y10 y11 : Option V), σ = [some (.ref a), some (.ref dw), some (.int (m : Nat)), some (.ref t1), some (.int pl), y5, some (.ref dm), some (.ref l), some (.ref d1), some (.ref d2), y10, y11, y12, some (.ref ld), some (.ref ln), some (.int (totS xs m ((L1.take i).map Trm.d))), none, none] ∧ Same H' H2)
      ⟨_, _, _, rfl, Same.refl _⟩ (fun i σ H2 _ h => ?_) (fun i x σ H2 H3 hi h hy => ?_) (fun σ H2 h => ?_)⟩
    · obtain ⟨_, _, _, _, s⟩ := h
      exact (hSn.same s).sq
    · obtain ⟨z5, z10, z11, rfl, s2⟩ := h
      obtain ⟨rfl, e1⟩ := hy
      rw [List.getElem?_map] at e1
      obtain ⟨r, hr1, rfl⟩ := Option.map_eq_some_iff.mp e1
      have hrm := List.mem_of_getElem? hr1
      obtain ⟨o1, o2⟩ := (hSn.same s2).rows r hrm
      have hrd : r.d ∈ L1.map Trm.d := List.mem_map_of_mem hrm
      have hrl : r.ns.length = m := (gT.1 r.d hrd).1
      refine ⟨r.t, _, rfl, sqtOf o1, rfl, _, _, rfl, _, _, rfl, rfl, ?_⟩
      refine ⟨.int (m : Nat), rfl, m, rfl, by omega, by omega, for_range (lo := 0) (n := m) (fun j σ Hj => ∃ (y5 : Option V), σ = [some (.ref a), some (.ref dw), some (.int (m : Nat)), some (.ref t1), some (.int pl), y5, some (.ref dm), some (.ref l), some (.ref d1), some (.ref d2), some (.ref r.p), some (.int (r.c * sgP xs r.ns j)), y12, some (.ref ld), some (.ref ln), some (.int (totS xs m ((L1.take i).map Trm.d))), none, none] ∧ Same H3 Hj)
        ⟨z5, by rw [sgP, Int.mul_one]; rfl, Same.refl _⟩ (fun j σ Hj hj h => ?_) (fun σ Hj h => ?_)⟩
      · obtain ⟨y5', rfl, sj⟩ := h
        have hlnj := (s2.trans sj) _ _ hln
        have hatx : atI (xs.map V.int) ((0 : Int) + (j : Nat)) = some (.int (xs.getD j 0)) := by
          rw [Int.zero_add]
          refine atI_nat ?_
          rw [List.getElem?_map, List.getElem?_eq_getElem (by omega), List.getD_eq_getElem?_getD, List.getElem?_eq_getElem (by omega)]
          rfl
        have hatp : atI (r.ns.map V.int) ((0 : Int) + (j : Nat)) = some (.int (r.ns.getD j 0)) := by
          rw [Int.zero_add]
          refine atI_nat ?_
          rw [List.getElem?_map, List.getElem?_eq_getElem (by omega), List.getD_eq_getElem?_getD, List.getElem?_eq_getElem (by omega)]
          rfl
        have hsel : atI [V.int 1, V.int (xs.getD j 0)] ((r.ns.getD j 0).fmod 2) = some (.int (if (r.ns.getD j 0).fmod 2 = 1 then xs.getD j 0 else 1)) := by
          rcases fmod2 (r.ns.getD j 0) with e | e <;> rw [e] <;> rfl
        have hfac : (if (r.ns.getD j 0).fmod 2 = 1 then xs.getD j 0 else 1).natAbs ≤ 1 := by
          split
          · rw [List.getD_eq_getElem?_getD, List.getElem?_eq_getElem (by omega)]
            rcases hx _ (List.getElem_mem (l := xs) (n := j) (by omega)) with e | e
            · show (xs[j]).natAbs ≤ 1
              rw [e]
              decide
            · show (xs[j]).natAbs ≤ 1
              rw [e]
              decide
          · decide
        have hnum : (r.c * sgP xs r.ns j).natAbs < 2 ^ 198 := by
          rw [Int.natAbs_mul, sgP_abs hx (by omega), Nat.mul_one]
          exact zT.c r.d hrd
        refine ⟨_, rfl, .ref ln, rfl, .int ((0 : Int) + (j : Nat)), rfl, ln, _, _, _, rfl, rfl, sqlOf hlnj, hatx, two_ok, fun lz nlz => ?_⟩
        have sz2 := same_new (o := .lst [V.int 1, .int (xs.getD j 0)]) nlz
        have hlz : upd Hj lz (.lst [V.int 1, .int (xs.getD j 0)]) lz = some (.lst [V.int 1, .int (xs.getD j 0)]) := upd_same
        generalize upd Hj lz (.lst [V.int 1, .int (xs.getD j 0)]) = Hk at sz2 hlz
        refine ⟨.ref r.p, rfl, .int ((0 : Int) + (j : Nat)), rfl, r.p, _, _, _, rfl, rfl, sqtOf (sz2 _ _ (sj _ _ o2)), hatp, .inl ⟨_, rfl, _, _, rfl, rfl, (by decide : (2 : Int) ≠ 0), lz, _, _, _, rfl, rfl, sqlOf hlz, hsel, _, _, rfl, rfl, mulx (a := 198) (b := 10) hnum (by omega) (by decide), some (.int ((0 : Int) + (j : Nat))), ?_, sj.trans sz2⟩⟩
        rw [sgP, ← Int.mul_assoc]
        rfl
      · obtain ⟨y5', rfl, sj⟩ := h
        dsimp only [tSeq, tAsg, gName, tNext]
        have eT : totS xs m ((L1.take (i + 1)).map Trm.d) = totS xs m ((L1.take i).map Trm.d) + r.c * sgP xs r.ns m := by
          rw [List.take_add_one, hr1, List.map_append]
          exact totS_snoc xs m r.d _
        rw [eT]
        exact ⟨_, rfl, _, rfl, _, _, rfl, rfl, y5', some (.ref r.p), some (.int (r.c * sgP xs r.ns m)), rfl, s2.trans sj⟩
    obtain ⟨z5, z10, z11, rfl, s2⟩ := h
    rw [List.length_map, List.take_length]
    have hS2 := hSn.same s2
    have hln2 := s2 _ _ hln
    have hW2 := hWn.same s2
    have hD2 := hDn.same s2
    clear hSn hln hWn hDn hN0n Sn
    dsimp only [tSeq, tAsg, gName, tNext]
    -- value and plus
    have hbT : Bnds (L1.map Trm.d) := ⟨fun q hq => ⟨Nat.lt_of_lt_of_le (zT.c q hq) (Nat.pow_le_pow_right (by decide) (by decide)), fun v hv => by have := zT.r q hq v hv; omega⟩⟩
    refine ⟨.ref t1, rfl, .ref ln, rfl, t1, ln, m, L1, xs, rfl, hS2, by omega, gT, hm0, by omega, hln2, fun _ => hxl, fun y hy => by rcases hx y hy with e | e <;> rw [e] <;> decide, hbT, fun _ _ _ z => absurd z hL1ne, fun Hv zv av bv msv sv _ hIv hlow hzv => ?_⟩
    obtain ⟨eav, ebv⟩ := value_one (fun q hq => (gT.1 q hq).1) hxl hx hIv hlow
    subst eav ebv
    refine ⟨.ref t1, rfl, Nat.zero_le _, fun pe npe => ?_⟩
    have spe := same_new (o := .tup []) npe
    have hpe : upd Hv pe (.tup []) pe = some (.tup []) := upd_same
    have hSv := hS2.same (sv.trans spe)
    have hzv2 := spe _ _ hzv
    have s2v := sv.trans spe
    generalize upd Hv pe (.tup []) = Hv2 at *
    refine ⟨t1, pe, m, L1, [], rfl, hSv, ⟨hpe, fun r h => by cases h⟩, by omega, by show 0 ≤ 2000; decide, hm0, gT, ⟨(fun q h => by cases h), .nil⟩, fun Hw pw Nw sw hpw hNw hlw => ?_⟩
    refine ⟨two_ok, fun lv nlv => ?_⟩
    have slv := same_new (o := .lst [V.ref zv, .ref pw]) nlv
    have hlv : upd Hw lv (.lst [V.ref zv, .ref pw]) lv = some (.lst [V.ref zv, .ref pw]) := upd_same
    have hzw := slv _ _ (sw _ _ hzv2)
    have hpw2 := hpw.same slv
    have s2w := (s2v.trans sw).trans slv
    generalize upd Hw lv (.lst [V.ref zv, .ref pw]) = Hw2 at *
    refine ⟨.int _, rfl, two_ok, fun tp ntp => ?_⟩
    refine ⟨.ref t1, rfl, two_ok, fun lu nlu => ?_⟩
    have stp := same_new (o := .tup [V.int (totS xs m (L1.map Trm.d)), .int 1]) ntp
    have slu := same_new (o := .lst [V.ref tp, .ref t1]) nlu
    have htp := slu _ _ (upd_same : upd Hw2 tp (.tup [V.int (totS xs m (L1.map Trm.d)), .int 1]) tp = _)
    have hlu : upd (upd Hw2 tp (.tup [V.int (totS xs m (L1.map Trm.d)), .int 1])) lu (.lst [V.ref tp, .ref t1]) lu = some (.lst [V.ref tp, .ref t1]) := upd_same
    have sxu := stp.trans slu
    have hlvu := sxu _ _ hlv
    have hzu := sxu _ _ hzw
    have hpu := hpw2.same sxu
    have s2u := s2w.trans sxu
    have hSu := hS2.same s2u
    generalize upd (upd Hw2 tp (.tup [V.int (totS xs m (L1.map Trm.d)), .int 1])) lu (.lst [V.ref tp, .ref t1]) = Hu at *
    have nT := good_nodup gT
    have smv : Sm Hu 5 (.ref lv) (.ref lu) := by
      refine sm_lst hlvu hlu (by show 2 ≤ 4000; decide) (.cons ?_ (.cons ?_ .nil))
      · refine .tup hzu htp rfl (by show 2 ≤ 4000; decide) fun j x y e1 e2 => ?_
        rcases j with _ | _ | j
        · cases e1; cases e2; exact .int _
        · cases e1; cases e2; exact .int _
        · cases e1
      · refine sm_sum' (m := m) (n := 1) hpu hSu (addT_nodup _ _) nT (fun j => ?_) hNw (norm_self gT) (by rw [List.length_nil] at hlw; omega) (by omega) (addT_lens (fun q hq => (gT.1 q hq).1) fun q h => by cases h)
        rw [List.map_nil, addT_val nT (show NodupK [] from List.nodup_nil)]
        show _ + 0 = _
        rw [Int.add_zero]
    refine ⟨_, _, rfl, smv, fun Hc2 sc2 => ⟨true, rfl, iteF ?_⟩⟩
    have s2c := s2u.trans sc2
    dsimp only [tSeq, tAsg, gName, tNext]
    -- once more a sum
    refine ⟨.ref t1, rfl, .ref dw, rfl, dw, m, W, rfl, hW2.same s2c, hm0, by omega, fun Hd2 tw Lw sd2 _ hSw hNw2 hlw2 => ?_⟩
    have gW := hNw2.good hW2.len
    have hSd := (hS2.same s2c).same sd2
    refine ⟨t1, tw, m, L1, Lw, rfl, hSd, hSw, by omega, by omega, hm0, gT, gW, fun He2 pz Nz se2 hpz hNz hlz => ?_⟩
    have s2e := (s2c.trans sd2).trans se2
    refine ⟨.ref dm, rfl, .ref dw, rfl, dm, dw, m, M, W, rfl, hD2.same s2e, hW2.same s2e, by omega, fun Hf2 e sf2 _ hE2 => ?_⟩
    refine tNil_ap ?_
    refine ⟨e, m, _, rfl, hE2, hm0, by have := addT_size (A := M) (B := W); omega, fun Hg2 ug Ng sg2 _ hUg hNg hlg => ?_⟩
    refine ⟨_, _, rfl, ?_, fun Hh sh => q Hh⟩
    exact sm_sum' (m := m) (n := 2) (hpz.same (sf2.trans sg2)) hUg (addT_nodup _ _) (addT_nodup _ _) (norm_add hM hNw2 nM hW2.nodup) hNz hNg (by omega) (by omega) (addT_lens (fun q hq => (gT.1 q hq).1) fun q hq => (gW.1 q hq).1)
end
end NH
set_option Elab.async false
set_option linter.all false
set_option maxRecDepth 100000
set_option maxHeartbeats 1000000
set_option exponentiation.threshold 100000
namespace NH
open PySem PySem.Spec PyProof.Rows L2 R1 ZN PK RS DCT LamX
section
variable {P : Program} {w : World} {K : PySem.W.Frag} {mg : Str → Option Value} {base : Heap} {f : Nat → Addr} {d : Nat → FuncData}
theorem Sz.mulL {m : Nat} {A B : Ts} {α β R S k : Nat} (hA : Sz A α R) (hB : Sz B β S) (nA : NodupK A) (lA : ∀ q ∈ A, q.1.length = m) (lB : ∀ q ∈ B, q.1.length = m) (hn : B.length < 2 ^ k) : Sz (mulT A B) (α + β + k) (R + S) := by
  refine ⟨fun q hq => ?_, fun q hq x hx => ?_⟩
  · have hql := mulT_len lA lB q hq
    rw [← val_mem2 (mulT_nodup A B) hq, mulT_val nA lA lB hql]
    have h1 := mulF_small (fun k => val_lt nA hA.c k) q.1 hB.c
    have h2 : B.length * 2 ^ (α + β) < 2 ^ k * 2 ^ (α + β) := Nat.mul_lt_mul_of_pos_right hn (Nat.pow_pos (by decide))
    rw [← Nat.pow_add, Nat.add_comm k] at h2
    exact Nat.lt_of_le_of_lt h1 h2
  · obtain ⟨a, ha, b, hb, e⟩ := mulT_keys hq
    rw [e] at hx
    exact addP_mem (hA.r a ha) (hB.r b hb) hx
theorem seven_ok {a b c e f g h : V} : [a, b, c, e, f, g, h].length ≤ sizeLine := by rw [sizeLine_eq]; show 7 ≤ _; decide
theorem pick7 {L : Nat} (h : L ≤ 6) : atI [V.int 12, .int 12, .int 12, .int 12, .int 12, .int 8, .int 6] (if (L : Int) < 6 then (L : Int) else 6) = some (.int (topP L : Nat)) := by
  match L, h with
  | 0, _ | 1, _ | 2, _ | 3, _ | 4, _ | 5, _ | 6, _ => rfl
  | n + 7, h => omega
theorem min_top {r : Int} {k : Nat} (h0 : 0 ≤ r) : ∃ n : Nat, (if ((topP k : Nat) : Int) < 1 + r then ((topP k : Nat) : Int) else 1 + r) = (n : Nat) ∧ 1 ≤ n ∧ n ≤ topP k := by
  have h6 : 6 ≤ topP k := by
    unfold topP
    split
    · omega
    · split <;> omega
  refine ⟨(if ((topP k : Nat) : Int) < 1 + r then ((topP k : Nat) : Int) else 1 + r).toNat, ?_⟩
  split <;> refine ⟨?_, ?_, ?_⟩ <;> omega
def spLaw (K : PySem.W.Frag) (Pt : Addr) : Sp := fun vs H Q _ => ∃ (a : Addr) (ns : List Int), vs = [.ref a] ∧ SqL K H a (ns.map V.int) ∧ ns.length ≤ 63 ∧ Tabs (T5 Pt) H ∧ ∀ H', Q (.bl true) H'
theorem ok_law {fA c Pt : Addr} {fd : FuncData} (F : Fun K "law" "law" s_law fA fd) (D : Defs K mg f d) (gG : mg "gcd" = some (.builtin "math.gcd")) (hMT : ∃ u, mg "MOST_TIMES" = some u ∧ RelV (.int 12) u) (hc : (d i_without_letters).code = .ref c) (TB : TabB base mg c Pt) : FnOk P w K mg base CX0 13 fA fd ["_law_script"] (spLaw K Pt) := by
  have G__law_stock : FnOk P w K mg base CX0 12 (f i__law_stock) (d i__law_stock) ["_law_script"] (spStock K) := (ok_stock (k := 0) D.F__law_stock D.z_int).mono (by omega)
  have G__law_pick : FnOk P w K mg base CX0 12 (f i__law_pick) (d i__law_pick) ["_law_stock_here", "_law_limit"] spPick := (ok_pick (k := 0) D.F__law_pick D.z_int).mono (by omega)
  have G__law_terms : FnOk P w K mg base CX0 12 (f i__law_terms) (d i__law_terms) ["_law_stock_here", "_law_many", "_law_most", "_law_span", "_law_great"] spTerms := (ok_terms (k := 0) D.F__law_terms D.F__law_pick D.b__law_pick D.g__law_pick D.F__law_wide D.b__law_wide D.g__law_wide D.z_int D.z_range D.z_tuple).mono (by omega)
  have G__law_two : FnOk P w K mg base CX0 12 (f i__law_two) (d i__law_two) ["_law_stock_here", "_law_many"] spTwo := (ok_two (k := 0) D).mono (by omega)
  have G__law_long : FnOk P w K mg base CX0 12 (f i__law_long) (d i__law_long) ["_law_stock_here", "_law_many", "_law_count"] spLong := (ok_long (k := 0) D).mono (by omega)
  have G__law_written : FnOk P w K mg base CX0 12 (f i__law_written) (d i__law_written) ["_law_terms_here"] spWritten := (ok_written (k := 0) D.F__law_written D.z_tuple D.z_sorted).mono (by omega)
  have G__law_plus : FnOk P w K mg base CX0 12 (f i__law_plus) (d i__law_plus) ["_law_one", "_law_other"] spPlus := (ok_plus (k := 0) D).mono (by omega)
  have G__law_times : FnOk P w K mg base CX0 12 (f i__law_times) (d i__law_times) ["_law_one", "_law_other"] spLTimes := (ok_ltimes (k := 0) D).mono (by omega)
  have G_plus : FnOk P w K mg base CX0 12 (f i_plus) (d i_plus) ["one", "other"] spPlusP := (ok_plusP (k := 0) D).mono (by omega)
  have G_times : FnOk P w K mg base CX0 12 (f i_times) (d i_times) ["one", "other"] spTimesP := (ok_timesP (k := 0) D).mono (by omega)
  have G__law_is_right : FnOk P w K mg base CX0 12 (f i__law_is_right) (d i__law_is_right) ["_law_first", "_law_second"] spIsRight := (ok_isRight (k := 0) D).mono (by omega)
  have G__law_is_power : FnOk P w K mg base CX0 12 (f i__law_is_power) (d i__law_is_power) ["_law_one", "_law_terms_here", "_law_most"] spIsPower := (ok_isPower (k := 0) D hMT).mono (by omega)
  have G__law_goes_on : FnOk P w K mg base CX0 12 (f i__law_goes_on) (d i__law_goes_on) ["_law_stock_here", "_law_whole", "_law_many"] (spGoesOn Pt) := ok_goesOn (k := 0) D gG hMT hc TB
  have G__law_same : FnOk P w K mg base CX0 12 (f i__law_same) (d i__law_same) ["_law_told", "_law_due"] (spSame 6) := (ok_same (k := 0) D.F__law_same D.b__law_same D.g__law_same D.z_isinstance D.z_bool D.z_int D.z_str D.z_list D.z_tuple D.z_len D.z_zip 6).mono (by omega)
  refine F.ok sc_law (fun vs H Q E h => ?_) (fun cdv A outer s H vs Q E hr h => ?_)
  · obtain ⟨a, ns, rfl, _⟩ := h
    rfl
  · obtain ⟨sc, ns, rfl, hsc, hns, hTb, q⟩ := h
    have nd := sc_law.nd
    have hu := hu_of hr
    refine ⟨_, pss_cons (ps_set (i := 1) nd rfl (.inr rfl) (pe_call G__law_stock hr (by rfl) D.g__law_stock D.F__law_stock.kp D.b__law_stock .nil pass0 (pa_cons (pv 0) pa_nil)))
      (pss_cons (ps_for PassesOwn.never rfl (pi_range1 (by rfl) D.z_range (pa_cons pe_int pa_nil)) (pg_name (i := 2) nd rfl (.inl rfl))
        (pss_cons (ps_set (i := 3) nd rfl (.inl rfl) (pe_op op_add pe_int (pe_call G__law_pick hr (by rfl) D.g__law_pick D.F__law_pick.kp D.b__law_pick .nil pass0 (pa_cons (pv 1) (pa_cons pe_int pa_nil)))))
          (pss_cons (ps_asg (pe_call G__law_two hr (by rfl) D.g__law_two D.F__law_two.kp D.b__law_two .nil pass0 (pa_cons (pv 1) (pa_cons (pv 3) pa_nil))) (pg_tup rfl (pgs_cons (pg_name (i := 4) nd rfl (.inl rfl)) (pgs_cons (pg_name (i := 5) nd rfl (.inl rfl)) pgs_nil))))
          (pss_cons (ps_for PassesOwn.never rfl (pi_list (pe_lst (pa_cons (pe_tup (pa_cons (pv 4) (pa_cons (pv 5) pa_nil))) (pa_cons (pe_tup (pa_cons (pv 4) (pa_cons (pv 4) pa_nil))) (pa_cons (pe_tup (pa_cons pe_dnewT (pa_cons (pv 5) pa_nil))) (pa_cons (pe_tup (pa_cons (pv 5) (pa_cons (pe_disp1T hu (pe_callTy call_tuple_of (by rfl) D.z_tuple (by decide +kernel) (pa_cons (pe_op op_rep (pe_lst (pa_cons pe_int pa_nil)) (pv 3)) pa_nil)) pe_int) pa_nil))) pa_nil)))))) (pg_tup rfl (pgs_cons (pg_name (i := 6) nd rfl (.inl rfl)) (pgs_cons (pg_name (i := 7) nd rfl (.inl rfl)) pgs_nil)))
            (pss_one (ps_if (pt_not (pt_val (pe_call G__law_is_right hr (by rfl) D.g__law_is_right D.F__law_is_right.kp D.b__law_is_right .nil pass0 (pa_cons (pv 6) (pa_cons (pv 7) pa_nil)))))
                (pss_one (ps_ret (pe_bl)))
                pss_nil)))
          (pss_cons (ps_set (i := 8) nd rfl (.inl rfl) (pe_callB (call_min2 rfl) (by rfl) D.z_min (by decide +kernel) (pa_cons (pe_op op_add pe_int (pe_call G__law_pick hr (by rfl) D.g__law_pick D.F__law_pick.kp D.b__law_pick .nil pass0 (pa_cons (pv 1) (pa_cons pe_int pa_nil)))) (pa_cons (pe_ix ix_list (pe_lst (pa_cons pe_int (pa_cons pe_int (pa_cons pe_int (pa_cons pe_int (pa_cons pe_int (pa_cons pe_int (pa_cons pe_int pa_nil)))))))) (pe_callB (call_min2 rfl) (by rfl) D.z_min (by decide +kernel) (pa_cons pe_int (pa_cons (pe_callB call_len_dT (by rfl) D.z_len PySem.boot_len (pa_cons (pv 4) pa_nil)) pa_nil))) (fun _ _ => rfl)) pa_nil))))
          (pss_one (ps_if (pt_not (pt_val (pe_call G__law_is_power hr (by rfl) D.g__law_is_power D.F__law_is_power.kp D.b__law_is_power .nil pass0 (pa_cons (pe_call G__law_written hr (by rfl) D.g__law_written D.F__law_written.kp D.b__law_written .nil pass0 (pa_cons (pv 4) pa_nil)) (pa_cons (pv 4) (pa_cons (pv 8) pa_nil))))))
            (pss_one (ps_ret (pe_bl)))
            pss_nil)))))))
      (pss_cons (ps_set (i := 3) nd rfl (.inl rfl) (pe_op op_add pe_int (pe_call G__law_pick hr (by rfl) D.g__law_pick D.F__law_pick.kp D.b__law_pick .nil pass0 (pa_cons (pv 1) (pa_cons pe_int pa_nil)))))
      (pss_cons (ps_set (i := 4) nd rfl (.inl rfl) (pe_call G__law_long hr (by rfl) D.g__law_long D.F__law_long.kp D.b__law_long .nil pass0 (pa_cons (pv 1) (pa_cons (pv 3) (pa_cons pe_int pa_nil)))))
      (pss_cons (ps_set (i := 5) nd rfl (.inl rfl) (pe_call G__law_long hr (by rfl) D.g__law_long D.F__law_long.kp D.b__law_long .nil pass0 (pa_cons (pv 1) (pa_cons (pv 3) (pa_cons (pe_op op_sub pe_int (pe_call G__law_pick hr (by rfl) D.g__law_pick D.F__law_pick.kp D.b__law_pick .nil pass0 (pa_cons (pv 1) (pa_cons pe_int pa_nil)))) pa_nil)))))
      (pss_cons (ps_par (i := 6) (j := 7) (by rfl) nd rfl rfl (by decide) rfl rfl (pa_cons (pe_call G__law_written hr (by rfl) D.g__law_written D.F__law_written.kp D.b__law_written .nil pass0 (pa_cons (pv 4) pa_nil)) (pa_cons (pe_call G__law_written hr (by rfl) D.g__law_written D.F__law_written.kp D.b__law_written .nil pass0 (pa_cons (pv 5) pa_nil)) pa_nil)) (by rfl))
      (pss_cons (ps_if (pt_not (pt_val (pe_call G__law_same hr (by rfl) D.g__law_same D.F__law_same.kp D.b__law_same .nil pass0 (pa_cons (pe_call G_plus hr (by rfl) D.g_plus D.F_plus.kp D.b_plus .nil pass0 (pa_cons (pv 6) (pa_cons (pv 7) pa_nil))) (pa_cons (pe_call G__law_written hr (by rfl) D.g__law_written D.F__law_written.kp D.b__law_written .nil pass0 (pa_cons (pe_call G__law_plus hr (by rfl) D.g__law_plus D.F__law_plus.kp D.b__law_plus .nil pass0 (pa_cons (pv 4) (pa_cons (pv 5) pa_nil))) pa_nil)) pa_nil)))))
        (pss_one (ps_ret (pe_bl)))
        pss_nil)
      (pss_cons (ps_set (i := 9) nd rfl (.inl rfl) (pe_call G__law_terms hr (by rfl) D.g__law_terms D.F__law_terms.kp D.b__law_terms .nil pass0 (pa_cons (pv 1) (pa_cons (pv 3) (pa_cons pe_int (pa_cons pe_int (pa_cons (pe_op op_sub (pe_op op_powX pe_int pe_int) pe_int) pa_nil)))))))
      (pss_cons (ps_dput hu (pv 9) (pe_callTy call_tuple_of (by rfl) D.z_tuple (by decide +kernel) (pa_cons (pe_lc (own := [("_law_j", 11)]) (g := gName 11) (by rfl) nd (pi_range1 (by rfl) D.z_range (pa_cons (pv 3) pa_nil)) (blkOk_by (own := [("_law_j", 11)]) (N := N_law) (sc := defScope s_law) (by decide +kernel))
          (fun _ _ _ _ _ => pg_name (i := 11) nd rfl (.inl rfl)) (fun _ _ _ _ _ => pts_nil) (fun _ _ _ _ _ => pe_op op_add pe_int (pe_call G__law_pick hr (by rfl) D.g__law_pick D.F__law_pick.kp D.b__law_pick .nil pass0 (pa_cons (pv 1) (pa_cons pe_int pa_nil))))) pa_nil)) pe_int rfl)
      (pss_cons (ps_set (i := 10) nd rfl (.inl rfl) (pe_call G__law_times hr (by rfl) D.g__law_times D.F__law_times.kp D.b__law_times .nil pass0 (pa_cons (pv 4) (pa_cons (pv 9) pa_nil))))
      (pss_cons (ps_if (pt_not (pt_val (pe_call G__law_same hr (by rfl) D.g__law_same D.F__law_same.kp D.b__law_same .nil pass0 (pa_cons (pe_call G_times hr (by rfl) D.g_times D.F_times.kp D.b_times .nil pass0 (pa_cons (pv 6) (pa_cons (pe_call G__law_written hr (by rfl) D.g__law_written D.F__law_written.kp D.b__law_written .nil pass0 (pa_cons (pv 9) pa_nil)) pa_nil))) (pa_cons (pe_call G__law_written hr (by rfl) D.g__law_written D.F__law_written.kp D.b__law_written .nil pass0 (pa_cons (pv 10) pa_nil)) pa_nil)))))
        (pss_one (ps_ret (pe_bl)))
        pss_nil)
      (pss_one (ps_ret (pe_call G__law_goes_on hr (by rfl) D.g__law_goes_on D.F__law_goes_on.kp D.b__law_goes_on .nil pass0 (pa_cons (pv 1) (pa_cons (pv 10) (pa_cons (pv 3) pa_nil)))))))))))))))), ?_⟩
    refine ⟨.ref sc, rfl, sc, ns, rfl, hsc, hns, fun H1 a ca S1 sm1 => ?_⟩
    have hT1 := hTb.ext sm1
    dsimp only [tSeq, tAsg, gName, tNext]
    refine ⟨6, rfl, by decide, by decide, for_range (n := 6) (fun i σ H' => ∃ y2 y3 y4 y5 y6 y7 y8, σ = [some (.ref sc), some (.ref a), y2, y3, y4, y5, y6, y7, y8, none, none, none] ∧ Stock H' a ca (600 * i) ∧ Keep a ca H1 H')
      ⟨none, none, none, none, none, none, none, rfl, S1, Keep.refl⟩ (fun i σ H2 hi h => ?_) (fun σ H2 h => ?_)⟩
    · obtain ⟨y2, y3, y4, y5, y6, y7, y8, rfl, S2, k2⟩ := h
      refine ⟨.ref a, rfl, a, ca, _, 5, rfl, S2, by omega, by decide, by decide, fun H3 r3 S3 k3 p30 p31 => ?_⟩
      refine ⟨_, _, rfl, rfl, ?_⟩
      obtain ⟨m, hm⟩ : ∃ m : Nat, (1 + r3 : Int) = m := ⟨(1 + r3).toNat, by omega⟩
      dsimp only
      rw [hm]
      dsimp only [tSeq, tAsg, gName, tNext]
      refine ⟨.ref a, rfl, .int (m : Nat), rfl, a, ca, _, m, rfl, S3, by omega, by omega, by omega, fun H4 z e1 e2 D1 D2 S4 k4 hz hD1 hD2 oD1 lD2 z2 => ?_⟩
      refine ⟨z, _, rfl, sqtOf hz, rfl, _, _, rfl, _, _, rfl, rfl, ?_⟩
      dsimp only [tSeq, tAsg, gName, tNext]
      have k04 := (k2.trans k3).trans k4
      -- the four pairs
      refine ⟨.ref e1, rfl, .ref e2, rfl, two_ok, fun p1 np1 => ⟨.ref e1, rfl, .ref e1, rfl, two_ok, fun p2 np2 => fun u0 nu0 => ⟨.ref e2, rfl, two_ok, fun p3 np3 => ⟨.ref e2, rfl, fun u1 nu1 => ?_⟩⟩⟩⟩
      have t1 := same_new (o := .tup [V.ref e1, .ref e2]) np1
      have t2 := same_new (o := .tup [V.ref e1, .ref e1]) np2
      have t3 := same_new (o := .dT []) nu0
      have t4 := same_new (o := .tup [V.ref u0, .ref e2]) np3
      have t5 := same_new (o := .dT []) nu1
      have hp1 := t4 _ _ (t3 _ _ (t2 _ _ (upd_same : upd H4 p1 (.tup [V.ref e1, .ref e2]) p1 = _)))
      have hp2 := t4 _ _ (t3 _ _ (upd_same : upd (upd H4 p1 (.tup [V.ref e1, .ref e2])) p2 (.tup [V.ref e1, .ref e1]) p2 = _))
      have hu0 := t4 _ _ (upd_same : upd (upd (upd H4 p1 (.tup [V.ref e1, .ref e2])) p2 (.tup [V.ref e1, .ref e1])) u0 (.dT []) u0 = _)
      have hp3 : upd (upd (upd (upd H4 p1 (.tup [V.ref e1, .ref e2])) p2 (.tup [V.ref e1, .ref e1])) u0 (.dT [])) p3 (.tup [V.ref u0, .ref e2]) p3 = _ := upd_same
      have u1p1 := ne_of_none hp1 nu1
      have u1p2 := ne_of_none hp2 nu1
      have u1p3 := ne_of_none hp3 nu1
      have u1u0 := ne_of_none hu0 nu1
      replace hp1 := t5 _ _ hp1
      replace hp2 := t5 _ _ hp2
      replace hu0 := t5 _ _ hu0
      replace hp3 := t5 _ _ hp3
      have hu1 : upd (upd (upd (upd (upd H4 p1 (.tup [V.ref e1, .ref e2])) p2 (.tup [V.ref e1, .ref e1])) u0 (.dT [])) p3 (.tup [V.ref u0, .ref e2])) u1 (.dT []) u1 = some (.dT []) := upd_same
      have s45 := (((t1.trans t2).trans t3).trans t4).trans t5
      have n1 : H4 u1 = none := (((t1.trans t2).trans t3).trans t4).free nu1
      generalize upd (upd (upd (upd (upd H4 p1 (.tup [V.ref e1, .ref e2])) p2 (.tup [V.ref e1, .ref e1])) u0 (.dT [])) p3 (.tup [V.ref u0, .ref e2])) u1 (.dT []) = H5 at hp1 hp2 hu0 hp3 hu1 s45
      clear t1 t2 t3 t4 t5
      refine ⟨one1, fun l nl => ⟨.int (m : Nat), rfl, l, m, [.int 0], rfl, rfl, upd_same, by omega, by omega, by rw [sizeLine_eq]; show 1 * (m : Int).toNat ≤ _; omega, fun l2 nl2 => ?_⟩⟩
      rw [flat_rep]
      have s6 := same_new (o := .lst [V.int 0]) nl
      have s7 := same_new (o := .lst ((List.replicate m 0).map V.int)) nl2
      refine ⟨l2, _, rfl, .inl ⟨sqlOf upd_same, fun t nt => ?_⟩⟩
      have s8 := same_new (o := .tup ((List.replicate m 0).map V.int)) nt
      have s58 := (s6.trans s7).trans s8
      have ht : upd (upd (upd H5 l (.lst [V.int 0])) l2 (.lst ((List.replicate m 0).map V.int))) t (.tup ((List.replicate m 0).map V.int)) t = some (.tup ((List.replicate m 0).map V.int)) := upd_same
      generalize upd (upd (upd H5 l (.lst [V.int 0])) l2 (.lst ((List.replicate m 0).map V.int))) t (.tup ((List.replicate m 0).map V.int)) = H8 at s58 ht
      refine ⟨[], (zerosP m).map Sum.inl, t, rfl, by rw [map_kV]; exact ht, s58 _ _ hu1, by rw [sizeLine_eq]; decide, ?_⟩
      have s49 : Same H4 (upd H8 u1 (.dT (putK [] ((zerosP m).map Sum.inl) (.int 1)))) := fun b o eb => by
        rw [upd_ne (ne_of_none eb n1)]
        exact s58 _ _ (s45 _ _ eb)
      have hp1' : upd H8 u1 (.dT (putK [] ((zerosP m).map Sum.inl) (.int 1))) p1 = _ := (upd_ne u1p1).trans (s58 _ _ hp1)
      have hp2' : upd H8 u1 (.dT (putK [] ((zerosP m).map Sum.inl) (.int 1))) p2 = _ := (upd_ne u1p2).trans (s58 _ _ hp2)
      have hp3' : upd H8 u1 (.dT (putK [] ((zerosP m).map Sum.inl) (.int 1))) p3 = _ := (upd_ne u1p3).trans (s58 _ _ hp3)
      have hu0' : upd H8 u1 (.dT (putK [] ((zerosP m).map Sum.inl) (.int 1))) u0 = _ := (upd_ne u1u0).trans (s58 _ _ hu0)
      have hU : upd H8 u1 (.dT (putK [] ((zerosP m).map Sum.inl) (.int 1))) u1 = some (dZ [(zerosP m, 1)]) := upd_same
      generalize upd H8 u1 (.dT (putK [] ((zerosP m).map Sum.inl) (.int 1))) = H9 at s49 hp1' hp2' hp3' hu0' hU
      clear s58 ht s6 s7 s8 hp1 hp2 hp3 hu0 hu1 s45 nu1 n1 u1p1 u1p2 u1p3 u1u0
      refine ⟨two_ok, fun p4 np4 => ⟨two_ok4, fun lq nlq => ?_⟩⟩
      have s10 := same_new (o := .tup [V.ref e2, .ref u1]) np4
      have s11 := same_new (o := .lst [V.ref p1, .ref p2, .ref p3, .ref p4]) nlq
      have hp4 := s11 _ _ (upd_same : upd H9 p4 (.tup [V.ref e2, .ref u1]) p4 = _)
      have hlq : upd (upd H9 p4 (.tup [V.ref e2, .ref u1])) lq (.lst [V.ref p1, .ref p2, .ref p3, .ref p4]) lq = some (.lst [V.ref p1, .ref p2, .ref p3, .ref p4]) := upd_same
      have s9c := s10.trans s11
      have g1 := s9c _ _ hp1'
      have g2 := s9c _ _ hp2'
      have g3 := s9c _ _ hp3'
      have g0 := s9c _ _ hu0'
      have gU := s9c _ _ hU
      have s4c := s49.trans s9c
      generalize upd (upd H9 p4 (.tup [V.ref e2, .ref u1])) lq (.lst [V.ref p1, .ref p2, .ref p3, .ref p4]) = Hc at *
      clear s9c s10 s11 hp1' hp2' hp3' hu0' hU s49 np4 nlq
      have d1 := hD1.same s4c
      have d2 := hD2.same s4c
      have z1 : Sz D1 200 1000 := oD1.sz.more (by decide) (by decide)
      have f1 := oD1.few
      have d0 : DictAt Hc u0 m [] := ⟨g0, List.nodup_nil, fun q h => by cases h⟩
      have dU : DictAt Hc u1 m [(zerosP m, 1)] := ⟨gU, List.nodup_cons.mpr ⟨by simp, List.nodup_nil⟩, fun q hq => by cases List.mem_singleton.mp hq; exact List.length_replicate ..⟩
      have zU : Sz [(zerosP m, (1 : Int))] 200 1000 := ⟨fun q hq => by cases List.mem_singleton.mp hq; exact Nat.one_lt_two_pow (by decide), fun q hq x hx => by
        cases List.mem_singleton.mp hq
        have := List.eq_of_mem_replicate hx
        subst this
        decide⟩
      have z0 : Sz ([] : Ts) 200 1000 := ⟨fun q h => (by cases h), fun q h => (by cases h)⟩
      have hrow : ∀ {j : Nat} {x : V}, [V.ref p1, .ref p2, .ref p3, .ref p4][j]? = some x → ∃ (p ea eb : Addr) (Da Db : Ts), x = .ref p ∧ Hc p = some (.tup [.ref ea, .ref eb]) ∧ DictAt Hc ea m Da ∧ DictAt Hc eb m Db ∧ Da.length ≤ 20 ∧ Db.length ≤ 20 ∧ Sz Da 200 1000 ∧ Sz Db 200 1000 := fun {j x} hx => by
        match j, hx with
        | 0, hx => cases hx; exact ⟨p1, e1, e2, D1, D2, rfl, g1, d1, d2, by omega, lD2, z1, z2⟩
        | 1, hx => cases hx; exact ⟨p2, e1, e1, D1, D1, rfl, g2, d1, d1, by omega, by omega, z1, z1⟩
        | 2, hx => cases hx; exact ⟨p3, u0, e2, [], D2, rfl, g3, d0, d2, by decide, lD2, z0, z2⟩
        | 3, hx => cases hx; exact ⟨p4, e2, u1, D2, _, rfl, hp4, d2, dU, lD2, by show 1 ≤ 20; decide, z2, zU⟩
        | j + 4, hx => simp at hx
      refine ⟨lq, rfl, ⟨_, sqlOf hlq⟩, for_list (xs := [V.ref p1, .ref p2, .ref p3, .ref p4]) (fun j σ H' => ∃ y6 y7, σ = [some (.ref sc), some (.ref a), some (.int ((0 : Int) + (i : Nat))), some (.int (m : Nat)), some (.ref e1), some (.ref e2), y6, y7, y8, none, none, none] ∧ Same Hc H')
        ⟨y6, y7, rfl, Same.refl _⟩ (fun j σ H' _ h => ?_) (fun j x σ H' hx h => ?_) (fun σ H' h => ?_)⟩
      · obtain ⟨_, _, _, s⟩ := h
        exact sqlOf (s _ _ hlq)
      · obtain ⟨x6, x7, rfl, sj⟩ := h
        obtain ⟨p, ea, eb, Da, Db, rfl, hp, da, db, la, lb, za, zb⟩ := hrow hx
        refine ⟨p, _, rfl, sqtOf (sj _ _ hp), rfl, _, _, rfl, _, _, rfl, rfl, ?_⟩
        refine ⟨.ref ea, rfl, .ref eb, rfl, ea, eb, m, Da, Db, rfl, da.same sj, db.same sj, la, lb, by omega, by omega, za, zb, fun H'' s'' => ⟨true, rfl, iteF ?_⟩⟩
        exact ⟨_, _, rfl, sj.trans s''⟩
      obtain ⟨x6, x7, rfl, sj⟩ := h
      have s4j := s4c.trans sj
      have S5 := S4.same s4j
      have k5 := k04.trans (same_keep (a := a) (c := ca) s4j)
      have d1' := hD1.same s4j
      clear hrow hp4 g1 g2 g3 g0 gU d1 d2 d0 dU zU z0 hlq
      dsimp only [tSeq, tAsg, gName, tNext]
      -- the powers
      refine ⟨.ref a, rfl, a, ca, _, 12, rfl, S5, by omega, by decide, by decide, fun H6 r6 S6 k6 p60 p61 => ?_⟩
      refine ⟨_, _, rfl, rfl, ?_⟩
      refine ⟨seven_ok, fun lq2 nlq2 => ?_⟩
      have aq := S6.fresh nlq2
      have S7 := S6.put (o := .lst [V.int 12, .int 12, .int 12, .int 12, .int 12, .int 8, .int 6]) aq
      have k7 := k6.trans (Keep.new (a := a) (c := ca) (o := .lst [V.int 12, .int 12, .int 12, .int 12, .int 12, .int 8, .int 6]) nlq2)
      have hlq2 : upd H6 lq2 (.lst [V.int 12, .int 12, .int 12, .int 12, .int 12, .int 8, .int 6]) lq2 = some (.lst [V.int 12, .int 12, .int 12, .int 12, .int 12, .int 8, .int 6]) := upd_same
      generalize upd H6 lq2 (.lst [V.int 12, .int 12, .int 12, .int 12, .int 12, .int 8, .int 6]) = H7 at S7 k7 hlq2
      have ae1 := stock_dict S5 d1'.at_
      have d7 : DictAt H7 e1 m D1 := ⟨k7 _ _ ae1.1 ae1.2 d1'.at_, d1'.nodup, d1'.len⟩
      refine ⟨.ref e1, rfl, e1, D1.map enc, rfl, d7.at_, ⟨6, ((D1.map enc).length : Int), rfl, ?_⟩⟩
      rw [List.length_map]
      refine ⟨lq2, _, _, .int (topP D1.length : Nat), rfl, rfl, sqlOf hlq2, pick7 f1, ⟨_, _, rfl, ?_⟩⟩
      obtain ⟨n, hn', hn1, hn2⟩ := min_top (r := r6) (k := D1.length) p60
      rw [hn']
      refine ⟨.ref e1, rfl, e1, m, D1, rfl, d7, by omega, by omega, fun H8 tw L1 s8 _ hL1 N1 l1 => ?_⟩
      refine ⟨.ref e1, rfl, .int (n : Nat), rfl, tw, e1, m, n, L1, D1, rfl, hL1, d7.same s8, N1, l1, f1, hn1, hn2, by omega, by omega, oD1.sz, fun H9 s9 => ⟨true, rfl, iteF ?_⟩⟩
      exact ⟨_, _, _, _, _, _, _, rfl, ((S7.same s8).same s9).more (by omega), ((k5.trans k7).trans (same_keep s8)).trans (same_keep s9)⟩
    · obtain ⟨y2, y3, y4, y5, y6, y7, y8, rfl, S2, k2⟩ := h
      refine ⟨.ref a, rfl, a, ca, _, 3, rfl, S2, by omega, by decide, by decide, fun H3 r3 S3 k3 p30 p31 => ?_⟩
      refine ⟨_, _, rfl, rfl, ?_⟩
      obtain ⟨m, hm⟩ : ∃ m : Nat, (2 + r3 : Int) = m := ⟨(2 + r3).toNat, by omega⟩
      dsimp only
      rw [hm]
      dsimp only [tSeq, tAsg, gName, tNext]
      refine ⟨.ref a, rfl, .int (m : Nat), rfl, a, ca, _, m, 300, rfl, S3, by omega, by omega, by omega, by decide, by decide, fun H4 e1 D1 S4 k4 _ hD1 oD1 ne1 c1 => ?_⟩
      dsimp only [tSeq, tAsg, gName, tNext]
      refine ⟨.ref a, rfl, .int (m : Nat), rfl, .ref a, rfl, a, ca, _, 100, rfl, S4, by omega, by decide, by decide, fun H5 r5 S5 k5 p50 p51 => ?_⟩
      refine ⟨_, _, rfl, rfl, ?_⟩
      obtain ⟨cn, hcn⟩ : ∃ cn : Nat, (300 - r5 : Int) = cn := ⟨(300 - r5).toNat, by omega⟩
      dsimp only
      rw [hcn]
      refine ⟨a, ca, _, m, cn, rfl, S5, by omega, by omega, by omega, by omega, by omega, fun H6 e2 D2 S6 k6 _ hD2 oD2 ne2 c2 => ?_⟩
      dsimp only [tSeq, tAsg, gName, tNext]
      have ae1 := stock_dict S4 hD1.at_
      have k46 := k5.trans k6
      have d1 : DictAt H6 e1 m D1 := ⟨k46 _ _ ae1.1 ae1.2 hD1.at_, hD1.nodup, hD1.len⟩
      have k06 := (((k2.trans k3).trans k4).trans k5).trans k6
      have f1 := oD1.few
      have f2 := oD2.few
      refine ⟨.ref e1, rfl, e1, m, D1, rfl, d1, by omega, by omega, fun H7 t1 L1 s7 _ hL1 N1 l1 => ?_⟩
      refine ⟨.ref e2, rfl, e2, m, D2, rfl, hD2.same s7, by omega, by omega, fun H8 t2 L2 s8 _ hL2 N2 l2 => ?_⟩
      refine ⟨_, _, rfl, ?_⟩
      dsimp only [tSeq, tAsg, gName, tNext]
      have hL1 := hL1.same s8
      have s68 := s7.trans s8
      have g1 := N1.good hD1.len
      have g2 := N2.good hD2.len
      have S8 := S6.same s68
      have d1 := d1.same s68
      have d2 := hD2.same s68
      have k08 := k06.trans (same_keep s68)
      clear s7 s8 s68 k06 hD2 ae1 k46 S6 S5 S4 S3 S2 k2 k3 k4 k5 k6
      refine ⟨.ref t1, rfl, .ref t2, rfl, t1, t2, m, L1, L2, rfl, hL1, hL2, by omega, by omega, by omega, g1, g2, fun H9 t3 L3 s9 hL3 N3 l3 => ?_⟩
      refine ⟨.ref e1, rfl, .ref e2, rfl, e1, e2, m, D1, D2, rfl, d1.same s9, d2.same s9, by omega, fun H10 e3 s10 _ hD3 => ?_⟩
      refine tNil_ap ?_
      have lA := addT_size (A := D1) (B := D2)
      refine ⟨e3, m, _, rfl, hD3, by omega, by omega, fun H11 t4 L4 s11 _ hL4 N4 l4 => ?_⟩
      refine ⟨_, _, rfl, sm_sum' (m := m) (n := 2) (hL3.same (s10.trans s11)) hL4 (addT_nodup _ _) (addT_nodup _ _) (norm_add N1 N2 hD1.nodup d2.nodup) N3 N4 (by omega) (by omega) (addT_lens (fun q hq => (g1.1 q hq).1) fun q hq => (g2.1 q hq).1), fun H12 s12 => ⟨true, rfl, iteF ?_⟩⟩
      have s8c := ((s9.trans s10).trans s11).trans s12
      have S12 := S8.same s8c
      have d1 := d1.same s8c
      have hL1 := hL1.same s8c
      have k12 := k08.trans (same_keep s8c)
      clear s9 s10 s11 s12 hL3 hL4 N3 N4 hD3 hL2 s8c S8 k08
      dsimp only [tSeq, tAsg, gName, tNext]
      -- the few terms
      refine ⟨.ref a, rfl, .int (m : Nat), rfl, ?_⟩
      refine ⟨_, _, rfl, rfl, powx (a := 4) (by decide) (by decide) (by decide) (by decide), ?_⟩
      dsimp only
      rw [ten30]
      refine ⟨_, _, rfl, rfl, ?_⟩
      refine ⟨a, ca, _, m, 2, 12, _, rfl, S12, by omega, by omega, by omega, by decide, by decide, by decide, by decide, by decide, fun H13 e3 D3 S13 k13 nz3 hD3 B3 l3 => ?_⟩
      have ae1 := stock_dict S12 d1.at_
      have ae3 := stock_dict S13 hD3.at_
      have n3 : ∃ n3 : Nat, n3 ≤ 10000 ∧ Stock H13 a ca n3 := ⟨_, by omega, S13⟩
      obtain ⟨n3, hn3, S13⟩ := n3
      dsimp only [tSeq, tAsg, gName, tNext]
      refine ⟨.ref e3, rfl, .int (m : Nat), rfl, m, rfl, by omega, by omega, fun p np => ?_⟩
      have ap := S13.fresh np
      refine lc_range (lo := 0) (n := m) (fun j H' => ∃ ks : List Int, ks.length = j ∧ (∀ x ∈ ks, 3 ≤ x ∧ x ≤ 11) ∧ H' p = some (.lst (ks.map V.int)) ∧ Stock H' a ca (n3 + j) ∧ Keep a ca H13 H')
        ⟨[], rfl, (fun x h => by cases h), upd_same, S13.new np, Keep.new np⟩ (fun j H' hj h => ?_) (fun H14 h => ?_)
      · obtain ⟨ks, hkl, hk, hp, S', k'⟩ := h
        refine ⟨rfl, .ref a, rfl, a, ca, _, 9, rfl, S', by omega, by decide, by decide, fun H3 r3 S3 k3 q30 q31 => ?_⟩
        refine ⟨_, _, rfl, rfl, _, k3 _ _ ap.1 ap.2 hp, by rw [List.length_map, sizeLine_eq]; omega, ks ++ [3 + r3], by rw [List.length_append, hkl]; rfl, fun x hx => ?_, by rw [upd_same, List.map_append]; rfl, S3.put ap, (k'.trans k3).put np⟩
        rcases List.mem_append.mp hx with hx | hx
        · exact hk x hx
        · rw [List.mem_singleton.mp hx]
          omega
      · obtain ⟨ks, hkl, hk, hp, S14, k14⟩ := h
        refine ⟨p, _, rfl, .inl ⟨sqlOf hp, fun t nt => ?_⟩⟩
        have S15 := S14.new (o := .tup (ks.map V.int)) nt
        have s15 := same_new (o := .tup (ks.map V.int)) nt
        have ht : upd H14 t (.tup (ks.map V.int)) t = some (.tup (ks.map V.int)) := upd_same
        have h3 : DictAt (upd H14 t (.tup (ks.map V.int))) e3 m D3 := DictAt.same ⟨k14 _ _ ae3.1 ae3.2 hD3.at_, hD3.nodup, hD3.len⟩ s15
        have k15 := (k13.trans k14).trans (same_keep (a := a) (c := ca) s15)
        generalize upd H14 t (.tup (ks.map V.int)) = H15 at S15 s15 ht h3 k15
        refine ⟨e3, _, rfl, DPut.t (k := ks.map Sum.inl) h3.at_ (by rw [map_kV]; exact ht) (by rw [List.length_map, sizeLine_eq]; omega), ?_⟩
        have hF : DictAt (upd H15 e3 (.dT (putK (D3.map enc) (ks.map Sum.inl) (.int 1)))) e3 m (setD D3 ks 1) := ⟨by rw [upd_same, putK_enc], setD_nodup _ _ hD3.nodup, fun q hq => by
          rcases setD_mem hq with ⟨hq, _⟩ | rfl
          · exact hD3.len q hq
          · exact hkl⟩
        have k16 := k15.put (o := .dT (putK (D3.map enc) (ks.map Sum.inl) (.int 1))) nz3
        have S16 := S15.put (o := .dT (putK (D3.map enc) (ks.map Sum.inl) (.int 1))) ae3
        have zF : Sz (setD D3 ks 1) 100 12 := ⟨fun q hq => by
          rcases setD_mem hq with ⟨hq, _⟩ | rfl
          · exact Nat.lt_of_le_of_lt (B3.b q hq).1 (by decide)
          · exact Nat.one_lt_two_pow (by decide), fun q hq x hx => by
          rcases setD_mem hq with ⟨hq, _⟩ | rfl
          · have := (B3.b q hq).2 x hx
            omega
          · have := hk x hx
            omega⟩
        have lF : (setD D3 ks 1).length ≤ 3 := Nat.le_trans (setD_len _ _ _) (by omega)
        have hFk : val (setD D3 ks 1) ks = 1 := by
          unfold val
          rw [getO_set, if_pos rfl]
          rfl
        generalize upd H15 e3 (.dT (putK (D3.map enc) (ks.map Sum.inl) (.int 1))) = H16 at hF k16 S16
        generalize setD D3 ks 1 = F at *
        clear ht h3 S15 s15 k15 S14 k14 hp S13 k13 B3 l3 hD3
        have kt := S12.keepT k16
        have hL1 : SumAt H16 t1 L1 := ⟨kt _ _ hL1.at_, hL1.rows.keep kt⟩
        have d1 : DictAt H16 e1 m D1 := ⟨k16 _ _ ae1.1 ae1.2 d1.at_, d1.nodup, d1.len⟩
        have k016 := k12.trans k16
        dsimp only [tSeq, tAsg, gName, tNext]
        refine ⟨.ref e1, rfl, .ref e3, rfl, e1, e3, m, D1, F, rfl, d1, hF, by omega, by omega, by omega, fun q hq => Nat.lt_of_lt_of_le (c1 q hq).2 (Nat.pow_le_pow_right (by decide) (by decide)), fun q hq => Nat.lt_of_lt_of_le (zF.c q hq) (Nat.pow_le_pow_right (by decide) (by decide)), fun H17 e4 s17 _ hW => ?_⟩
        dsimp only [tSeq, tAsg, gName, tNext]
        refine ⟨.ref t1, rfl, .ref e3, rfl, e3, m, F, rfl, hF.same s17, by omega, by omega, fun H18 tf Lf s18 _ hLf Nf lf => ?_⟩
        refine tNil_ap ?_
        have z1 : Sz D1 95 12 := ⟨fun q hq => (c1 q hq).2, oD1.sz.r⟩
        have x1 := z1.norm N1
        have xf := zF.norm Nf
        have gf := Nf.good hF.len
        have nl : D1.length * F.length ≤ 900 := Nat.mul_le_mul f1 lF
        have nl' : L1.length * Lf.length ≤ 900 := Nat.mul_le_mul (by omega : L1.length ≤ 300) (by omega : Lf.length ≤ 3)
        have lW := mulT_size (A := D1) (B := F)
        refine ⟨t1, tf, m, L1, Lf, rfl, hL1.same (s17.trans s18), hLf, by omega, by omega, by omega, by omega, by omega, g1, gf, fun q hq => ?_, fun H19 t5 L5 C s19 hL5 nC vC N5 l5 => ?_⟩
        · rcases List.mem_append.mp hq with h | h
          · exact ⟨Nat.lt_of_lt_of_le (x1.c q h) (Nat.pow_le_pow_right (by decide) (by decide)), fun x hx => Nat.le_trans (x1.r q h x hx) (by decide)⟩
          · exact ⟨Nat.lt_of_lt_of_le (xf.c q h) (Nat.pow_le_pow_right (by decide) (by decide)), fun x hx => Nat.le_trans (xf.r q h x hx) (by decide)⟩
        have hW := hW.same (s18.trans s19)
        refine ⟨.ref e4, rfl, e4, m, _, rfl, hW, by omega, by omega, fun H20 t6 L6 s20 _ hL6 N6 l6 => ?_⟩
        refine tNil_ap ?_
        have eC : L5.map Trm.d = L6.map Trm.d := Norm.unique nC (mulT_nodup _ _) (fun j => (vC j).trans (norm_mul N1 Nf d1.nodup hF.nodup d1.len hF.len j)) N5 N6
        refine ⟨_, _, rfl, sm_sum (n := 2) (hL5.same s20) hL6 eC (by omega) (fun r hr => ?_), fun H21 s21 => ⟨true, rfl, iteF ?_⟩⟩
        · have h9 : r.d ∈ L6.map Trm.d := by rw [← eC]; exact List.mem_map_of_mem hr
          have h10 : r.ns.length = m := mulT_len d1.len hF.len r.d ((N6.mem _).mp h9).1
          omega
        have s1 := (((s17.trans s18).trans s19).trans s20).trans s21
        refine ⟨.ref a, rfl, .ref e4, rfl, .int (m : Nat), rfl, a, ca, _, e4, m, _, rfl, S16.same s1, by omega, hW.same (s20.trans s21), by omega, by omega, by omega, ?_, ?_, tabs_keep hT1 S1 (k016.trans (same_keep s1)), fun H22 => q _⟩
        · exact (Sz.mulL (k := 2) z1 zF d1.nodup d1.len hF.len (by omega)).more (by decide) (by decide)
        · obtain ⟨j, hj⟩ := mulT_ne (norm_nodup N1) (norm_nodup Nf) (fun q hq => (g1.1 q hq).1) (fun q hq => (gf.1 q hq).1) (fun q hq => (g1.1 q hq).2) (fun q hq => (gf.1 q hq).2) (fun z => by
            obtain ⟨x, hx⟩ := List.exists_mem_of_ne_nil D1 ne1
            have := (N1.mem x).mpr ⟨hx, (c1 x hx).1⟩
            rw [z] at this
            cases this) (fun z => by
            have := norm_val Nf hF.nodup ks
            rw [z, hFk] at this
            exact absurd (show (0 : Int) = 1 from this) (by decide))
          rw [norm_mul N1 Nf d1.nodup hF.nodup d1.len hF.len] at hj
          exact ⟨j, hj⟩
end
end NH
set_option Elab.async false
set_option linter.all false
set_option maxRecDepth 100000
set_option maxHeartbeats 4000000
namespace NH
open PySem PySem.Spec PyProof.Rows L2 LamX
theorem all_mk {l : PySem.W.OpenLaw} {w : World} {K : PySem.W.Frag} {h : Heap} {mg : Str → Option Value} {fa f0 f1 f2 f3 f4 f5 f6 f7 f8 f9 f10 f11 f12 f13 f14 f15 f16 f17 f18 f19 f20 f21 f22 f23 f24 f25 f26 f27 f28 f29 f30 f31 f32 f33 f34 f35 f36 f37 f38 f39 f40 f41 f42 f43 f44 f45 f46 : Addr} (X : K.In h) (G : h.Ns mainGlobals mg) (hfa : mg "law" = some (.ref fa))
    {od0 an0 : Option Addr} {sl0 : Array (Option Value)} {oc0 kV0 dc0 pm0 cd0 ct0 : Value}
    {od1 an1 : Option Addr} {sl1 : Array (Option Value)} {oc1 kV1 dc1 pm1 cd1 ct1 : Value}
    {od2 an2 : Option Addr} {sl2 : Array (Option Value)} {oc2 kV2 dc2 pm2 cd2 ct2 : Value}
    {od3 an3 : Option Addr} {sl3 : Array (Option Value)} {oc3 kV3 dc3 pm3 cd3 ct3 : Value}
    {od4 an4 : Option Addr} {sl4 : Array (Option Value)} {oc4 kV4 dc4 pm4 cd4 ct4 : Value}
    {od5 an5 : Option Addr} {sl5 : Array (Option Value)} {oc5 kV5 dc5 pm5 cd5 ct5 : Value}
    {od6 an6 : Option Addr} {sl6 : Array (Option Value)} {oc6 kV6 dc6 pm6 cd6 ct6 : Value}
    {od7 an7 : Option Addr} {sl7 : Array (Option Value)} {oc7 kV7 dc7 pm7 ct7 : Value} {cA Pt : Addr} {ts : List Addr}
    {od8 an8 : Option Addr} {sl8 : Array (Option Value)} {oc8 kV8 dc8 pm8 cd8 ct8 : Value}
    {od9 an9 : Option Addr} {sl9 : Array (Option Value)} {oc9 kV9 dc9 pm9 cd9 ct9 : Value}
    {od10 an10 : Option Addr} {sl10 : Array (Option Value)} {oc10 kV10 dc10 pm10 cd10 ct10 : Value}
    {od11 an11 : Option Addr} {sl11 : Array (Option Value)} {oc11 kV11 dc11 pm11 cd11 ct11 : Value}
    {od12 an12 : Option Addr} {sl12 : Array (Option Value)} {oc12 kV12 dc12 pm12 cd12 ct12 : Value}
    {od13 an13 : Option Addr} {sl13 : Array (Option Value)} {oc13 kV13 dc13 pm13 cd13 ct13 : Value}
    {od14 an14 : Option Addr} {sl14 : Array (Option Value)} {oc14 kV14 dc14 pm14 cd14 ct14 : Value}
    {od15 an15 : Option Addr} {sl15 : Array (Option Value)} {oc15 kV15 dc15 pm15 cd15 ct15 : Value}
    {od16 an16 : Option Addr} {sl16 : Array (Option Value)} {oc16 kV16 dc16 pm16 cd16 ct16 : Value}
    {od17 an17 : Option Addr} {sl17 : Array (Option Value)} {oc17 kV17 dc17 pm17 cd17 ct17 : Value}
    {od18 an18 : Option Addr} {sl18 : Array (Option Value)} {oc18 kV18 dc18 pm18 cd18 ct18 : Value}
    {od19 an19 : Option Addr} {sl19 : Array (Option Value)} {oc19 kV19 dc19 pm19 cd19 ct19 : Value}
    {od20 an20 : Option Addr} {sl20 : Array (Option Value)} {oc20 kV20 dc20 pm20 cd20 ct20 : Value}
    {od21 an21 : Option Addr} {sl21 : Array (Option Value)} {oc21 kV21 dc21 pm21 cd21 ct21 : Value}
    {od22 an22 : Option Addr} {sl22 : Array (Option Value)} {oc22 kV22 dc22 pm22 cd22 ct22 : Value}
    {od23 an23 : Option Addr} {sl23 : Array (Option Value)} {oc23 kV23 dc23 pm23 cd23 ct23 : Value}
    {od24 an24 : Option Addr} {sl24 : Array (Option Value)} {oc24 kV24 dc24 pm24 cd24 ct24 : Value}
    {od25 an25 : Option Addr} {sl25 : Array (Option Value)} {oc25 kV25 dc25 pm25 cd25 ct25 : Value}
    {od26 an26 : Option Addr} {sl26 : Array (Option Value)} {oc26 kV26 dc26 pm26 cd26 ct26 : Value}
    {od27 an27 : Option Addr} {sl27 : Array (Option Value)} {oc27 kV27 dc27 pm27 cd27 ct27 : Value}
    {od28 an28 : Option Addr} {sl28 : Array (Option Value)} {oc28 kV28 dc28 pm28 cd28 ct28 : Value}
    {od29 an29 : Option Addr} {sl29 : Array (Option Value)} {oc29 kV29 dc29 pm29 cd29 ct29 : Value}
    {od30 an30 : Option Addr} {sl30 : Array (Option Value)} {oc30 kV30 dc30 pm30 cd30 ct30 : Value}
    {od31 an31 : Option Addr} {sl31 : Array (Option Value)} {oc31 kV31 dc31 pm31 cd31 ct31 : Value}
    {od32 an32 : Option Addr} {sl32 : Array (Option Value)} {oc32 kV32 dc32 pm32 cd32 ct32 : Value}
    {od33 an33 : Option Addr} {sl33 : Array (Option Value)} {oc33 kV33 dc33 pm33 cd33 ct33 : Value}
    {od34 an34 : Option Addr} {sl34 : Array (Option Value)} {oc34 kV34 dc34 pm34 cd34 ct34 : Value}
    {od35 an35 : Option Addr} {sl35 : Array (Option Value)} {oc35 kV35 dc35 pm35 cd35 ct35 : Value}
    {od36 an36 : Option Addr} {sl36 : Array (Option Value)} {oc36 kV36 dc36 pm36 cd36 ct36 : Value}
    {od37 an37 : Option Addr} {sl37 : Array (Option Value)} {oc37 kV37 dc37 pm37 cd37 ct37 : Value}
    {od38 an38 : Option Addr} {sl38 : Array (Option Value)} {oc38 kV38 dc38 pm38 cd38 ct38 : Value}
    {od39 an39 : Option Addr} {sl39 : Array (Option Value)} {oc39 kV39 dc39 pm39 cd39 ct39 : Value}
    {od40 an40 : Option Addr} {sl40 : Array (Option Value)} {oc40 kV40 dc40 pm40 cd40 ct40 : Value}
    {od41 an41 : Option Addr} {sl41 : Array (Option Value)} {oc41 kV41 dc41 pm41 cd41 ct41 : Value}
    {od42 an42 : Option Addr} {sl42 : Array (Option Value)} {oc42 kV42 dc42 pm42 cd42 ct42 : Value}
    {od43 an43 : Option Addr} {sl43 : Array (Option Value)} {oc43 kV43 dc43 pm43 cd43 ct43 : Value}
    {od44 an44 : Option Addr} {sl44 : Array (Option Value)} {oc44 kV44 dc44 pm44 cd44 ct44 : Value}
    {od45 an45 : Option Addr} {sl45 : Array (Option Value)} {oc45 kV45 dc45 pm45 cd45 ct45 : Value}
    {od46 an46 : Option Addr} {sl46 : Array (Option Value)} {oc46 kV46 dc46 pm46 cd46 ct46 : Value}
    (a0 : PySem.W.nsIn K mainGlobals "letter_of" = some (some (.ref f0))) (l0 : K.lookup f0 = some ⟨oc0, od0, .func (PySem.W.fnOf "letter_of" "letter_of" (defArgs s_letter_of) (defBody s_letter_of) (defScope s_letter_of) .none kV0 dc0 pm0 an0 cd0 ct0), sl0⟩) (c0 : PySem.W.codeIn K cd0 "letter_of" = true) (k0 : PySem.W.keepIn K (.ref f0) = true)
    (a1 : PySem.W.nsIn K mainGlobals "lines_of" = some (some (.ref f1))) (l1 : K.lookup f1 = some ⟨oc1, od1, .func (PySem.W.fnOf "lines_of" "lines_of" (defArgs s_lines_of) (defBody s_lines_of) (defScope s_lines_of) .none kV1 dc1 pm1 an1 cd1 ct1), sl1⟩) (c1 : PySem.W.codeIn K cd1 "lines_of" = true) (k1 : PySem.W.keepIn K (.ref f1) = true)
    (a2 : PySem.W.nsIn K mainGlobals "least_of" = some (some (.ref f2))) (l2 : K.lookup f2 = some ⟨oc2, od2, .func (PySem.W.fnOf "least_of" "least_of" (defArgs s_least_of) (defBody s_least_of) (defScope s_least_of) .none kV2 dc2 pm2 an2 cd2 ct2), sl2⟩) (c2 : PySem.W.codeIn K cd2 "least_of" = true) (k2 : PySem.W.keepIn K (.ref f2) = true)
    (a3 : PySem.W.nsIn K mainGlobals "moved" = some (some (.ref f3))) (l3 : K.lookup f3 = some ⟨oc3, od3, .func (PySem.W.fnOf "moved" "moved" (defArgs s_moved) (defBody s_moved) (defScope s_moved) .none kV3 dc3 pm3 an3 cd3 ct3), sl3⟩) (c3 : PySem.W.codeIn K cd3 "moved" = true) (k3 : PySem.W.keepIn K (.ref f3) = true)
    (a4 : PySem.W.nsIn K mainGlobals "sum_of_terms" = some (some (.ref f4))) (l4 : K.lookup f4 = some ⟨oc4, od4, .func (PySem.W.fnOf "sum_of_terms" "sum_of_terms" (defArgs s_sum_of_terms) (defBody s_sum_of_terms) (defScope s_sum_of_terms) .none kV4 dc4 pm4 an4 cd4 ct4), sl4⟩) (c4 : PySem.W.codeIn K cd4 "sum_of_terms" = true) (k4 : PySem.W.keepIn K (.ref f4) = true)
    (a5 : PySem.W.nsIn K mainGlobals "added" = some (some (.ref f5))) (l5 : K.lookup f5 = some ⟨oc5, od5, .func (PySem.W.fnOf "added" "added" (defArgs s_added) (defBody s_added) (defScope s_added) .none kV5 dc5 pm5 an5 cd5 ct5), sl5⟩) (c5 : PySem.W.codeIn K cd5 "added" = true) (k5 : PySem.W.keepIn K (.ref f5) = true)
    (a6 : PySem.W.nsIn K mainGlobals "with_powers" = some (some (.ref f6))) (l6 : K.lookup f6 = some ⟨oc6, od6, .func (PySem.W.fnOf "with_powers" "with_powers" (defArgs s_with_powers) (defBody s_with_powers) (defScope s_with_powers) .none kV6 dc6 pm6 an6 cd6 ct6), sl6⟩) (c6 : PySem.W.codeIn K cd6 "with_powers" = true) (k6 : PySem.W.keepIn K (.ref f6) = true)
    (a7 : PySem.W.nsIn K mainGlobals "without_letters" = some (some (.ref f7))) (l7 : K.lookup f7 = some ⟨oc7, od7, .func (PySem.W.fnOf "without_letters" "without_letters" (defArgs s_without_letters) (defBody s_without_letters) (defScope s_without_letters) .none kV7 dc7 pm7 an7 (.ref cA) ct7), sl7⟩) (c7 : PySem.W.codeIn K (.ref cA) "without_letters" = true) (k7 : PySem.W.keepIn K (.ref f7) = true)
    (a8 : PySem.W.nsIn K mainGlobals "reach_of" = some (some (.ref f8))) (l8 : K.lookup f8 = some ⟨oc8, od8, .func (PySem.W.fnOf "reach_of" "reach_of" (defArgs s_reach_of) (defBody s_reach_of) (defScope s_reach_of) .none kV8 dc8 pm8 an8 cd8 ct8), sl8⟩) (c8 : PySem.W.codeIn K cd8 "reach_of" = true) (k8 : PySem.W.keepIn K (.ref f8) = true)
    (a9 : PySem.W.nsIn K mainGlobals "width_for" = some (some (.ref f9))) (l9 : K.lookup f9 = some ⟨oc9, od9, .func (PySem.W.fnOf "width_for" "width_for" (defArgs s_width_for) (defBody s_width_for) (defScope s_width_for) .none kV9 dc9 pm9 an9 cd9 ct9), sl9⟩) (c9 : PySem.W.codeIn K cd9 "width_for" = true) (k9 : PySem.W.keepIn K (.ref f9) = true)
    (a10 : PySem.W.nsIn K mainGlobals "packed" = some (some (.ref f10))) (l10 : K.lookup f10 = some ⟨oc10, od10, .func (PySem.W.fnOf "packed" "packed" (defArgs s_packed) (defBody s_packed) (defScope s_packed) .none kV10 dc10 pm10 an10 cd10 ct10), sl10⟩) (c10 : PySem.W.codeIn K cd10 "packed" = true) (k10 : PySem.W.keepIn K (.ref f10) = true)
    (a11 : PySem.W.nsIn K mainGlobals "unpacker" = some (some (.ref f11))) (l11 : K.lookup f11 = some ⟨oc11, od11, .func (PySem.W.fnOf "unpacker" "unpacker" (defArgs s_unpacker) (defBody s_unpacker) (defScope s_unpacker) .none kV11 dc11 pm11 an11 cd11 ct11), sl11⟩) (c11 : PySem.W.codeIn K cd11 "unpacker" = true) (k11 : PySem.W.keepIn K (.ref f11) = true)
    (a12 : PySem.W.nsIn K mainGlobals "powers_at" = some (some (.ref f12))) (l12 : K.lookup f12 = some ⟨oc12, od12, .func (PySem.W.fnOf "powers_at" "powers_at" (defArgs s_powers_at) (defBody s_powers_at) (defScope s_powers_at) .none kV12 dc12 pm12 an12 cd12 ct12), sl12⟩) (c12 : PySem.W.codeIn K cd12 "powers_at" = true) (k12 : PySem.W.keepIn K (.ref f12) = true)
    (a13 : PySem.W.nsIn K mainGlobals "unpacked" = some (some (.ref f13))) (l13 : K.lookup f13 = some ⟨oc13, od13, .func (PySem.W.fnOf "unpacked" "unpacked" (defArgs s_unpacked) (defBody s_unpacked) (defScope s_unpacked) .none kV13 dc13 pm13 an13 cd13 ct13), sl13⟩) (c13 : PySem.W.codeIn K cd13 "unpacked" = true) (k13 : PySem.W.keepIn K (.ref f13) = true)
    (a14 : PySem.W.nsIn K mainGlobals "packed_plus" = some (some (.ref f14))) (l14 : K.lookup f14 = some ⟨oc14, od14, .func (PySem.W.fnOf "packed_plus" "packed_plus" (defArgs s_packed_plus) (defBody s_packed_plus) (defScope s_packed_plus) .none kV14 dc14 pm14 an14 cd14 ct14), sl14⟩) (c14 : PySem.W.codeIn K cd14 "packed_plus" = true) (k14 : PySem.W.keepIn K (.ref f14) = true)
    (a15 : PySem.W.nsIn K mainGlobals "packed_times" = some (some (.ref f15))) (l15 : K.lookup f15 = some ⟨oc15, od15, .func (PySem.W.fnOf "packed_times" "packed_times" (defArgs s_packed_times) (defBody s_packed_times) (defScope s_packed_times) .none kV15 dc15 pm15 an15 cd15 ct15), sl15⟩) (c15 : PySem.W.codeIn K cd15 "packed_times" = true) (k15 : PySem.W.keepIn K (.ref f15) = true)
    (a16 : PySem.W.nsIn K mainGlobals "whole_power" = some (some (.ref f16))) (l16 : K.lookup f16 = some ⟨oc16, od16, .func (PySem.W.fnOf "whole_power" "whole_power" (defArgs s_whole_power) (defBody s_whole_power) (defScope s_whole_power) .none kV16 dc16 pm16 an16 cd16 ct16), sl16⟩) (c16 : PySem.W.codeIn K cd16 "whole_power" = true) (k16 : PySem.W.keepIn K (.ref f16) = true)
    (a17 : PySem.W.nsIn K mainGlobals "packed_by_power" = some (some (.ref f17))) (l17 : K.lookup f17 = some ⟨oc17, od17, .func (PySem.W.fnOf "packed_by_power" "packed_by_power" (defArgs s_packed_by_power) (defBody s_packed_by_power) (defScope s_packed_by_power) .none kV17 dc17 pm17 an17 cd17 ct17), sl17⟩) (c17 : PySem.W.codeIn K cd17 "packed_by_power" = true) (k17 : PySem.W.keepIn K (.ref f17) = true)
    (a18 : PySem.W.nsIn K mainGlobals "product_of" = some (some (.ref f18))) (l18 : K.lookup f18 = some ⟨oc18, od18, .func (PySem.W.fnOf "product_of" "product_of" (defArgs s_product_of) (defBody s_product_of) (defScope s_product_of) .none kV18 dc18 pm18 an18 cd18 ct18), sl18⟩) (c18 : PySem.W.codeIn K cd18 "product_of" = true) (k18 : PySem.W.keepIn K (.ref f18) = true)
    (a19 : PySem.W.nsIn K mainGlobals "lifted" = some (some (.ref f19))) (l19 : K.lookup f19 = some ⟨oc19, od19, .func (PySem.W.fnOf "lifted" "lifted" (defArgs s_lifted) (defBody s_lifted) (defScope s_lifted) .none kV19 dc19 pm19 an19 cd19 ct19), sl19⟩) (c19 : PySem.W.codeIn K cd19 "lifted" = true) (k19 : PySem.W.keepIn K (.ref f19) = true)
    (a20 : PySem.W.nsIn K mainGlobals "value_of" = some (some (.ref f20))) (l20 : K.lookup f20 = some ⟨oc20, od20, .func (PySem.W.fnOf "value_of" "value_of" (defArgs s_value_of) (defBody s_value_of) (defScope s_value_of) .none kV20 dc20 pm20 an20 cd20 ct20), sl20⟩) (c20 : PySem.W.codeIn K cd20 "value_of" = true) (k20 : PySem.W.keepIn K (.ref f20) = true)
    (a21 : PySem.W.nsIn K mainGlobals "gathered" = some (some (.ref f21))) (l21 : K.lookup f21 = some ⟨oc21, od21, .func (PySem.W.fnOf "gathered" "gathered" (defArgs s_gathered) (defBody s_gathered) (defScope s_gathered) .none kV21 dc21 pm21 an21 cd21 ct21), sl21⟩) (c21 : PySem.W.codeIn K cd21 "gathered" = true) (k21 : PySem.W.keepIn K (.ref f21) = true)
    (a22 : PySem.W.nsIn K mainGlobals "is_sum" = some (some (.ref f22))) (l22 : K.lookup f22 = some ⟨oc22, od22, .func (PySem.W.fnOf "is_sum" "is_sum" (defArgs s_is_sum) (defBody s_is_sum) (defScope s_is_sum) .none kV22 dc22 pm22 an22 cd22 ct22), sl22⟩) (c22 : PySem.W.codeIn K cd22 "is_sum" = true) (k22 : PySem.W.keepIn K (.ref f22) = true)
    (a23 : PySem.W.nsIn K mainGlobals "check_sum" = some (some (.ref f23))) (l23 : K.lookup f23 = some ⟨oc23, od23, .func (PySem.W.fnOf "check_sum" "check_sum" (defArgs s_check_sum) (defBody s_check_sum) (defScope s_check_sum) .none kV23 dc23 pm23 an23 cd23 ct23), sl23⟩) (c23 : PySem.W.codeIn K cd23 "check_sum" = true) (k23 : PySem.W.keepIn K (.ref f23) = true)
    (a24 : PySem.W.nsIn K mainGlobals "letters_of" = some (some (.ref f24))) (l24 : K.lookup f24 = some ⟨oc24, od24, .func (PySem.W.fnOf "letters_of" "letters_of" (defArgs s_letters_of) (defBody s_letters_of) (defScope s_letters_of) .none kV24 dc24 pm24 an24 cd24 ct24), sl24⟩) (c24 : PySem.W.codeIn K cd24 "letters_of" = true) (k24 : PySem.W.keepIn K (.ref f24) = true)
    (a25 : PySem.W.nsIn K mainGlobals "letter" = some (some (.ref f25))) (l25 : K.lookup f25 = some ⟨oc25, od25, .func (PySem.W.fnOf "letter" "letter" (defArgs s_letter) (defBody s_letter) (defScope s_letter) .none kV25 dc25 pm25 an25 cd25 ct25), sl25⟩) (c25 : PySem.W.codeIn K cd25 "letter" = true) (k25 : PySem.W.keepIn K (.ref f25) = true)
    (a26 : PySem.W.nsIn K mainGlobals "plus" = some (some (.ref f26))) (l26 : K.lookup f26 = some ⟨oc26, od26, .func (PySem.W.fnOf "plus" "plus" (defArgs s_plus) (defBody s_plus) (defScope s_plus) .none kV26 dc26 pm26 an26 cd26 ct26), sl26⟩) (c26 : PySem.W.codeIn K cd26 "plus" = true) (k26 : PySem.W.keepIn K (.ref f26) = true)
    (a27 : PySem.W.nsIn K mainGlobals "times" = some (some (.ref f27))) (l27 : K.lookup f27 = some ⟨oc27, od27, .func (PySem.W.fnOf "times" "times" (defArgs s_times) (defBody s_times) (defScope s_times) .none kV27 dc27 pm27 an27 cd27 ct27), sl27⟩) (c27 : PySem.W.codeIn K cd27 "times" = true) (k27 : PySem.W.keepIn K (.ref f27) = true)
    (a28 : PySem.W.nsIn K mainGlobals "power" = some (some (.ref f28))) (l28 : K.lookup f28 = some ⟨oc28, od28, .func (PySem.W.fnOf "power" "power" (defArgs s_power) (defBody s_power) (defScope s_power) .none kV28 dc28 pm28 an28 cd28 ct28), sl28⟩) (c28 : PySem.W.codeIn K cd28 "power" = true) (k28 : PySem.W.keepIn K (.ref f28) = true)
    (a29 : PySem.W.nsIn K mainGlobals "least_powers" = some (some (.ref f29))) (l29 : K.lookup f29 = some ⟨oc29, od29, .func (PySem.W.fnOf "least_powers" "least_powers" (defArgs s_least_powers) (defBody s_least_powers) (defScope s_least_powers) .none kV29 dc29 pm29 an29 cd29 ct29), sl29⟩) (c29 : PySem.W.codeIn K cd29 "least_powers" = true) (k29 : PySem.W.keepIn K (.ref f29) = true)
    (a30 : PySem.W.nsIn K mainGlobals "freed" = some (some (.ref f30))) (l30 : K.lookup f30 = some ⟨oc30, od30, .func (PySem.W.fnOf "freed" "freed" (defArgs s_freed) (defBody s_freed) (defScope s_freed) .none kV30 dc30 pm30 an30 cd30 ct30), sl30⟩) (c30 : PySem.W.codeIn K cd30 "freed" = true) (k30 : PySem.W.keepIn K (.ref f30) = true)
    (a31 : PySem.W.nsIn K mainGlobals "ones" = some (some (.ref f31))) (l31 : K.lookup f31 = some ⟨oc31, od31, .func (PySem.W.fnOf "ones" "ones" (defArgs s_ones) (defBody s_ones) (defScope s_ones) .none kV31 dc31 pm31 an31 cd31 ct31), sl31⟩) (c31 : PySem.W.codeIn K cd31 "ones" = true) (k31 : PySem.W.keepIn K (.ref f31) = true)
    (a32 : PySem.W.nsIn K mainGlobals "value" = some (some (.ref f32))) (l32 : K.lookup f32 = some ⟨oc32, od32, .func (PySem.W.fnOf "value" "value" (defArgs s_value) (defBody s_value) (defScope s_value) .none kV32 dc32 pm32 an32 cd32 ct32), sl32⟩) (c32 : PySem.W.codeIn K cd32 "value" = true) (k32 : PySem.W.keepIn K (.ref f32) = true)
    (a33 : PySem.W.nsIn K mainGlobals "_law_stock" = some (some (.ref f33))) (l33 : K.lookup f33 = some ⟨oc33, od33, .func (PySem.W.fnOf "_law_stock" "_law_stock" (defArgs s__law_stock) (defBody s__law_stock) (defScope s__law_stock) .none kV33 dc33 pm33 an33 cd33 ct33), sl33⟩) (c33 : PySem.W.codeIn K cd33 "_law_stock" = true) (k33 : PySem.W.keepIn K (.ref f33) = true)
    (a34 : PySem.W.nsIn K mainGlobals "_law_pick" = some (some (.ref f34))) (l34 : K.lookup f34 = some ⟨oc34, od34, .func (PySem.W.fnOf "_law_pick" "_law_pick" (defArgs s__law_pick) (defBody s__law_pick) (defScope s__law_pick) .none kV34 dc34 pm34 an34 cd34 ct34), sl34⟩) (c34 : PySem.W.codeIn K cd34 "_law_pick" = true) (k34 : PySem.W.keepIn K (.ref f34) = true)
    (a35 : PySem.W.nsIn K mainGlobals "_law_wide" = some (some (.ref f35))) (l35 : K.lookup f35 = some ⟨oc35, od35, .func (PySem.W.fnOf "_law_wide" "_law_wide" (defArgs s__law_wide) (defBody s__law_wide) (defScope s__law_wide) .none kV35 dc35 pm35 an35 cd35 ct35), sl35⟩) (c35 : PySem.W.codeIn K cd35 "_law_wide" = true) (k35 : PySem.W.keepIn K (.ref f35) = true)
    (a36 : PySem.W.nsIn K mainGlobals "_law_same" = some (some (.ref f36))) (l36 : K.lookup f36 = some ⟨oc36, od36, .func (PySem.W.fnOf "_law_same" "_law_same" (defArgs s__law_same) (defBody s__law_same) (defScope s__law_same) .none kV36 dc36 pm36 an36 cd36 ct36), sl36⟩) (c36 : PySem.W.codeIn K cd36 "_law_same" = true) (k36 : PySem.W.keepIn K (.ref f36) = true)
    (a37 : PySem.W.nsIn K mainGlobals "_law_written" = some (some (.ref f37))) (l37 : K.lookup f37 = some ⟨oc37, od37, .func (PySem.W.fnOf "_law_written" "_law_written" (defArgs s__law_written) (defBody s__law_written) (defScope s__law_written) .none kV37 dc37 pm37 an37 cd37 ct37), sl37⟩) (c37 : PySem.W.codeIn K cd37 "_law_written" = true) (k37 : PySem.W.keepIn K (.ref f37) = true)
    (a38 : PySem.W.nsIn K mainGlobals "_law_plus" = some (some (.ref f38))) (l38 : K.lookup f38 = some ⟨oc38, od38, .func (PySem.W.fnOf "_law_plus" "_law_plus" (defArgs s__law_plus) (defBody s__law_plus) (defScope s__law_plus) .none kV38 dc38 pm38 an38 cd38 ct38), sl38⟩) (c38 : PySem.W.codeIn K cd38 "_law_plus" = true) (k38 : PySem.W.keepIn K (.ref f38) = true)
    (a39 : PySem.W.nsIn K mainGlobals "_law_times" = some (some (.ref f39))) (l39 : K.lookup f39 = some ⟨oc39, od39, .func (PySem.W.fnOf "_law_times" "_law_times" (defArgs s__law_times) (defBody s__law_times) (defScope s__law_times) .none kV39 dc39 pm39 an39 cd39 ct39), sl39⟩) (c39 : PySem.W.codeIn K cd39 "_law_times" = true) (k39 : PySem.W.keepIn K (.ref f39) = true)
    (a40 : PySem.W.nsIn K mainGlobals "_law_terms" = some (some (.ref f40))) (l40 : K.lookup f40 = some ⟨oc40, od40, .func (PySem.W.fnOf "_law_terms" "_law_terms" (defArgs s__law_terms) (defBody s__law_terms) (defScope s__law_terms) .none kV40 dc40 pm40 an40 cd40 ct40), sl40⟩) (c40 : PySem.W.codeIn K cd40 "_law_terms" = true) (k40 : PySem.W.keepIn K (.ref f40) = true)
    (a41 : PySem.W.nsIn K mainGlobals "_law_two" = some (some (.ref f41))) (l41 : K.lookup f41 = some ⟨oc41, od41, .func (PySem.W.fnOf "_law_two" "_law_two" (defArgs s__law_two) (defBody s__law_two) (defScope s__law_two) .none kV41 dc41 pm41 an41 cd41 ct41), sl41⟩) (c41 : PySem.W.codeIn K cd41 "_law_two" = true) (k41 : PySem.W.keepIn K (.ref f41) = true)
    (a42 : PySem.W.nsIn K mainGlobals "_law_long" = some (some (.ref f42))) (l42 : K.lookup f42 = some ⟨oc42, od42, .func (PySem.W.fnOf "_law_long" "_law_long" (defArgs s__law_long) (defBody s__law_long) (defScope s__law_long) .none kV42 dc42 pm42 an42 cd42 ct42), sl42⟩) (c42 : PySem.W.codeIn K cd42 "_law_long" = true) (k42 : PySem.W.keepIn K (.ref f42) = true)
    (a43 : PySem.W.nsIn K mainGlobals "_law_is_power" = some (some (.ref f43))) (l43 : K.lookup f43 = some ⟨oc43, od43, .func (PySem.W.fnOf "_law_is_power" "_law_is_power" (defArgs s__law_is_power) (defBody s__law_is_power) (defScope s__law_is_power) .none kV43 dc43 pm43 an43 cd43 ct43), sl43⟩) (c43 : PySem.W.codeIn K cd43 "_law_is_power" = true) (k43 : PySem.W.keepIn K (.ref f43) = true)
    (a44 : PySem.W.nsIn K mainGlobals "_law_goes_on" = some (some (.ref f44))) (l44 : K.lookup f44 = some ⟨oc44, od44, .func (PySem.W.fnOf "_law_goes_on" "_law_goes_on" (defArgs s__law_goes_on) (defBody s__law_goes_on) (defScope s__law_goes_on) .none kV44 dc44 pm44 an44 cd44 ct44), sl44⟩) (c44 : PySem.W.codeIn K cd44 "_law_goes_on" = true) (k44 : PySem.W.keepIn K (.ref f44) = true)
    (a45 : PySem.W.nsIn K mainGlobals "_law_is_right" = some (some (.ref f45))) (l45 : K.lookup f45 = some ⟨oc45, od45, .func (PySem.W.fnOf "_law_is_right" "_law_is_right" (defArgs s__law_is_right) (defBody s__law_is_right) (defScope s__law_is_right) .none kV45 dc45 pm45 an45 cd45 ct45), sl45⟩) (c45 : PySem.W.codeIn K cd45 "_law_is_right" = true) (k45 : PySem.W.keepIn K (.ref f45) = true)
    (a46 : PySem.W.nsIn K mainGlobals "law" = some (some (.ref f46))) (l46 : K.lookup f46 = some ⟨oc46, od46, .func (PySem.W.fnOf "law" "law" (defArgs s_law) (defBody s_law) (defScope s_law) .none kV46 dc46 pm46 an46 cd46 ct46), sl46⟩) (c46 : PySem.W.codeIn K cd46 "law" = true) (k46 : PySem.W.keepIn K (.ref f46) = true)
    (z0 : PySem.W.nsIn K mainGlobals "ValueError" = some none)
    (z1 : PySem.W.nsIn K mainGlobals "abs" = some none)
    (z2 : PySem.W.nsIn K mainGlobals "bool" = some none)
    (z3 : PySem.W.nsIn K mainGlobals "enumerate" = some none)
    (z4 : PySem.W.nsIn K mainGlobals "int" = some none)
    (z5 : PySem.W.nsIn K mainGlobals "isinstance" = some none)
    (z6 : PySem.W.nsIn K mainGlobals "len" = some none)
    (z7 : PySem.W.nsIn K mainGlobals "list" = some none)
    (z8 : PySem.W.nsIn K mainGlobals "max" = some none)
    (z9 : PySem.W.nsIn K mainGlobals "min" = some none)
    (z10 : PySem.W.nsIn K mainGlobals "range" = some none)
    (z11 : PySem.W.nsIn K mainGlobals "reversed" = some none)
    (z12 : PySem.W.nsIn K mainGlobals "sorted" = some none)
    (z13 : PySem.W.nsIn K mainGlobals "str" = some none)
    (z14 : PySem.W.nsIn K mainGlobals "sum" = some none)
    (z15 : PySem.W.nsIn K mainGlobals "tuple" = some none)
    (z16 : PySem.W.nsIn K mainGlobals "zip" = some none)
    (mg1 : PySem.W.nsIn K mainGlobals "gcd" = some (some (.builtin "math.gcd")))
    {tk0 : Tok} (mc0 : PySem.W.nsIn K mainGlobals "MOST_TIMES" = some (some (.int 12 tk0)))
    (tabs : ∀ P ∈ ts, h.get? P = some (PySem.W.tabObj #[])) (hPt : Pt ∈ ts) (nT : K.lookup Pt = none) (hcd : PySem.W.codeHdIn K cA Pt = true)
    : LawAtS l w K CX0 13 63 "_law_script" mg fa h := by
  have e := hfa.symm.trans (PySem.W.mg_of X G a46)
  cases e
  have F0 := fun_mk (st := s_letter_of) l0 c0 k0
  have F1 := fun_mk (st := s_lines_of) l1 c1 k1
  have F2 := fun_mk (st := s_least_of) l2 c2 k2
  have F3 := fun_mk (st := s_moved) l3 c3 k3
  have F4 := fun_mk (st := s_sum_of_terms) l4 c4 k4
  have F5 := fun_mk (st := s_added) l5 c5 k5
  have F6 := fun_mk (st := s_with_powers) l6 c6 k6
  have F7 := fun_mk (st := s_without_letters) l7 c7 k7
  have F8 := fun_mk (st := s_reach_of) l8 c8 k8
  have F9 := fun_mk (st := s_width_for) l9 c9 k9
  have F10 := fun_mk (st := s_packed) l10 c10 k10
  have F11 := fun_mk (st := s_unpacker) l11 c11 k11
  have F12 := fun_mk (st := s_powers_at) l12 c12 k12
  have F13 := fun_mk (st := s_unpacked) l13 c13 k13
  have F14 := fun_mk (st := s_packed_plus) l14 c14 k14
  have F15 := fun_mk (st := s_packed_times) l15 c15 k15
  have F16 := fun_mk (st := s_whole_power) l16 c16 k16
  have F17 := fun_mk (st := s_packed_by_power) l17 c17 k17
  have F18 := fun_mk (st := s_product_of) l18 c18 k18
  have F19 := fun_mk (st := s_lifted) l19 c19 k19
  have F20 := fun_mk (st := s_value_of) l20 c20 k20
  have F21 := fun_mk (st := s_gathered) l21 c21 k21
  have F22 := fun_mk (st := s_is_sum) l22 c22 k22
  have F23 := fun_mk (st := s_check_sum) l23 c23 k23
  have F24 := fun_mk (st := s_letters_of) l24 c24 k24
  have F25 := fun_mk (st := s_letter) l25 c25 k25
  have F26 := fun_mk (st := s_plus) l26 c26 k26
  have F27 := fun_mk (st := s_times) l27 c27 k27
  have F28 := fun_mk (st := s_power) l28 c28 k28
  have F29 := fun_mk (st := s_least_powers) l29 c29 k29
  have F30 := fun_mk (st := s_freed) l30 c30 k30
  have F31 := fun_mk (st := s_ones) l31 c31 k31
  have F32 := fun_mk (st := s_value) l32 c32 k32
  have F33 := fun_mk (st := s__law_stock) l33 c33 k33
  have F34 := fun_mk (st := s__law_pick) l34 c34 k34
  have F35 := fun_mk (st := s__law_wide) l35 c35 k35
  have F36 := fun_mk (st := s__law_same) l36 c36 k36
  have F37 := fun_mk (st := s__law_written) l37 c37 k37
  have F38 := fun_mk (st := s__law_plus) l38 c38 k38
  have F39 := fun_mk (st := s__law_times) l39 c39 k39
  have F40 := fun_mk (st := s__law_terms) l40 c40 k40
  have F41 := fun_mk (st := s__law_two) l41 c41 k41
  have F42 := fun_mk (st := s__law_long) l42 c42 k42
  have F43 := fun_mk (st := s__law_is_power) l43 c43 k43
  have F44 := fun_mk (st := s__law_goes_on) l44 c44 k44
  have F45 := fun_mk (st := s__law_is_right) l45 c45 k45
  have F46 := fun_mk (st := s_law) l46 c46 k46
  have b0 := F0.binds (ps := ["at", "many"]) fun _ _ _ _ _ _ us hl => match us, hl with | [_, _], _ => rfl
  have b1 := F1.binds (ps := ["told"]) fun _ _ _ _ _ _ us hl => match us, hl with | [_], _ => rfl
  have b2 := F2.binds (ps := ["told"]) fun _ _ _ _ _ _ us hl => match us, hl with | [_], _ => rfl
  have b3 := F3.binds (ps := ["told", "powers", "sign"]) fun _ _ _ _ _ _ us hl => match us, hl with | [_, _, _], _ => rfl
  have b4 := F4.binds (ps := ["terms"]) fun _ _ _ _ _ _ us hl => match us, hl with | [_], _ => rfl
  have b5 := F5.binds (ps := ["one", "other"]) fun _ _ _ _ _ _ us hl => match us, hl with | [_, _], _ => rfl
  have b6 := F6.binds (ps := ["told", "change"]) fun _ _ _ _ _ _ us hl => match us, hl with | [_, _], _ => rfl
  have b7 := F7.binds (ps := ["told", "places"]) fun _ _ _ _ _ _ us hl => match us, hl with | [_, _], _ => rfl
  have b8 := F8.binds (ps := ["told"]) fun _ _ _ _ _ _ us hl => match us, hl with | [_], _ => rfl
  have b9 := F9.binds (ps := ["reach"]) fun _ _ _ _ _ _ us hl => match us, hl with | [_], _ => rfl
  have b10 := F10.binds (ps := ["told", "bits"]) fun _ _ _ _ _ _ us hl => match us, hl with | [_, _], _ => rfl
  have b11 := F11.binds (ps := ["many", "bits"]) fun _ _ _ _ _ _ us hl => match us, hl with | [_, _], _ => rfl
  have b12 := F12.binds (ps := ["key", "form"]) fun _ _ _ _ _ _ us hl => match us, hl with | [_, _], _ => rfl
  have b13 := F13.binds (ps := ["terms", "many", "bits"]) fun _ _ _ _ _ _ us hl => match us, hl with | [_, _, _], _ => rfl
  have b14 := F14.binds (ps := ["one", "other"]) fun _ _ _ _ _ _ us hl => match us, hl with | [_, _], _ => rfl
  have b15 := F15.binds (ps := ["one", "other"]) fun _ _ _ _ _ _ us hl => match us, hl with | [_, _], _ => rfl
  have b16 := F16.binds (ps := ["base", "times"]) fun _ _ _ _ _ _ us hl => match us, hl with | [_, _], _ => rfl
  have b17 := F17.binds (ps := ["terms", "factor", "times"]) fun _ _ _ _ _ _ us hl => match us, hl with | [_, _, _], _ => rfl
  have b18 := F18.binds (ps := ["factors", "many"]) fun _ _ _ _ _ _ us hl => match us, hl with | [_, _], _ => rfl
  have b19 := F19.binds (ps := ["told"]) fun _ _ _ _ _ _ us hl => match us, hl with | [_], _ => rfl
  have b20 := F20.binds (ps := ["told", "numbers"]) fun _ _ _ _ _ _ us hl => match us, hl with | [_, _], _ => rfl
  have b21 := F21.binds (ps := ["terms", "factors", "many"]) fun _ _ _ _ _ _ us hl => match us, hl with | [_, _, _], _ => rfl
  have b22 := F22.binds (ps := ["told", "many"]) fun _ _ _ _ _ _ us hl => match us, hl with | [_, _], _ => rfl
  have b23 := F23.binds (ps := ["told", "many"]) fun _ _ _ _ _ _ us hl => match us, hl with | [_, _], _ => rfl
  have b24 := F24.binds (ps := ["sums"]) fun _ _ _ _ _ _ us hl => match us, hl with | [_], _ => rfl
  have b25 := F25.binds (ps := ["at", "many"]) fun _ _ _ _ _ _ us hl => match us, hl with | [_, _], _ => rfl
  have b26 := F26.binds (ps := ["one", "other"]) fun _ _ _ _ _ _ us hl => match us, hl with | [_, _], _ => rfl
  have b27 := F27.binds (ps := ["one", "other"]) fun _ _ _ _ _ _ us hl => match us, hl with | [_, _], _ => rfl
  have b28 := F28.binds (ps := ["one", "times"]) fun _ _ _ _ _ _ us hl => match us, hl with | [_, _], _ => rfl
  have b29 := F29.binds (ps := ["one"]) fun _ _ _ _ _ _ us hl => match us, hl with | [_], _ => rfl
  have b30 := F30.binds (ps := ["one"]) fun _ _ _ _ _ _ us hl => match us, hl with | [_], _ => rfl
  have b31 := F31.binds (ps := ["one", "places"]) fun _ _ _ _ _ _ us hl => match us, hl with | [_, _], _ => rfl
  have b32 := F32.binds (ps := ["one", "numbers"]) fun _ _ _ _ _ _ us hl => match us, hl with | [_, _], _ => rfl
  have b33 := F33.binds (ps := ["_law_script"]) fun _ _ _ _ _ _ us hl => match us, hl with | [_], _ => rfl
  have b34 := F34.binds (ps := ["_law_stock_here", "_law_limit"]) fun _ _ _ _ _ _ us hl => match us, hl with | [_, _], _ => rfl
  have b35 := F35.binds (ps := ["_law_stock_here", "_law_limit"]) fun _ _ _ _ _ _ us hl => match us, hl with | [_, _], _ => rfl
  have b36 := F36.binds (ps := ["_law_told", "_law_due"]) fun _ _ _ _ _ _ us hl => match us, hl with | [_, _], _ => rfl
  have b37 := F37.binds (ps := ["_law_terms_here"]) fun _ _ _ _ _ _ us hl => match us, hl with | [_], _ => rfl
  have b38 := F38.binds (ps := ["_law_one", "_law_other"]) fun _ _ _ _ _ _ us hl => match us, hl with | [_, _], _ => rfl
  have b39 := F39.binds (ps := ["_law_one", "_law_other"]) fun _ _ _ _ _ _ us hl => match us, hl with | [_, _], _ => rfl
  have b40 := F40.binds (ps := ["_law_stock_here", "_law_many", "_law_most", "_law_span", "_law_great"]) fun _ _ _ _ _ _ us hl => match us, hl with | [_, _, _, _, _], _ => rfl
  have b41 := F41.binds (ps := ["_law_stock_here", "_law_many"]) fun _ _ _ _ _ _ us hl => match us, hl with | [_, _], _ => rfl
  have b42 := F42.binds (ps := ["_law_stock_here", "_law_many", "_law_count"]) fun _ _ _ _ _ _ us hl => match us, hl with | [_, _, _], _ => rfl
  have b43 := F43.binds (ps := ["_law_one", "_law_terms_here", "_law_most"]) fun _ _ _ _ _ _ us hl => match us, hl with | [_, _, _], _ => rfl
  have b44 := F44.binds (ps := ["_law_stock_here", "_law_whole", "_law_many"]) fun _ _ _ _ _ _ us hl => match us, hl with | [_, _, _], _ => rfl
  have b45 := F45.binds (ps := ["_law_first", "_law_second"]) fun _ _ _ _ _ _ us hl => match us, hl with | [_, _], _ => rfl
  have D : Defs K mg (fun i => [f0, f1, f2, f3, f4, f5, f6, f7, f8, f9, f10, f11, f12, f13, f14, f15, f16, f17, f18, f19, f20, f21, f22, f23, f24, f25, f26, f27, f28, f29, f30, f31, f32, f33, f34, f35, f36, f37, f38, f39, f40, f41, f42, f43, f44, f45].getD i f0) (fun i => [PySem.W.fnOf "letter_of" "letter_of" (defArgs s_letter_of) (defBody s_letter_of) (defScope s_letter_of) .none kV0 dc0 pm0 an0 cd0 ct0, PySem.W.fnOf "lines_of" "lines_of" (defArgs s_lines_of) (defBody s_lines_of) (defScope s_lines_of) .none kV1 dc1 pm1 an1 cd1 ct1, PySem.W.fnOf "least_of" "least_of" (defArgs s_least_of) (defBody s_least_of) (defScope s_least_of) .none kV2 dc2 pm2 an2 cd2 ct2, PySem.W.fnOf "moved" "moved" (defArgs s_moved) (defBody s_moved) (defScope s_moved) .none kV3 dc3 pm3 an3 cd3 ct3, PySem.W.fnOf "sum_of_terms" "sum_of_terms" (defArgs s_sum_of_terms) (defBody s_sum_of_terms) (defScope s_sum_of_terms) .none kV4 dc4 pm4 an4 cd4 ct4, PySem.W.fnOf "added" "added" (defArgs s_added) (defBody s_added) (defScope s_added) .none kV5 dc5 pm5 an5 cd5 ct5, PySem.W.fnOf "with_powers" "with_powers" (defArgs s_with_powers) (defBody s_with_powers) (defScope s_with_powers) .none kV6 dc6 pm6 an6 cd6 ct6, PySem.W.fnOf "without_letters" "without_letters" (defArgs s_without_letters) (defBody s_without_letters) (defScope s_without_letters) .none kV7 dc7 pm7 an7 (.ref cA) ct7, PySem.W.fnOf "reach_of" "reach_of" (defArgs s_reach_of) (defBody s_reach_of) (defScope s_reach_of) .none kV8 dc8 pm8 an8 cd8 ct8, PySem.W.fnOf "width_for" "width_for" (defArgs s_width_for) (defBody s_width_for) (defScope s_width_for) .none kV9 dc9 pm9 an9 cd9 ct9, PySem.W.fnOf "packed" "packed" (defArgs s_packed) (defBody s_packed) (defScope s_packed) .none kV10 dc10 pm10 an10 cd10 ct10, PySem.W.fnOf "unpacker" "unpacker" (defArgs s_unpacker) (defBody s_unpacker) (defScope s_unpacker) .none kV11 dc11 pm11 an11 cd11 ct11, PySem.W.fnOf "powers_at" "powers_at" (defArgs s_powers_at) (defBody s_powers_at) (defScope s_powers_at) .none kV12 dc12 pm12 an12 cd12 ct12, PySem.W.fnOf "unpacked" "unpacked" (defArgs s_unpacked) (defBody s_unpacked) (defScope s_unpacked) .none kV13 dc13 pm13 an13 cd13 ct13, PySem.W.fnOf "packed_plus" "packed_plus" (defArgs s_packed_plus) (defBody s_packed_plus) (defScope s_packed_plus) .none kV14 dc14 pm14 an14 cd14 ct14, PySem.W.fnOf "packed_times" "packed_times" (defArgs s_packed_times) (defBody s_packed_times) (defScope s_packed_times) .none kV15 dc15 pm15 an15 cd15 ct15, PySem.W.fnOf "whole_power" "whole_power" (defArgs s_whole_power) (defBody s_whole_power) (defScope s_whole_power) .none kV16 dc16 pm16 an16 cd16 ct16, PySem.W.fnOf "packed_by_power" "packed_by_power" (defArgs s_packed_by_power) (defBody s_packed_by_power) (defScope s_packed_by_power) .none kV17 dc17 pm17 an17 cd17 ct17, PySem.W.fnOf "product_of" "product_of" (defArgs s_product_of) (defBody s_product_of) (defScope s_product_of) .none kV18 dc18 pm18 an18 cd18 ct18, PySem.W.fnOf "lifted" "lifted" (defArgs s_lifted) (defBody s_lifted) (defScope s_lifted) .none kV19 dc19 pm19 an19 cd19 ct19, PySem.W.fnOf "value_of" "value_of" (defArgs s_value_of) (defBody s_value_of) (defScope s_value_of) .none kV20 dc20 pm20 an20 cd20 ct20, PySem.W.fnOf "gathered" "gathered" (defArgs s_gathered) (defBody s_gathered) (defScope s_gathered) .none kV21 dc21 pm21 an21 cd21 ct21, PySem.W.fnOf "is_sum" "is_sum" (defArgs s_is_sum) (defBody s_is_sum) (defScope s_is_sum) .none kV22 dc22 pm22 an22 cd22 ct22, PySem.W.fnOf "check_sum" "check_sum" (defArgs s_check_sum) (defBody s_check_sum) (defScope s_check_sum) .none kV23 dc23 pm23 an23 cd23 ct23, PySem.W.fnOf "letters_of" "letters_of" (defArgs s_letters_of) (defBody s_letters_of) (defScope s_letters_of) .none kV24 dc24 pm24 an24 cd24 ct24, PySem.W.fnOf "letter" "letter" (defArgs s_letter) (defBody s_letter) (defScope s_letter) .none kV25 dc25 pm25 an25 cd25 ct25, PySem.W.fnOf "plus" "plus" (defArgs s_plus) (defBody s_plus) (defScope s_plus) .none kV26 dc26 pm26 an26 cd26 ct26, PySem.W.fnOf "times" "times" (defArgs s_times) (defBody s_times) (defScope s_times) .none kV27 dc27 pm27 an27 cd27 ct27, PySem.W.fnOf "power" "power" (defArgs s_power) (defBody s_power) (defScope s_power) .none kV28 dc28 pm28 an28 cd28 ct28, PySem.W.fnOf "least_powers" "least_powers" (defArgs s_least_powers) (defBody s_least_powers) (defScope s_least_powers) .none kV29 dc29 pm29 an29 cd29 ct29, PySem.W.fnOf "freed" "freed" (defArgs s_freed) (defBody s_freed) (defScope s_freed) .none kV30 dc30 pm30 an30 cd30 ct30, PySem.W.fnOf "ones" "ones" (defArgs s_ones) (defBody s_ones) (defScope s_ones) .none kV31 dc31 pm31 an31 cd31 ct31, PySem.W.fnOf "value" "value" (defArgs s_value) (defBody s_value) (defScope s_value) .none kV32 dc32 pm32 an32 cd32 ct32, PySem.W.fnOf "_law_stock" "_law_stock" (defArgs s__law_stock) (defBody s__law_stock) (defScope s__law_stock) .none kV33 dc33 pm33 an33 cd33 ct33, PySem.W.fnOf "_law_pick" "_law_pick" (defArgs s__law_pick) (defBody s__law_pick) (defScope s__law_pick) .none kV34 dc34 pm34 an34 cd34 ct34, PySem.W.fnOf "_law_wide" "_law_wide" (defArgs s__law_wide) (defBody s__law_wide) (defScope s__law_wide) .none kV35 dc35 pm35 an35 cd35 ct35, PySem.W.fnOf "_law_same" "_law_same" (defArgs s__law_same) (defBody s__law_same) (defScope s__law_same) .none kV36 dc36 pm36 an36 cd36 ct36, PySem.W.fnOf "_law_written" "_law_written" (defArgs s__law_written) (defBody s__law_written) (defScope s__law_written) .none kV37 dc37 pm37 an37 cd37 ct37, PySem.W.fnOf "_law_plus" "_law_plus" (defArgs s__law_plus) (defBody s__law_plus) (defScope s__law_plus) .none kV38 dc38 pm38 an38 cd38 ct38, PySem.W.fnOf "_law_times" "_law_times" (defArgs s__law_times) (defBody s__law_times) (defScope s__law_times) .none kV39 dc39 pm39 an39 cd39 ct39, PySem.W.fnOf "_law_terms" "_law_terms" (defArgs s__law_terms) (defBody s__law_terms) (defScope s__law_terms) .none kV40 dc40 pm40 an40 cd40 ct40, PySem.W.fnOf "_law_two" "_law_two" (defArgs s__law_two) (defBody s__law_two) (defScope s__law_two) .none kV41 dc41 pm41 an41 cd41 ct41, PySem.W.fnOf "_law_long" "_law_long" (defArgs s__law_long) (defBody s__law_long) (defScope s__law_long) .none kV42 dc42 pm42 an42 cd42 ct42, PySem.W.fnOf "_law_is_power" "_law_is_power" (defArgs s__law_is_power) (defBody s__law_is_power) (defScope s__law_is_power) .none kV43 dc43 pm43 an43 cd43 ct43, PySem.W.fnOf "_law_goes_on" "_law_goes_on" (defArgs s__law_goes_on) (defBody s__law_goes_on) (defScope s__law_goes_on) .none kV44 dc44 pm44 an44 cd44 ct44, PySem.W.fnOf "_law_is_right" "_law_is_right" (defArgs s__law_is_right) (defBody s__law_is_right) (defScope s__law_is_right) .none kV45 dc45 pm45 an45 cd45 ct45].getD i (PySem.W.fnOf "letter_of" "letter_of" (defArgs s_letter_of) (defBody s_letter_of) (defScope s_letter_of) .none kV0 dc0 pm0 an0 cd0 ct0)) := {
    F_letter_of := F0, b_letter_of := b0, g_letter_of := PySem.W.mg_of X G a0,
    F_lines_of := F1, b_lines_of := b1, g_lines_of := PySem.W.mg_of X G a1,
    F_least_of := F2, b_least_of := b2, g_least_of := PySem.W.mg_of X G a2,
    F_moved := F3, b_moved := b3, g_moved := PySem.W.mg_of X G a3,
    F_sum_of_terms := F4, b_sum_of_terms := b4, g_sum_of_terms := PySem.W.mg_of X G a4,
    F_added := F5, b_added := b5, g_added := PySem.W.mg_of X G a5,
    F_with_powers := F6, b_with_powers := b6, g_with_powers := PySem.W.mg_of X G a6,
    F_without_letters := F7, b_without_letters := b7, g_without_letters := PySem.W.mg_of X G a7,
    F_reach_of := F8, b_reach_of := b8, g_reach_of := PySem.W.mg_of X G a8,
    F_width_for := F9, b_width_for := b9, g_width_for := PySem.W.mg_of X G a9,
    F_packed := F10, b_packed := b10, g_packed := PySem.W.mg_of X G a10,
    F_unpacker := F11, b_unpacker := b11, g_unpacker := PySem.W.mg_of X G a11,
    F_powers_at := F12, b_powers_at := b12, g_powers_at := PySem.W.mg_of X G a12,
    F_unpacked := F13, b_unpacked := b13, g_unpacked := PySem.W.mg_of X G a13,
    F_packed_plus := F14, b_packed_plus := b14, g_packed_plus := PySem.W.mg_of X G a14,
    F_packed_times := F15, b_packed_times := b15, g_packed_times := PySem.W.mg_of X G a15,
    F_whole_power := F16, b_whole_power := b16, g_whole_power := PySem.W.mg_of X G a16,
    F_packed_by_power := F17, b_packed_by_power := b17, g_packed_by_power := PySem.W.mg_of X G a17,
    F_product_of := F18, b_product_of := b18, g_product_of := PySem.W.mg_of X G a18,
    F_lifted := F19, b_lifted := b19, g_lifted := PySem.W.mg_of X G a19,
    F_value_of := F20, b_value_of := b20, g_value_of := PySem.W.mg_of X G a20,
    F_gathered := F21, b_gathered := b21, g_gathered := PySem.W.mg_of X G a21,
    F_is_sum := F22, b_is_sum := b22, g_is_sum := PySem.W.mg_of X G a22,
    F_check_sum := F23, b_check_sum := b23, g_check_sum := PySem.W.mg_of X G a23,
    F_letters_of := F24, b_letters_of := b24, g_letters_of := PySem.W.mg_of X G a24,
    F_letter := F25, b_letter := b25, g_letter := PySem.W.mg_of X G a25,
    F_plus := F26, b_plus := b26, g_plus := PySem.W.mg_of X G a26,
    F_times := F27, b_times := b27, g_times := PySem.W.mg_of X G a27,
    F_power := F28, b_power := b28, g_power := PySem.W.mg_of X G a28,
    F_least_powers := F29, b_least_powers := b29, g_least_powers := PySem.W.mg_of X G a29,
    F_freed := F30, b_freed := b30, g_freed := PySem.W.mg_of X G a30,
    F_ones := F31, b_ones := b31, g_ones := PySem.W.mg_of X G a31,
    F_value := F32, b_value := b32, g_value := PySem.W.mg_of X G a32,
    F__law_stock := F33, b__law_stock := b33, g__law_stock := PySem.W.mg_of X G a33,
    F__law_pick := F34, b__law_pick := b34, g__law_pick := PySem.W.mg_of X G a34,
    F__law_wide := F35, b__law_wide := b35, g__law_wide := PySem.W.mg_of X G a35,
    F__law_same := F36, b__law_same := b36, g__law_same := PySem.W.mg_of X G a36,
    F__law_written := F37, b__law_written := b37, g__law_written := PySem.W.mg_of X G a37,
    F__law_plus := F38, b__law_plus := b38, g__law_plus := PySem.W.mg_of X G a38,
    F__law_times := F39, b__law_times := b39, g__law_times := PySem.W.mg_of X G a39,
    F__law_terms := F40, b__law_terms := b40, g__law_terms := PySem.W.mg_of X G a40,
    F__law_two := F41, b__law_two := b41, g__law_two := PySem.W.mg_of X G a41,
    F__law_long := F42, b__law_long := b42, g__law_long := PySem.W.mg_of X G a42,
    F__law_is_power := F43, b__law_is_power := b43, g__law_is_power := PySem.W.mg_of X G a43,
    F__law_goes_on := F44, b__law_goes_on := b44, g__law_goes_on := PySem.W.mg_of X G a44,
    F__law_is_right := F45, b__law_is_right := b45, g__law_is_right := PySem.W.mg_of X G a45,
    z_ValueError := PySem.W.mg_none_of X G z0,
    z_abs := PySem.W.mg_none_of X G z1,
    z_bool := PySem.W.mg_none_of X G z2,
    z_enumerate := PySem.W.mg_none_of X G z3,
    z_int := PySem.W.mg_none_of X G z4,
    z_isinstance := PySem.W.mg_none_of X G z5,
    z_len := PySem.W.mg_none_of X G z6,
    z_list := PySem.W.mg_none_of X G z7,
    z_max := PySem.W.mg_none_of X G z8,
    z_min := PySem.W.mg_none_of X G z9,
    z_range := PySem.W.mg_none_of X G z10,
    z_reversed := PySem.W.mg_none_of X G z11,
    z_sorted := PySem.W.mg_none_of X G z12,
    z_str := PySem.W.mg_none_of X G z13,
    z_sum := PySem.W.mg_none_of X G z14,
    z_tuple := PySem.W.mg_none_of X G z15,
    z_zip := PySem.W.mg_none_of X G z16 }
  refine ⟨PySem.W.fnOf "law" "law" (defArgs s_law) (defBody s_law) (defScope s_law) .none kV46 dc46 pm46 an46 cd46 ct46, [(cA, Pt)], spLaw K Pt, fun p hp => ?_, fun p hp => ?_, fun p hp => ?_, fun s v => .of_eq rfl, fun H a ns hl _ hH hS => ⟨a, ns, rfl, hS, hl, fun p hp => ?_, fun _ => rfl⟩, fun base _ _ hTB => ok_law F46 D (PySem.W.mg_of X G mg1) ⟨_, PySem.W.mg_of X G mc0, ⟨_, rfl⟩⟩ rfl (hTB (cA, Pt) (List.mem_singleton.mpr rfl))⟩
  · cases List.mem_singleton.mp hp
    exact tabs _ hPt
  · cases List.mem_singleton.mp hp
    exact nT
  · cases List.mem_singleton.mp hp
    exact PySem.W.codeHd_of_K X hcd
  · cases List.mem_singleton.mp hp
    exact TabS.nil (hH (cA, Pt) (List.mem_singleton.mpr rfl))
end NH
open PySem PySem.W PyProof.Rows
set_option maxHeartbeats 0 in
theorem PySem.Challenge.cw_neverhalves_k01_whole_plus_times_power_holds : PySem.Challenge.rw_neverhalves_k01_whole_plus_times_power.Holds := by
  w_on; o_law; k_head; (case hw => w_witness2)
  k_fill
  refine LamX.walk_ofTs (l := PySem.Challenge.rw_neverhalves_k01_whole_plus_times_power) (n := 63) (k := 13) (x := "_law_script") (CX := fun _ => L2.CX0) rfl (by decide) rfl ⟨rfl, by decide, by decide⟩ (fun w h Y => PySem.W.km_in_of Y) ?F (fun _ _ _ _ _ h => h)
  case F =>
    intro w mg fa h Y KX G hmg
    have tabs := PySem.W.km_tabs_of Y
    refine' NH.all_mk KX G hmg ?a0 ?l0 ?c0 ?k0 ?a1 ?l1 ?c1 ?k1 ?a2 ?l2 ?c2 ?k2 ?a3 ?l3 ?c3 ?k3 ?a4 ?l4 ?c4 ?k4 ?a5 ?l5 ?c5 ?k5 ?a6 ?l6 ?c6 ?k6 ?a7 ?l7 ?c7 ?k7 ?a8 ?l8 ?c8 ?k8 ?a9 ?l9 ?c9 ?k9 ?a10 ?l10 ?c10 ?k10 ?a11 ?l11 ?c11 ?k11 ?a12 ?l12 ?c12 ?k12 ?a13 ?l13 ?c13 ?k13 ?a14 ?l14 ?c14 ?k14 ?a15 ?l15 ?c15 ?k15 ?a16 ?l16 ?c16 ?k16 ?a17 ?l17 ?c17 ?k17 ?a18 ?l18 ?c18 ?k18 ?a19 ?l19 ?c19 ?k19 ?a20 ?l20 ?c20 ?k20 ?a21 ?l21 ?c21 ?k21 ?a22 ?l22 ?c22 ?k22 ?a23 ?l23 ?c23 ?k23 ?a24 ?l24 ?c24 ?k24 ?a25 ?l25 ?c25 ?k25 ?a26 ?l26 ?c26 ?k26 ?a27 ?l27 ?c27 ?k27 ?a28 ?l28 ?c28 ?k28 ?a29 ?l29 ?c29 ?k29 ?a30 ?l30 ?c30 ?k30 ?a31 ?l31 ?c31 ?k31 ?a32 ?l32 ?c32 ?k32 ?a33 ?l33 ?c33 ?k33 ?a34 ?l34 ?c34 ?k34 ?a35 ?l35 ?c35 ?k35 ?a36 ?l36 ?c36 ?k36 ?a37 ?l37 ?c37 ?k37 ?a38 ?l38 ?c38 ?k38 ?a39 ?l39 ?c39 ?k39 ?a40 ?l40 ?c40 ?k40 ?a41 ?l41 ?c41 ?k41 ?a42 ?l42 ?c42 ?k42 ?a43 ?l43 ?c43 ?k43 ?a44 ?l44 ?c44 ?k44 ?a45 ?l45 ?c45 ?k45 ?a46 ?l46 ?c46 ?k46 ?z0 ?z1 ?z2 ?z3 ?z4 ?z5 ?z6 ?z7 ?z8 ?z9 ?z10 ?z11 ?z12 ?z13 ?z14 ?z15 ?z16 ?mg1 ?mc0 tabs ?hPt ?nT ?hcd
    (case a0 => k_is); (case l0 => k_is); (case c0 => k_is); (case k0 => k_is); (case a1 => k_is); (case l1 => k_is); (case c1 => k_is); (case k1 => k_is); (case a2 => k_is); (case l2 => k_is); (case c2 => k_is); (case k2 => k_is); (case a3 => k_is); (case l3 => k_is); (case c3 => k_is); (case k3 => k_is); (case a4 => k_is); (case l4 => k_is); (case c4 => k_is); (case k4 => k_is); (case a5 => k_is); (case l5 => k_is); (case c5 => k_is); (case k5 => k_is); (case a6 => k_is); (case l6 => k_is); (case c6 => k_is); (case k6 => k_is); (case a7 => k_is); (case l7 => k_is); (case c7 => k_is); (case k7 => k_is); (case a8 => k_is); (case l8 => k_is); (case c8 => k_is); (case k8 => k_is); (case a9 => k_is); (case l9 => k_is); (case c9 => k_is); (case k9 => k_is); (case a10 => k_is); (case l10 => k_is); (case c10 => k_is); (case k10 => k_is); (case a11 => k_is); (case l11 => k_is); (case c11 => k_is); (case k11 => k_is); (case a12 => k_is); (case l12 => k_is); (case c12 => k_is); (case k12 => k_is); (case a13 => k_is); (case l13 => k_is); (case c13 => k_is); (case k13 => k_is); (case a14 => k_is); (case l14 => k_is); (case c14 => k_is); (case k14 => k_is); (case a15 => k_is); (case l15 => k_is); (case c15 => k_is); (case k15 => k_is); (case a16 => k_is); (case l16 => k_is); (case c16 => k_is); (case k16 => k_is); (case a17 => k_is); (case l17 => k_is); (case c17 => k_is); (case k17 => k_is); (case a18 => k_is); (case l18 => k_is); (case c18 => k_is); (case k18 => k_is); (case a19 => k_is); (case l19 => k_is); (case c19 => k_is); (case k19 => k_is); (case a20 => k_is); (case l20 => k_is); (case c20 => k_is); (case k20 => k_is); (case a21 => k_is); (case l21 => k_is); (case c21 => k_is); (case k21 => k_is); (case a22 => k_is); (case l22 => k_is); (case c22 => k_is); (case k22 => k_is); (case a23 => k_is); (case l23 => k_is); (case c23 => k_is); (case k23 => k_is); (case a24 => k_is); (case l24 => k_is); (case c24 => k_is); (case k24 => k_is); (case a25 => k_is); (case l25 => k_is); (case c25 => k_is); (case k25 => k_is); (case a26 => k_is); (case l26 => k_is); (case c26 => k_is); (case k26 => k_is); (case a27 => k_is); (case l27 => k_is); (case c27 => k_is); (case k27 => k_is); (case a28 => k_is); (case l28 => k_is); (case c28 => k_is); (case k28 => k_is); (case a29 => k_is); (case l29 => k_is); (case c29 => k_is); (case k29 => k_is); (case a30 => k_is); (case l30 => k_is); (case c30 => k_is); (case k30 => k_is); (case a31 => k_is); (case l31 => k_is); (case c31 => k_is); (case k31 => k_is); (case a32 => k_is); (case l32 => k_is); (case c32 => k_is); (case k32 => k_is); (case a33 => k_is); (case l33 => k_is); (case c33 => k_is); (case k33 => k_is); (case a34 => k_is); (case l34 => k_is); (case c34 => k_is); (case k34 => k_is); (case a35 => k_is); (case l35 => k_is); (case c35 => k_is); (case k35 => k_is); (case a36 => k_is); (case l36 => k_is); (case c36 => k_is); (case k36 => k_is); (case a37 => k_is); (case l37 => k_is); (case c37 => k_is); (case k37 => k_is); (case a38 => k_is); (case l38 => k_is); (case c38 => k_is); (case k38 => k_is); (case a39 => k_is); (case l39 => k_is); (case c39 => k_is); (case k39 => k_is); (case a40 => k_is); (case l40 => k_is); (case c40 => k_is); (case k40 => k_is); (case a41 => k_is); (case l41 => k_is); (case c41 => k_is); (case k41 => k_is); (case a42 => k_is); (case l42 => k_is); (case c42 => k_is); (case k42 => k_is); (case a43 => k_is); (case l43 => k_is); (case c43 => k_is); (case k43 => k_is); (case a44 => k_is); (case l44 => k_is); (case c44 => k_is); (case k44 => k_is); (case a45 => k_is); (case l45 => k_is); (case c45 => k_is); (case k45 => k_is); (case a46 => k_is); (case l46 => k_is); (case c46 => k_is); (case k46 => k_is); (case z0 => k_is); (case z1 => k_is); (case z2 => k_is); (case z3 => k_is); (case z4 => k_is); (case z5 => k_is); (case z6 => k_is); (case z7 => k_is); (case z8 => k_is); (case z9 => k_is); (case z10 => k_is); (case z11 => k_is); (case z12 => k_is); (case z13 => k_is); (case z14 => k_is); (case z15 => k_is); (case z16 => k_is); (case mg1 => k_is); (case mc0 => k_is); (case hPt => exact List.mem_singleton.mpr rfl); (case nT => first | k_is | rfl | decide +kernel); (case hcd => first | k_is | rfl | decide +kernel)
