import PyProof.Rows.All
import Wide.All
import OpenK.AllK
import Wide.FinOn
import HandS.ForMost
import HandS.IsInst
import HandS.Zip
import HandS.Style
import HandS.Walk
import HandS.Flow
import HandS.Conv
import HandS.RaiseMore
import HandS.NoneIn
import HandS.WordsList
import HandS.Deep
import PySem.Challenge.RW_partnercall_k00_pairings_or_not
set_option Elab.async false
set_option linter.all false
set_option maxRecDepth 100000
set_option maxHeartbeats 4000000
namespace RZ
end RZ
namespace Pc
open PySem PySem.Spec PyProof.Rows L2 RZ
/-! ### heaps -/
/-- all that was tracked, but for b, is as it was -/
def Keep (b : Addr) (H H' : Hp) : Prop := ∀ a o, a ≠ b → H a = some o → H' a = some o
theorem Keep.refl (b : Addr) (H : Hp) : Keep b H H := fun _ _ _ h => h
theorem Keep.trans {b : Addr} {H H1 H2 : Hp} (p : Keep b H H1) (q : Keep b H1 H2) : Keep b H H2 := fun a o n h => q a o n (p a o n h)
theorem Keep.of_same {b : Addr} {H H' : Hp} (s : Same H H') : Keep b H H' := fun a o _ h => s a o h
theorem same_new {H : Hp} {p : Addr} {o : HO} (h : H p = none) : Same H (upd H p o) := fun b x e => by
  rw [upd_ne (ne_of_none e h)]; exact e
theorem keep_upd {H : Hp} {b : Addr} {o : HO} : Keep b H (upd H b o) := fun a x n e => by
  rw [upd_ne n]; exact e
/-- a list, a tuple under Keep -/
theorem Keep.tup {b : Addr} {H H' : Hp} (k : Keep b H H') {a : Addr} {xs ys : List V} (hb : H b = some (.lst ys)) (h : H a = some (.tup xs)) : H' a = some (.tup xs) :=
  k a _ (fun e => by rw [e, hb] at h; cases h) h
/-! ### small numbers -/
theorem one0 (c : Prop) [Decidable c] : (0 : Int) ≤ (if c then 1 else 0) ∧ (if c then (1 : Int) else 0) ≤ 1 := by
  split <;> decide
theorem in64 {i : Int} (h : 0 ≤ i ∧ i ≤ 1) : -(2 ^ 64) < i ∧ i < 2 ^ 64 := ⟨by omega, by omega⟩
/-! ### the source of draws -/
/-- at b a source that serves n more draws -/
def Box (n : Nat) (H : Hp) (b : Addr) : Prop := ∃ x y z : Int, H b = some (.lst [.int x, .int y, .int z]) ∧ 0 ≤ x ∧ 0 ≤ y ∧ y < 2 ^ 62 ∧ 0 ≤ z ∧ z + n ≤ 1000000000
theorem Box.lst {n : Nat} {H : Hp} {b : Addr} (h : Box n H b) : ∃ ys, H b = some (.lst ys) := let ⟨_, _, _, e, _⟩ := h; ⟨_, e⟩
theorem Box.mono {n m : Nat} {H : Hp} {b : Addr} (h : Box n H b) (l : m ≤ n) : Box m H b := by
  obtain ⟨x, y, z, e, h1, h2, h3, h4, h5⟩ := h
  exact ⟨x, y, z, e, h1, h2, h3, h4, by omega⟩
theorem Box.same {n : Nat} {H H' : Hp} {b : Addr} (h : Box n H b) (s : Same H H') : Box n H' b := by
  obtain ⟨x, y, z, e, r⟩ := h
  exact ⟨x, y, z, s _ _ e, r⟩
theorem Box.keep {n : Nat} {H H' : Hp} {b c : Addr} (h : Box n H b) (k : Keep c H H') (d : b ≠ c) : Box n H' b := by
  obtain ⟨x, y, z, e, r⟩ := h
  exact ⟨x, y, z, k _ _ d e, r⟩
theorem Box.ne_new {n : Nat} {H : Hp} {b p : Addr} (h : Box n H b) (np : H p = none) : b ≠ p := by
  obtain ⟨x, y, z, e, r⟩ := h
  exact ne_of_none e np
theorem Box.ne_tup {n : Nat} {H : Hp} {b p : Addr} {xs : List V} (h : Box n H b) (e2 : H p = some (.tup xs)) : p ≠ b := by
  obtain ⟨x, y, z, e, r⟩ := h
  intro q; rw [q, e] at e2; cases e2
end Pc
namespace Pc
open PySem PySem.Spec PyProof.Rows L2 RZ
def topS (i : Nat) : Stmt := PySem.Challenge.pw_partnercall_k00_pairings_or_not.main.body.getD i (.Pass ⟨0, 0, 0, 0⟩)
abbrev s_p_is_integer_below : Stmt := topS 1
abbrev N_p_is_integer_below : List Str := ["value", "limit"]
theorem sc_p_is_integer_below : FnScope ["value", "limit"] ["value", "limit"] (defScope s_p_is_integer_below) := ⟨rfl, rfl, rfl, by decide +kernel, rfl, by decide +kernel, by decide +kernel⟩
abbrev s_p_joins_in_pairs : Stmt := topS 2
abbrev N_p_joins_in_pairs : List Str := ["value", "at", "other", "item"]
theorem sc_p_joins_in_pairs : FnScope ["value", "at", "other", "item"] ["value"] (defScope s_p_joins_in_pairs) := ⟨rfl, rfl, rfl, by decide +kernel, rfl, by decide +kernel, by decide +kernel⟩
abbrev s_p_is_pairing : Stmt := topS 3
abbrev N_p_is_pairing : List Str := ["value"]
theorem sc_p_is_pairing : FnScope ["value"] ["value"] (defScope s_p_is_pairing) := ⟨rfl, rfl, rfl, by decide +kernel, rfl, by decide +kernel, by decide +kernel⟩
abbrev s_box : Stmt := topS 5
abbrev N_box : List Str := ["_law_script", "_law_k", "_law_cell"]
theorem sc_box : FnScope ["_law_script", "_law_k", "_law_cell"] ["_law_script", "_law_k"] (defScope s_box) := ⟨rfl, rfl, rfl, by decide +kernel, rfl, by decide +kernel, by decide +kernel⟩
abbrev s_take : Stmt := topS 6
abbrev N_take : List Str := ["_law_box_here", "_law_span", "_law_found", "_law_once"]
theorem sc_take : FnScope ["_law_box_here", "_law_span", "_law_found", "_law_once"] ["_law_box_here", "_law_span"] (defScope s_take) := ⟨rfl, rfl, rfl, by decide +kernel, rfl, by decide +kernel, by decide +kernel⟩
abbrev s_cells : Stmt := topS 7
abbrev N_cells : List Str := ["_law_script", "_law_most", "_law_cells_here", "_law_k", "_law_cell"]
theorem sc_cells : FnScope ["_law_script", "_law_most", "_law_cells_here", "_law_k", "_law_cell"] ["_law_script", "_law_most"] (defScope s_cells) := ⟨rfl, rfl, rfl, by decide +kernel, rfl, by decide +kernel, by decide +kernel⟩
abbrev s_of : Stmt := topS 8
abbrev N_of : List Str := ["_law_box_here", "_law_some"]
theorem sc_of : FnScope ["_law_box_here", "_law_some"] ["_law_box_here", "_law_some"] (defScope s_of) := ⟨rfl, rfl, rfl, by decide +kernel, rfl, by decide +kernel, by decide +kernel⟩
abbrev s_strewn : Stmt := topS 9
abbrev N_strewn : List Str := ["_law_box_here", "_law_some", "_law_left", "_law_found"]
theorem sc_strewn : FnScope ["_law_box_here", "_law_some", "_law_left", "_law_found"] ["_law_box_here", "_law_some"] (defScope s_strewn) := ⟨rfl, rfl, rfl, by decide +kernel, rfl, by decide +kernel, by decide +kernel⟩
abbrev s_same : Stmt := topS 10
abbrev N_same : List Str := ["_law_found", "_law_due", "_law_mine", "_law_its"]
theorem sc_same : FnScope ["_law_found", "_law_due", "_law_mine", "_law_its"] ["_law_found", "_law_due"] (defScope s_same) := ⟨rfl, rfl, rfl, by decide +kernel, rfl, by decide +kernel, by decide +kernel⟩
abbrev s_paired : Stmt := topS 11
abbrev N_paired : List Str := ["_law_order", "_law_found", "_law_k"]
theorem sc_paired : FnScope ["_law_order", "_law_found", "_law_k"] ["_law_order"] (defScope s_paired) := ⟨rfl, rfl, rfl, by decide +kernel, rfl, by decide +kernel, by decide +kernel⟩
abbrev s_random : Stmt := topS 12
abbrev N_random : List Str := ["_law_box_here", "_law_count"]
theorem sc_random : FnScope ["_law_box_here", "_law_count"] ["_law_box_here", "_law_count"] (defScope s_random) := ⟨rfl, rfl, rfl, by decide +kernel, rfl, by decide +kernel, by decide +kernel⟩
abbrev s_changed : Stmt := topS 13
abbrev N_changed : List Str := ["_law_box_here", "_law_matter", "_law_sort", "_law_some", "_law_at", "_law_place"]
theorem sc_changed : FnScope ["_law_box_here", "_law_matter", "_law_sort", "_law_some", "_law_at", "_law_place"] ["_law_box_here", "_law_matter"] (defScope s_changed) := ⟨rfl, rfl, rfl, by decide +kernel, rfl, by decide +kernel, by decide +kernel⟩
abbrev s_anything : Stmt := topS 14
abbrev N_anything : List Str := ["_law_box_here", "_law_some"]
theorem sc_anything : FnScope ["_law_box_here", "_law_some"] ["_law_box_here"] (defScope s_anything) := ⟨rfl, rfl, rfl, by decide +kernel, rfl, by decide +kernel, by decide +kernel⟩
abbrev s_is_due : Stmt := topS 15
abbrev N_is_due : List Str := ["_law_matter", "_law_who", "_law_mate"]
theorem sc_is_due : FnScope ["_law_matter", "_law_who", "_law_mate"] ["_law_matter"] (defScope s_is_due) := ⟨rfl, rfl, rfl, by decide +kernel, rfl, by decide +kernel, by decide +kernel⟩
abbrev s_right : Stmt := topS 16
abbrev N_right : List Str := ["_law_box_here", "_law_crowd", "_law_some", "_law_turn", "_law_bent", "_law_matter", "_law_kept", "_law_due"]
theorem sc_right : FnScope ["_law_box_here", "_law_crowd", "_law_some", "_law_turn", "_law_bent", "_law_matter", "_law_kept", "_law_due"] ["_law_box_here"] (defScope s_right) := ⟨rfl, rfl, rfl, by decide +kernel, rfl, by decide +kernel, by decide +kernel⟩
abbrev s_law : Stmt := topS 17
abbrev N_law : List Str := ["_law_script", "_law_cells_here", "_law_k", "_law_box_here", "_law_turn"]
theorem sc_law : FnScope ["_law_script", "_law_cells_here", "_law_k", "_law_box_here", "_law_turn"] ["_law_script"] (defScope s_law) := ⟨rfl, rfl, rfl, by decide +kernel, rfl, by decide +kernel, by decide +kernel⟩
/-- what the top has left: the built-ins' names are free, each def stands at its name -/
structure Env (K : PySem.W.Frag) (mg : Str → Option Value) where
  n_isinstance : mg "isinstance" = none
  n_int : mg "int" = none
  n_bool : mg "bool" = none
  n_len : mg "len" = none
  n_tuple : mg "tuple" = none
  n_all : mg "all" = none
  n_enumerate : mg "enumerate" = none
  n_abs : mg "abs" = none
  n_list : mg "list" = none
  n_zip : mg "zip" = none
  n_str : mg "str" = none
  n_range : mg "range" = none
  n_repr : mg "repr" = none
  f_p_is_integer_below : Addr
  d_p_is_integer_below : FuncData
  F_p_is_integer_below : Fun K "is_integer_below" "is_integer_below" s_p_is_integer_below f_p_is_integer_below d_p_is_integer_below
  g_p_is_integer_below : mg "is_integer_below" = some (.ref f_p_is_integer_below)
  f_p_joins_in_pairs : Addr
  d_p_joins_in_pairs : FuncData
  F_p_joins_in_pairs : Fun K "joins_in_pairs" "joins_in_pairs" s_p_joins_in_pairs f_p_joins_in_pairs d_p_joins_in_pairs
  g_p_joins_in_pairs : mg "joins_in_pairs" = some (.ref f_p_joins_in_pairs)
  f_p_is_pairing : Addr
  d_p_is_pairing : FuncData
  F_p_is_pairing : Fun K "is_pairing" "is_pairing" s_p_is_pairing f_p_is_pairing d_p_is_pairing
  g_p_is_pairing : mg "is_pairing" = some (.ref f_p_is_pairing)
  f_box : Addr
  d_box : FuncData
  F_box : Fun K "_law_box" "_law_box" s_box f_box d_box
  g_box : mg "_law_box" = some (.ref f_box)
  f_take : Addr
  d_take : FuncData
  F_take : Fun K "_law_take" "_law_take" s_take f_take d_take
  g_take : mg "_law_take" = some (.ref f_take)
  f_cells : Addr
  d_cells : FuncData
  F_cells : Fun K "_law_cells" "_law_cells" s_cells f_cells d_cells
  g_cells : mg "_law_cells" = some (.ref f_cells)
  f_of : Addr
  d_of : FuncData
  F_of : Fun K "_law_of" "_law_of" s_of f_of d_of
  g_of : mg "_law_of" = some (.ref f_of)
  f_strewn : Addr
  d_strewn : FuncData
  F_strewn : Fun K "_law_strewn" "_law_strewn" s_strewn f_strewn d_strewn
  g_strewn : mg "_law_strewn" = some (.ref f_strewn)
  f_same : Addr
  d_same : FuncData
  F_same : Fun K "_law_same" "_law_same" s_same f_same d_same
  g_same : mg "_law_same" = some (.ref f_same)
  f_paired : Addr
  d_paired : FuncData
  F_paired : Fun K "_law_paired" "_law_paired" s_paired f_paired d_paired
  g_paired : mg "_law_paired" = some (.ref f_paired)
  f_random : Addr
  d_random : FuncData
  F_random : Fun K "_law_random" "_law_random" s_random f_random d_random
  g_random : mg "_law_random" = some (.ref f_random)
  f_changed : Addr
  d_changed : FuncData
  F_changed : Fun K "_law_changed" "_law_changed" s_changed f_changed d_changed
  g_changed : mg "_law_changed" = some (.ref f_changed)
  f_anything : Addr
  d_anything : FuncData
  F_anything : Fun K "_law_anything" "_law_anything" s_anything f_anything d_anything
  g_anything : mg "_law_anything" = some (.ref f_anything)
  f_is_due : Addr
  d_is_due : FuncData
  F_is_due : Fun K "_law_is_due" "_law_is_due" s_is_due f_is_due d_is_due
  g_is_due : mg "_law_is_due" = some (.ref f_is_due)
  f_right : Addr
  d_right : FuncData
  F_right : Fun K "_law_right" "_law_right" s_right f_right d_right
  g_right : mg "_law_right" = some (.ref f_right)
theorem Env.b_p_is_integer_below {K : PySem.W.Frag} {mg : Str → Option Value} (T : Env K mg) : Binds K T.d_p_is_integer_below ["value", "limit"] [] := T.F_p_is_integer_below.binds fun _ _ _ _ _ _ us hl => match us, hl with | [_, _], _ => rfl
theorem Env.b_p_joins_in_pairs {K : PySem.W.Frag} {mg : Str → Option Value} (T : Env K mg) : Binds K T.d_p_joins_in_pairs ["value"] [] := T.F_p_joins_in_pairs.binds fun _ _ _ _ _ _ us hl => match us, hl with | [_], _ => rfl
theorem Env.b_p_is_pairing {K : PySem.W.Frag} {mg : Str → Option Value} (T : Env K mg) : Binds K T.d_p_is_pairing ["value"] [] := T.F_p_is_pairing.binds fun _ _ _ _ _ _ us hl => match us, hl with | [_], _ => rfl
theorem Env.b_box {K : PySem.W.Frag} {mg : Str → Option Value} (T : Env K mg) : Binds K T.d_box ["_law_script", "_law_k"] [] := T.F_box.binds fun _ _ _ _ _ _ us hl => match us, hl with | [_, _], _ => rfl
theorem Env.b_take {K : PySem.W.Frag} {mg : Str → Option Value} (T : Env K mg) : Binds K T.d_take ["_law_box_here", "_law_span"] [] := T.F_take.binds fun _ _ _ _ _ _ us hl => match us, hl with | [_, _], _ => rfl
theorem Env.b_cells {K : PySem.W.Frag} {mg : Str → Option Value} (T : Env K mg) : Binds K T.d_cells ["_law_script", "_law_most"] [] := T.F_cells.binds fun _ _ _ _ _ _ us hl => match us, hl with | [_, _], _ => rfl
theorem Env.b_of {K : PySem.W.Frag} {mg : Str → Option Value} (T : Env K mg) : Binds K T.d_of ["_law_box_here", "_law_some"] [] := T.F_of.binds fun _ _ _ _ _ _ us hl => match us, hl with | [_, _], _ => rfl
theorem Env.b_strewn {K : PySem.W.Frag} {mg : Str → Option Value} (T : Env K mg) : Binds K T.d_strewn ["_law_box_here", "_law_some"] [] := T.F_strewn.binds fun _ _ _ _ _ _ us hl => match us, hl with | [_, _], _ => rfl
theorem Env.b_same {K : PySem.W.Frag} {mg : Str → Option Value} (T : Env K mg) : Binds K T.d_same ["_law_found", "_law_due"] [] := T.F_same.binds fun _ _ _ _ _ _ us hl => match us, hl with | [_, _], _ => rfl
theorem Env.b_paired {K : PySem.W.Frag} {mg : Str → Option Value} (T : Env K mg) : Binds K T.d_paired ["_law_order"] [] := T.F_paired.binds fun _ _ _ _ _ _ us hl => match us, hl with | [_], _ => rfl
theorem Env.b_random {K : PySem.W.Frag} {mg : Str → Option Value} (T : Env K mg) : Binds K T.d_random ["_law_box_here", "_law_count"] [] := T.F_random.binds fun _ _ _ _ _ _ us hl => match us, hl with | [_, _], _ => rfl
theorem Env.b_changed {K : PySem.W.Frag} {mg : Str → Option Value} (T : Env K mg) : Binds K T.d_changed ["_law_box_here", "_law_matter"] [] := T.F_changed.binds fun _ _ _ _ _ _ us hl => match us, hl with | [_, _], _ => rfl
theorem Env.b_anything {K : PySem.W.Frag} {mg : Str → Option Value} (T : Env K mg) : Binds K T.d_anything ["_law_box_here"] [] := T.F_anything.binds fun _ _ _ _ _ _ us hl => match us, hl with | [_], _ => rfl
theorem Env.b_is_due {K : PySem.W.Frag} {mg : Str → Option Value} (T : Env K mg) : Binds K T.d_is_due ["_law_matter"] [] := T.F_is_due.binds fun _ _ _ _ _ _ us hl => match us, hl with | [_], _ => rfl
theorem Env.b_right {K : PySem.W.Frag} {mg : Str → Option Value} (T : Env K mg) : Binds K T.d_right ["_law_box_here"] [] := T.F_right.binds fun _ _ _ _ _ _ us hl => match us, hl with | [_], _ => rfl
end Pc
namespace Pc
open PySem PySem.Spec PyProof.Rows L2 RZ
section
variable {P : Program} {w : World} {K : PySem.W.Frag} {mg : Str → Option Value} {base : Heap}
/-! ### a source -/
def spBox (K : PySem.W.Frag) : Sp := fun vs H Q _ => ∃ (a : Addr) (ns : List Int) (k : Nat), vs = [.ref a, .int k] ∧ SqL K H a (ns.map V.int) ∧ k ≤ 100 ∧
  ∀ H' b, Same H H' → H b = none → Box 1000000000 H' b → Q (.ref b) H'
theorem ok_box (T : Env K mg) : FnOk P w K mg base CX0 1 T.f_box T.d_box ["_law_script", "_law_k"] (spBox K) := by
  refine T.F_box.ok sc_box (fun vs H Q E h => ?_) (fun cdv A outer s H vs Q E hr h => ?_)
  · obtain ⟨a, ns, k, rfl, _⟩ := h
    rfl
  · obtain ⟨a, ns, k, rfl, hS, hk, q⟩ := h
    refine ⟨_, pss_cons (ps_set (i := 2) sc_box.nd rfl (.inl rfl)
        (pe_ifExp (pt_cmpR op_lt (pv 1) (pe_callB call_len_seq (by rfl) T.n_len PySem.boot_len (pa_cons (pv 0) pa_nil)) (nomark _)) (pe_ix ix_list (pv 0) (pv 1) (fun _ _ => rfl)) pe_int))
      (pss_one (ps_ret (pe_lst (pa_cons
          (pe_op op_mul (pe_callB call_abs (by rfl) T.n_abs (by decide +kernel) (pa_cons (pv 2) pa_nil))
            (pe_callTy call_int1 (by rfl) T.n_int (by decide +kernel) (pa_cons (pe_cmpR op_ge (pe_callB call_abs (by rfl) T.n_abs (by decide +kernel) (pa_cons (pv 2) pa_nil)) (pe_op op_pow pe_int pe_int) (nomark _)) pa_nil)))
        (pa_cons (pe_op op_add (pe_op op_add (pe_op op_mod (pv 2) pe_int) (pe_op op_mul pe_int (pv 1))) pe_int)
        (pa_cons pe_int pa_nil)))))), ?_⟩
    refine ⟨.int k, rfl, .ref a, rfl, a, ns.map V.int, rfl, .inl hS, _, _, rfl, rfl, _, rfl, ite2 (fun e => ?_) (fun e => ?_)⟩
    · have e1 : k < ns.length := by
        have := of_decide_eq_true e
        rw [List.length_map] at this
        omega
      refine ⟨.ref a, rfl, .int k, rfl, a, _, _, _, rfl, rfl, hS, atI_nat (v := .int ns[k]) (by rw [List.getElem?_map, List.getElem?_eq_getElem e1]; rfl), ?_⟩
      revert e; generalize ns[k] = c; intro _
      refine ⟨_, rfl, _, rfl, _, rfl, _, rfl, 10, 18, rfl, rfl, ⟨by decide, by decide, by decide⟩, _, _, rfl, rfl, .inr ⟨_, rfl, _, _, rfl, rfl, .inr (in64 (one0 _)), _, rfl, _, _, rfl, rfl, (show (0 : Int) < 2305843009213693951 by decide), _, rfl, _, _, rfl, rfl, .inl ⟨by decide, by decide⟩, _, _, rfl, rfl, _, _, rfl, rfl, ?_⟩⟩
      refine ⟨by show 3 ≤ sizeLine; decide, fun b nb => q _ b (same_new nb) nb ⟨_, _, 0, upd_same, Int.mul_nonneg ?_ (one0 _).1, ?_, ?_, by decide, by decide⟩⟩
      · split <;> omega
      · omega
      · omega
    · refine ⟨_, rfl, _, rfl, _, rfl, _, rfl, 10, 18, rfl, rfl, ⟨by decide, by decide, by decide⟩, _, _, rfl, rfl, .inr ⟨_, rfl, _, _, rfl, rfl, .inr (in64 (one0 _)), _, rfl, _, _, rfl, rfl, (show (0 : Int) < 2305843009213693951 by decide), _, rfl, _, _, rfl, rfl, .inl ⟨by decide, by decide⟩, _, _, rfl, rfl, _, _, rfl, rfl, ?_⟩⟩
      refine ⟨by show 3 ≤ sizeLine; decide, fun b nb => q _ b (same_new nb) nb ⟨_, _, 0, upd_same, Int.mul_nonneg ?_ (one0 _).1, ?_, ?_, by decide, by decide⟩⟩
      · split <;> omega
      · omega
      · omega
end
end Pc
namespace Pc
open PySem PySem.Spec PyProof.Rows L2 RZ
section
variable {P : Program} {w : World} {K : PySem.W.Frag} {mg : Str → Option Value} {base : Heap}
/-! ### a draw below a span of at most ten million -/
def spTake : Sp := fun vs H Q _ => ∃ (b : Addr) (n : Nat) (s : Int), vs = [.ref b, .int s] ∧ Box (n + 1) H b ∧ 0 < s ∧ s ≤ 10000000 ∧
  ∀ (r : Int) (H' : Hp), 0 ≤ r → r < s → Box n H' b → Keep b H H' → Q (.int r) H'
theorem ok_take (T : Env K mg) : FnOk P w K mg base CX0 1 T.f_take T.d_take ["_law_box_here", "_law_span"] spTake := by
  refine T.F_take.ok sc_take (fun vs H Q E h => ?_) (fun cdv A outer s H vs Q E hr h => ?_)
  · obtain ⟨b, n, s, rfl, _⟩ := h
    rfl
  · obtain ⟨b, n, s, rfl, ⟨x, y, z, hb, hx, hy, hy2, hz, hz2⟩, hs, hs2, q⟩ := h
    refine ⟨_, pss_cons (ps_if (pt_cmpR op_gt (pe_ix ix_list (pv 0) pe_int (fun _ _ => rfl)) pe_int (nomark _))
        (pss_cons (ps_set (i := 2) sc_take.nd rfl (.inl rfl) (pe_op op_mod (pe_ix ix_list (pv 0) pe_int (fun _ _ => rfl)) (pv 1)))
        (pss_cons (ps_asg (pe_op op_fdiv (pe_ix ix_list (pv 0) pe_int (fun _ _ => rfl)) (pv 1)) (pg_sub (pv 0) pe_int set_list))
        (pss_one (ps_ret (pv 2))))) pss_nil)
      (pss_cons (ps_if (pt_cmpR op_gt (pv 1) (pe_op op_pow pe_int pe_int) (nomark _)) pss_never pss_nil)
      (pss_cons (ps_asg (pe_op op_add (pe_ix ix_list (pv 0) pe_int (fun _ _ => rfl)) pe_int) (pg_sub (pv 0) pe_int set_list))
      (pss_cons (ps_set (i := 3) sc_take.nd rfl (.inl rfl) (pe_op op_mod (pe_op op_pow (pe_op op_add (pe_ix ix_list (pv 0) pe_int (fun _ _ => rfl)) (pe_op op_mul pe_int (pe_ix ix_list (pv 0) pe_int (fun _ _ => rfl)))) pe_int) pe_int))
      (pss_one (ps_ret (pe_op op_mod (pe_op op_fdiv (pe_op op_mod (pe_op op_add (pe_op op_mul (pv 3) (pe_op op_add (pe_op op_mod (pv 3) pe_int) pe_int)) (pe_op op_mul (pe_ix ix_list (pv 0) pe_int (fun _ _ => rfl)) pe_int)) pe_int) pe_int) (pv 1))))))), ?_⟩
    have hS : SqL K H b [.int x, .int y, .int z] := .inl (.inl hb)
    refine ⟨.ref b, rfl, b, _, 0, .int x, rfl, rfl, hS, atI_nat (j := 0) rfl, x, 0, rfl, rfl, _, rfl, ite2 (fun e => ?_) (fun e => ?_)⟩
    · -- the number itself serves
      refine ⟨.ref b, rfl, b, _, 0, .int x, rfl, rfl, hS, atI_nat (j := 0) rfl, .int s, rfl, x, s, rfl, rfl, hs, ?_⟩
      refine ⟨.ref b, rfl, b, _, 0, .int x, rfl, rfl, hS, atI_nat (j := 0) rfl, .int s, rfl, x, s, rfl, rfl, ⟨hs, by omega⟩, .ref b, rfl, b, _, 0, 0, rfl, rfl, hb, rfl, ?_⟩
      refine ⟨_, rfl, q _ _ (Int.emod_nonneg _ (by omega)) (Int.emod_lt_of_pos _ hs) ⟨_, y, z, upd_same, ?_, hy, hy2, hz, by omega⟩ keep_upd⟩
      exact Int.ediv_nonneg hx (by omega)
    · refine ⟨.int s, rfl, 10, 7, rfl, rfl, ⟨by decide, by decide, by decide⟩, s, _, rfl, rfl, _, rfl, ite2 (fun e2 => ?_) (fun _ => ?_)⟩
      · have e3 := of_decide_eq_true e2
        have e4 : (10 : Int) ^ Int.toNat 7 = 10000000 := by decide
        rw [e4] at e3
        omega
      refine ⟨.ref b, rfl, b, _, 2, .int z, rfl, rfl, hS, atI_nat (j := 2) rfl, z, 1, rfl, rfl, .ref b, rfl, b, _, 2, 2, rfl, rfl, hb, rfl, ?_⟩
      have h2 : upd H b (.lst ([V.int x, V.int y, V.int z].set 2 (.int (z + 1)))) b = some (.lst [.int x, .int y, .int (z + 1)]) := upd_same
      have hS2 : SqL K (upd H b (.lst ([V.int x, V.int y, V.int z].set 2 (.int (z + 1))))) b [.int x, .int y, .int (z + 1)] := .inl (.inl h2)
      refine ⟨.ref b, rfl, b, _, 1, .int y, rfl, rfl, hS2, atI_nat (j := 1) rfl, .ref b, rfl, b, _, 2, .int (z + 1), rfl, rfl, hS2, atI_nat (j := 2) rfl, 39373, z + 1, rfl, rfl, .inl ⟨by decide, by decide⟩, y, _, rfl, rfl, _, 5, rfl, rfl, ⟨by decide, by decide, by omega⟩, _, 2147483647, rfl, rfl, (show (0 : Int) < 2147483647 by decide), ?_⟩
      have o1 : 0 ≤ (y + 39373 * (z + 1)) ^ Int.toNat 5 % 2147483647 := Int.emod_nonneg _ (by decide)
      have o2 : (y + 39373 * (z + 1)) ^ Int.toNat 5 % 2147483647 < 2147483647 := Int.emod_lt_of_pos _ (by decide)
      refine ⟨_, rfl, _, rfl, _, 40009, rfl, rfl, (show (0 : Int) < 40009 by decide), _, 7, rfl, rfl, _, _, rfl, rfl, .inl ⟨Int.lt_of_lt_of_le (by decide) o1, Int.lt_trans o2 (by decide)⟩, .ref b, rfl, b, _, 2, .int (z + 1), rfl, rfl, hS2, atI_nat (j := 2) rfl, z + 1, 7919, rfl, rfl, .inr ⟨by decide, by decide⟩, _, _, rfl, rfl, _, 2147483629, rfl, rfl, (show (0 : Int) < 2147483629 by decide), _, 64, rfl, rfl, ⟨by decide, by decide⟩, .int s, rfl, _, s, rfl, rfl, hs, ?_⟩
      exact q _ _ (Int.emod_nonneg _ (by omega)) (Int.emod_lt_of_pos _ hs) ⟨x, y, z + 1, h2, hx, hy, hy2, by omega, by omega⟩ keep_upd
end
end Pc
namespace Pc
open PySem PySem.Spec PyProof.Rows L2 RZ
/-! ### data -/
theorem dp_ints {K : PySem.W.Frag} {H : Hp} : ∀ ns : List Int, DpAll K H (ns.map V.int) (ns.map PyData.int)
  | [] => .nil
  | n :: r => .cons (.int n) (dp_ints r)
theorem lay_ints : ∀ ns : List Int, PyData.canLayAll0 (ns.map PyData.int) = true
  | [] => rfl
  | n :: r => by
    show (PyData.canLay0 (.int n) && PyData.canLayAll0 (r.map PyData.int)) = true
    rw [lay_ints r]; rfl
theorem depth_ints : ∀ ns : List Int, PyData.depthAll (ns.map PyData.int) = 0
  | [] => rfl
  | n :: r => by
    show max (PyData.depth (.int n)) (PyData.depthAll (r.map PyData.int)) = 0
    rw [depth_ints r]; rfl
theorem shaped_list {ds : List PyData} (h : PyData.canLayAll0 ds = true) (d : PyData.depthAll ds ≤ 63) : SeqAt.shaped (.list ds) = true := by
  unfold SeqAt.shaped
  rw [Bool.and_eq_true]
  exact ⟨h, decide_eq_true (show PyData.depthAll ds + 1 ≤ 64 by omega)⟩
theorem shaped_tuple {ds : List PyData} (h : PyData.canLayAll0 ds = true) (d : PyData.depthAll ds ≤ 63) : SeqAt.shaped (.tuple ds) = true := by
  unfold SeqAt.shaped
  rw [Bool.and_eq_true]
  exact ⟨h, decide_eq_true (show PyData.depthAll ds + 1 ≤ 64 by omega)⟩
theorem shaped_ints (ns : List Int) : SeqAt.shaped (.list (ns.map PyData.int)) = true := shaped_list (lay_ints ns) (by rw [depth_ints]; decide)
theorem shaped_intsT (ns : List Int) : SeqAt.shaped (.tuple (ns.map PyData.int)) = true := shaped_tuple (lay_ints ns) (by rw [depth_ints]; decide)
/-- what a slice of a list of ints is -/
theorem cut_ints (ns : List Int) (lo hi : Option Int) : ∃ ms : List Int, cutV (ns.map V.int) lo hi = ms.map V.int ∧ ms = (ns.drop (HT.sIx ns.length 0 lo)).take (HT.sIx ns.length ns.length hi - HT.sIx ns.length 0 lo) := by
  refine ⟨_, ?_, rfl⟩
  unfold cutV
  rw [List.length_map, List.map_take, List.map_drop]
theorem map_set_int (cs : List Int) (j : Nat) (v : Int) : (cs.map V.int).set j (.int v) = (cs.set j v).map V.int := by
  rw [List.map_set]
theorem small63 {n : Nat} (h : n ≤ 63) : n ≤ sizeLine := Nat.le_trans h (by decide)
end Pc
namespace Pc
open PySem PySem.Spec PyProof.Rows L2 RZ
section
variable {P : Program} {w : World} {K : PySem.W.Frag} {mg : Str → Option Value} {base : Heap}
/-! ### the numbers of the script, the later ones added to the first -/
def spCells (K : PySem.W.Frag) : Sp := fun vs H Q _ => ∃ (a : Addr) (ns : List Int) (m : Nat), vs = [.ref a, .int m] ∧ SqL K H a (ns.map V.int) ∧ ns.length ≤ 63 ∧ 0 < m ∧ m ≤ 60 ∧
  ∀ H' p (cs : List Int), Same H H' → H p = none → H' p = some (.lst (cs.map V.int)) → 1 ≤ cs.length → cs.length ≤ m → Q (.ref p) H'
theorem ok_cells (T : Env K mg) : FnOk P w K mg base CX0 1 T.f_cells T.d_cells ["_law_script", "_law_most"] (spCells K) := by
  refine T.F_cells.ok sc_cells (fun vs H Q E h => ?_) (fun cdv A outer s H vs Q E hr h => ?_)
  · obtain ⟨a, ns, m, rfl, _⟩ := h
    rfl
  · obtain ⟨a, ns, m, rfl, hS, hn, hm, hm2, q⟩ := h
    refine ⟨_, pss_cons (ps_set (i := 2) sc_cells.nd rfl (.inl rfl) (pe_callTy call_list_of (by rfl) T.n_list (by decide +kernel) (pa_cons (pe_slice sl_list (pv 0) po_none (po_some (pv 1))) pa_nil)))
      (pss_cons (ps_for PassesOwn.never rfl (pi_enum (by rfl) T.n_enumerate (pa_cons (pe_slice sl_list (pv 0) (po_some (pv 1)) (po_some pe_int)) pa_nil))
          (pg_tup rfl (pgs_cons (pg_name (i := 3) sc_cells.nd rfl (.inl rfl)) (pgs_cons (pg_name (i := 4) sc_cells.nd rfl (.inl rfl)) pgs_nil)))
        (pss_one (ps_asg (pe_op op_add (pe_ix ix_list (pv 2) (pe_op op_mod (pv 3) (pv 1)) (fun _ _ => rfl)) (pe_op op_mul (pv 4) (pe_op op_add (pv 3) pe_int)))
          (pg_sub (pv 2) (pe_op op_mod (pv 3) (pv 1)) set_list))))
      (pss_one (ps_ret (pe_ifExp (pt_cmpR (op_neD hr.units) (pv 2) (pe_lst pa_nil) (nomark _)) (pv 2) (pe_lst (pa_cons pe_int pa_nil)))))), ?_⟩
    obtain ⟨ms, e1, e2⟩ := cut_ints ns none (some (m : Int))
    obtain ⟨ls, e3, e4⟩ := cut_ints ns (some (m : Int)) (some 63)
    have f2 : ms.length = min m ns.length := by
      rw [e2, HT.sIx_none, HT.sIx_nat, List.length_take, List.drop_zero]
      omega
    have f4 : ls.length = ns.length - m := by
      rw [e4, HT.sIx_nat, show (63 : Int) = ((63 : Nat) : Int) from rfl, HT.sIx_nat, List.length_take, List.length_drop]
      omega
    -- the copy of the first ones
    refine ⟨.ref a, rfl, .int m, rfl, m, rfl, a, ns.map V.int, rfl, hS, fun c nc => ⟨c, _, rfl, .inl (.inl (.inl upd_same)), fun l nl => ?_⟩⟩
    rw [e1] at nl ⊢
    have s1 : Same H (upd (upd H c (.lst (ms.map V.int))) l (.lst (ms.map V.int))) := (same_new nc).trans (same_new nl)
    have nl0 : H l = none := (same_new nc).free nl
    -- the later ones
    refine ⟨.ref a, rfl, .int m, rfl, m, rfl, _, rfl, a, ns.map V.int, rfl, s1.seq hS, fun d nd => ?_⟩
    rw [e3]
    refine ⟨d, ls.map V.int, rfl, .inl (.inl upd_same), ?_⟩
    have s2 : Same H _ := s1.trans (same_new (o := .lst (ls.map V.int)) nd)
    have ldd : l ≠ d := ne_of_none upd_same nd
    refine for_it walk_enum (fun i σ H' => Same H H' ∧ H' d = some (.lst (ls.map V.int)) ∧ ∃ (y3 y4 : Option V) (cs : List Int), σ = [some (.ref a), some (.int m), some (.ref l), y3, y4] ∧ H' l = some (.lst (cs.map V.int)) ∧ cs.length = ms.length)
      ⟨s2, upd_same, none, none, ms, rfl, by rw [upd_ne ldd, upd_same], rfl⟩ (fun i σ H' _ h => .inl (.inl h.2.1)) (fun i x σ H1 H2 hi h y => ?_) (fun σ H' h => ?_)
    · obtain ⟨sm, ed, y3, y4, cs, rfl, el, ecl⟩ := h
      obtain ⟨t, v1, v2, rfl, nt, rfl, g1, g2⟩ := y
      rw [List.length_map] at hi
      have ev1 : v1 = .int (i : Nat) := (Option.some.inj g1).symm
      have ev2 : v2 = .int ls[i] := by
        have g3 : (ls.map V.int)[i]? = some v2 := g2
        rw [List.getElem?_map, List.getElem?_eq_getElem hi] at g3
        exact (Option.some.inj g3).symm
      subst ev1 ev2
      have hml : cs.length = m := by omega
      have hlt : l ≠ t := ne_of_none el nt
      have hdt : d ≠ t := ne_of_none ed nt
      have elt : (upd H1 t (.tup [.int (i : Nat), .int ls[i]])) l = some (.lst (cs.map V.int)) := by rw [upd_ne hlt]; exact el
      have him : ((i : Int) % (m : Int)) = ((i % m : Nat) : Int) := by omega
      have hjm : i % m < cs.length := by rw [hml]; exact Nat.mod_lt _ hm
      have hix : ixN (cs.map V.int).length ((i : Int) % (m : Int)) = some (i % m) := by
        rw [him]
        unfold ixN
        rw [List.length_map, if_pos (by omega), if_pos (by omega)]; rfl
      refine ⟨t, _, rfl, .inl (.inl upd_same), rfl, _, _, rfl, _, _, rfl, rfl, ?_⟩
      refine ⟨.ref l, rfl, .int (i : Nat), rfl, .int m, rfl, (i : Nat), m, rfl, rfl, (show (0 : Int) < m by omega), l, _, _, .int cs[i % m], rfl, rfl, .inl (.inl elt), ?_, ?_⟩
      · unfold atI
        show (ixN (cs.map V.int).length ((i : Int) % (m : Int))).bind _ = _
        rw [hix]
        show (cs.map V.int)[i % m]? = _
        rw [List.getElem?_map, List.getElem?_eq_getElem hjm]; rfl
      refine ⟨.int ls[i], rfl, .int (i : Nat), rfl, (i : Nat), 2, rfl, rfl, ls[i], _, rfl, rfl, .inr ⟨by omega, by omega⟩, cs[i % m], _, rfl, rfl, .ref l, rfl, .int (i : Nat), rfl, .int m, rfl, (i : Nat), m, rfl, rfl, (show (0 : Int) < m by omega), l, _, _, i % m, rfl, rfl, elt, hix, ?_⟩
      refine ⟨?_, ?_, _, _, cs.set (i % m) (cs[i % m] + ls[i] * ((i : Nat) + 2)), rfl, ?_, ?_⟩
      · intro b o hb
        have nb : b ≠ l := ne_of_none hb nl0
        rw [upd_ne nb]
        exact same_new nt _ _ (sm b o hb)
      · rw [upd_ne ldd.symm, upd_ne hdt]; exact ed
      · rw [upd_same, ← map_set_int]
      · rw [List.length_set]; exact ecl
    · obtain ⟨sm, ed, y3, y4, cs, rfl, el, ecl⟩ := h
      refine ⟨.ref l, rfl, Nat.zero_le _, fun e ne => ?_⟩
      have hle : l ≠ e := ne_of_none el ne
      have elx : (upd H' e (.lst [])) l = some (.lst (cs.map V.int)) := by rw [upd_ne hle]; exact el
      refine ⟨.list (cs.map PyData.int), .list [], .lst (.inl (.inl elx)) (dp_ints cs), .lst (.inl (.inl upd_same)) .nil, shaped_ints cs, by decide, _, rfl, ite2 (fun b => ?_) (fun b => ?_)⟩
      · have hne : cs ≠ [] := fun z => by
          subst z
          exact absurd b (by decide)
        have : 0 < cs.length := List.length_pos_iff.mpr hne
        exact ⟨.ref l, rfl, q _ l cs (sm.trans (same_new ne)) nl0 elx (by omega) (by omega)⟩
      · refine ⟨by show 1 ≤ sizeLine; decide, fun p np => ?_⟩
        have s3 := sm.trans (same_new (o := .lst []) ne)
        exact q _ p [0] (s3.trans (same_new np)) (s3.free np) upd_same (by decide) (by show 1 ≤ m; omega)
end
end Pc
namespace Pc
open PySem PySem.Spec PyProof.Rows L2 RZ
/-! ### xs != [] for any items -/
def rNeNil (K : PySem.W.Frag) : R2 := fun x y H Q => ∃ a b xs, x = .ref a ∧ y = .ref b ∧ SqL K H a xs ∧ SqL K H b [] ∧ Q (.bl (!xs.isEmpty)) H
theorem op_neNil {X : Cx} (hu : X.A.units + 64 < cLine) : OpR X (compareOp .NotEq) (rNeNil X.K) := by
  intro pins s σ H x y v u Q I rx ry h
  obtain ⟨a, b, xs, rfl, rfl, h1, h2, q⟩ := h
  cases rx; cases ry
  obtain ⟨its, rv, p1, _⟩ := I.list h1
  obtain ⟨its2, rv2, p2, _⟩ := I.list h2
  have l1 := rv.length
  have l2 := rv2.length
  have hu0 : X.A.units < cLine := by omega
  cases xs with
  | nil =>
    have z1 : its.length = 0 := l1.symm
    have z2 : its2.length = 0 := l2.symm
    refine SeqAt.RcNeAt.lists (e := fun _ => true) p1.isList p2.isList (by simp [z1, z2]) hu0 (fun j j1 _ => ?_) X.prog X.w X.xe _ ?_
    · rw [List.size_toArray] at j1; omega
    · rw [List.size_toArray, z1]
      exact ⟨.bl false, H, I, rfl, q⟩
  | cons z r =>
    have z1 : its.length ≠ 0 := by rw [← l1]; simp
    have z2 : its2.length = 0 := l2.symm
    refine SeqAt.RcNeAt.lists_lengths p1.isList p2.isList (by simp [z2, z1]) hu0 X.prog X.w X.xe _ ?_
    exact ⟨.bl true, H, I, rfl, q⟩
theorem perm_erase {α : Type} : ∀ {l : List α} {i : Nat} (h : i < l.length), (l[i] :: l.eraseIdx i).Perm l
  | a :: r, 0, _ => List.Perm.refl _
  | a :: r, i + 1, h => (List.Perm.swap a (r[i]'(Nat.lt_of_succ_lt_succ h)) (r.eraseIdx i)).trans ((perm_erase (l := r) (i := i) (Nat.lt_of_succ_lt_succ h)).cons a)
/-- the place of an index that is not negative -/
theorem seq_ix {i : Int} {n : Nat} (h0 : 0 ≤ i) (h : i < n) : seqIndex? i n = some i.toNat := seqIndex_of h0 h
end Pc
namespace Pc
open PySem PySem.Spec PyProof.Rows L2 RZ
section
variable {P : Program} {w : World} {K : PySem.W.Frag} {mg : Str → Option Value} {base : Heap}
/-! ### some things in drawn order -/
def spStrewn (K : PySem.W.Frag) : Sp := fun vs H Q _ => ∃ (b a : Addr) (n : Nat) (xs : List V), vs = [.ref b, .ref a] ∧ Box (n + xs.length) H b ∧ SqL K H a xs ∧ xs.length ≤ 1000 ∧
  ∀ (H' : Hp) (p : Addr) (ys : List V), ys.Perm xs → Keep b H H' → Box n H' b → H p = none → H' p = some (.lst ys) → Q (.ref p) H'
theorem ok_strewn (T : Env K mg) : FnOk P w K mg base CX0 2 T.f_strewn T.d_strewn ["_law_box_here", "_law_some"] (spStrewn K) := by
  have GT : FnOk P w K mg base CX0 1 T.f_take T.d_take ["_law_box_here", "_law_span"] spTake := ok_take T
  refine T.F_strewn.ok sc_strewn (fun vs H Q E h => ?_) (fun cdv A outer s H vs Q E hr h => ?_)
  · obtain ⟨b, a, n, xs, rfl, _⟩ := h
    rfl
  · obtain ⟨b, a, n, xs, rfl, hB, hS, hlen, q⟩ := h
    refine ⟨_, pss_cons (ps_par (by rfl) sc_strewn.nd (i := 2) (j := 3) rfl rfl (by decide) rfl rfl (pa_cons (pe_callTy call_list_of (by rfl) T.n_list (by decide +kernel) (pa_cons (pv 1) pa_nil)) (pa_cons (pe_lst pa_nil) pa_nil)) (by rfl))
      (pss_cons (ps_while PassesOwn.never (pt_cmpR (op_neNil hr.units) (pv 2) (pe_lst pa_nil) (nomark _))
        (pss_one (ps_expr (pe_bm PySem.F.plainAttrs_list PySem.F.slot_list_append PySem.F.type_list_append mt_append (pv 3) (pa_cons
          (pe_bm PySem.F.plainAttrs_list PySem.F.slot_list_pop PySem.F.type_list_pop mt_popAt (pv 2) (pa_cons
            (pe_call GT hr (by rfl) T.g_take T.F_take.kp T.b_take .nil pass0 (pa_cons (pv 0) (pa_cons (pe_callB call_len_seq (by rfl) T.n_len PySem.boot_len (pa_cons (pv 2) pa_nil)) pa_nil))) pa_nil)) pa_nil)))))
      (pss_one (ps_ret (pv 3)))), ?_⟩
    refine ⟨.ref a, rfl, a, xs, rfl, .inl hS, fun l nl => ⟨Nat.zero_le _, fun f nf => ⟨_, _, rfl, ?_⟩⟩⟩
    have s1 : Same H (upd (upd H l (.lst xs)) f (.lst [])) := (same_new nl).trans (same_new nf)
    have nf0 : H f = none := (same_new nl).free nf
    have hlf : l ≠ f := ne_of_none upd_same nf
    have hbl : b ≠ l := hB.ne_new nl
    have hbf : b ≠ f := hB.ne_new nf0
    refine ⟨fun m σ H' => ∃ left found : List V, σ = [some (.ref b), some (.ref a), some (.ref l), some (.ref f)] ∧ H' l = some (.lst left) ∧ H' f = some (.lst found) ∧ (left ++ found).Perm xs ∧ Box (n + left.length) H' b ∧ Keep b H H' ∧ left.length = m,
      ⟨xs.length, xs, [], rfl, by rw [upd_ne hlf, upd_same], upd_same, by rw [List.append_nil], hB.same s1, Keep.of_same s1, rfl⟩, fun m σ H' hW => ?_⟩
    obtain ⟨left, found, rfl, el, ef, hp, hb', hk, hm⟩ := hW
    refine ⟨.ref l, rfl, Nat.zero_le _, fun e ne => ⟨l, e, left, rfl, rfl, .inl (.inl ?_), .inl (.inl upd_same), _, rfl, ite2 (fun c => ?_) (fun c => ?_)⟩⟩
    · rw [upd_ne (ne_of_none el ne)]; exact el
    · -- one more is drawn
      have hl0 : 0 < left.length := by
        cases left with
        | nil => exact absurd c (by decide)
        | cons x r => exact Nat.succ_pos _
      have hll : left.length ≤ 1000 := by
        have := hp.length_eq
        rw [List.length_append] at this
        omega
      have el2 : (upd H' e (.lst [])) l = some (.lst left) := by rw [upd_ne (ne_of_none el ne)]; exact el
      have ef2 : (upd H' e (.lst [])) f = some (.lst found) := by rw [upd_ne (ne_of_none ef ne)]; exact ef
      refine ⟨fun σ' H2 => ∃ left' found' : List V, σ' = [some (.ref b), some (.ref a), some (.ref l), some (.ref f)] ∧ H2 l = some (.lst left') ∧ H2 f = some (.lst found') ∧ (left' ++ found').Perm xs ∧ Box (n + left'.length) H2 b ∧ Keep b H H2 ∧ left'.length + 1 = m,
        fun σ' H2 h2 => ?_, ?_⟩
      · obtain ⟨left', found', g1, g2, g3, g4, g5, g6, g7⟩ := h2
        exact ⟨left'.length, by omega, left', found', g1, g2, g3, g4, g5, g6, rfl⟩
      · refine ⟨.ref f, rfl, .inl ⟨rfl, _, .inl (.inl ef2)⟩, .ref l, rfl, .inl ⟨rfl, _, .inl (.inl el2)⟩, .ref b, rfl, .ref l, rfl, l, left, rfl, .inl (.inl (.inl el2)), ?_⟩
        refine ⟨b, n + (left.length - 1), left.length, rfl, (hb'.same (same_new ne)).mono (by omega), by omega, by omega, fun r H2 r0 r1 hb2 k2 => ?_⟩
        have el3 : H2 l = some (.lst left) := k2 l _ hbl.symm el2
        have ef3 : H2 f = some (.lst found) := k2 f _ hbf.symm ef2
        have hj : r.toNat < left.length := by omega
        refine ⟨l, left, r, r.toNat, left[r.toNat], rfl, rfl, el3, by omega, by omega, seq_ix r0 r1, List.getElem?_eq_getElem hj, ?_⟩
        have ef4 : (upd H2 l (.lst (left.eraseIdx r.toNat))) f = some (.lst found) := by rw [upd_ne hlf.symm]; exact ef3
        have hfl : found.length ≤ 1000 := by
          have := hp.length_eq
          rw [List.length_append] at this
          omega
        refine ⟨f, found, _, rfl, rfl, ef4, small1000 hfl, left.eraseIdx r.toNat, found ++ [left[r.toNat]], rfl, ?_, upd_same, ?_, ?_, ?_, ?_⟩
        · rw [upd_ne hlf, upd_same]
        · refine List.Perm.trans ?_ hp
          have p1 : (left[r.toNat] :: left.eraseIdx r.toNat).Perm left := perm_erase hj
          have p2 : (left.eraseIdx r.toNat ++ (found ++ [left[r.toNat]])).Perm (left[r.toNat] :: left.eraseIdx r.toNat ++ found) := by
            rw [← List.append_assoc]
            exact List.perm_append_comm.trans (by rw [List.singleton_append, List.cons_append])
          exact p2.trans (p1.append_right found)
        · have : (left.eraseIdx r.toNat).length = left.length - 1 := List.length_eraseIdx_of_lt hj
          rw [this]
          refine (hb2.keep (c := l) keep_upd hbl).keep (c := f) keep_upd hbf
        · intro x o nx hx
          have nxl : x ≠ l := ne_of_none hx nl
          have nxf : x ≠ f := ne_of_none hx nf0
          rw [upd_ne nxf, upd_ne nxl]
          exact k2 x o nx (same_new ne _ _ (hk x o nx hx))
        · rw [List.length_eraseIdx_of_lt hj]; omega
    · have hl0 : left = [] := by
        cases left with
        | nil => rfl
        | cons x r => exact absurd rfl c
      subst hl0
      have ef2 : (upd H' e (.lst [])) f = some (.lst found) := by rw [upd_ne (ne_of_none ef ne)]; exact ef
      exact ⟨.ref f, rfl, q _ f found hp (hk.trans (Keep.of_same (same_new ne))) (hb'.same (same_new ne)) nf0 ef2⟩
end
end Pc
namespace Pc
open PySem PySem.Spec PyProof.Rows L2 RZ
/-! ### pairings as lists of natural numbers -/
/-- the numbers as values -/
def nv (l : List Nat) : List V := l.map fun (i : Nat) => V.int (i : Int)
theorem nv_length (l : List Nat) : (nv l).length = l.length := List.length_map _
theorem nv_get {l : List Nat} {i x : Nat} (h : l[i]? = some x) : (nv l)[i]? = some (.int x) := by
  unfold nv; rw [List.getElem?_map, h]; rfl
theorem nv_at {l : List Nat} {i x : Nat} (h : l[i]? = some x) : atI (nv l) (i : Int) = some (.int x) := atI_nat (nv_get h)
theorem nv_set (l : List Nat) (i x : Nat) : (nv l).set i (.int (x : Int)) = nv (l.set i x) := by
  unfold nv; rw [List.map_set]
theorem nv_get' {l : List Nat} {i : Nat} {v : V} (h : (nv l)[i]? = some v) : ∃ x, l[i]? = some x ∧ v = .int (x : Int) := by
  unfold nv at h
  rw [List.getElem?_map] at h
  cases e : l[i]? with
  | none => rw [e] at h; cases h
  | some x => rw [e] at h; exact ⟨x, rfl, (Option.some.inj h).symm⟩
theorem ixN_nat {n i : Nat} (h : i < n) : ixN n (i : Int) = some i := by
  unfold ixN
  rw [if_pos (by omega), if_pos (by omega)]; rfl
theorem get_some {α : Type} {l : List α} {i : Nat} (h : i < l.length) : ∃ x, l[i]? = some x := ⟨_, List.getElem?_eq_getElem h⟩
theorem get_lt {α : Type} {l : List α} {i : Nat} {x : α} (h : l[i]? = some x) : i < l.length := (List.getElem?_eq_some_iff.mp h).1
/-- a pairing of n people -/
structure IsPair (n : Nat) (ps : List Nat) : Prop where
  len : ps.length = n
  par : ∀ x, x < n → ∃ y, ps[x]? = some y ∧ y < n ∧ y ≠ x ∧ ps[y]? = some x
/-- after t turns: the first t pairs are joined -/
def PInv (os fs : List Nat) (t : Nat) : Prop := fs.length = os.length ∧ ∀ j, j < t → ∀ x y, os[2 * j]? = some x → os[2 * j + 1]? = some y → fs[x]? = some y ∧ fs[y]? = some x
theorem PInv.step {os fs : List Nat} {t x y : Nat} (hnd : os.Nodup) (hlt : ∀ z ∈ os, z < os.length) (h : PInv os fs t) (hx : os[2 * t]? = some x) (hy : os[2 * t + 1]? = some y) :
    PInv os ((fs.set x y).set y x) (t + 1) := by
  obtain ⟨hl, hp⟩ := h
  have xl : x < fs.length := by rw [hl]; exact hlt x (List.mem_of_getElem? hx)
  have yl : y < fs.length := by rw [hl]; exact hlt y (List.mem_of_getElem? hy)
  have xy : x ≠ y := fun e => by
    subst e
    have := nd_ix hnd hx hy
    omega
  refine ⟨by rw [List.length_set, List.length_set, hl], fun j hj u v hu hv => ?_⟩
  by_cases e : j = t
  · subst e
    have e1 : u = x := Option.some.inj (hu.symm.trans hx)
    have e2 : v = y := Option.some.inj (hv.symm.trans hy)
    subst e1 e2
    refine ⟨?_, ?_⟩
    · rw [List.getElem?_set_ne (Ne.symm xy), List.getElem?_set_self xl]
    · rw [List.getElem?_set_self (by rw [List.length_set]; exact yl)]
  · obtain ⟨h1, h2⟩ := hp j (by omega) u v hu hv
    have a1 : x ≠ u := fun z => by subst z; have := nd_ix hnd hx hu; omega
    have a2 : y ≠ u := fun z => by subst z; have := nd_ix hnd hy hu; omega
    have a3 : x ≠ v := fun z => by subst z; have := nd_ix hnd hx hv; omega
    have a4 : y ≠ v := fun z => by subst z; have := nd_ix hnd hy hv; omega
    refine ⟨?_, ?_⟩
    · rw [List.getElem?_set_ne a2, List.getElem?_set_ne a1]; exact h1
    · rw [List.getElem?_set_ne a4, List.getElem?_set_ne a3]; exact h2
theorem PInv.done {os fs : List Nat} {n : Nat} (hp : os.Perm (List.range n)) (he : n % 2 = 0) (h : PInv os fs (n / 2)) : IsPair n fs := by
  have hl : os.length = n := by rw [hp.length_eq, List.length_range]
  have hnd : os.Nodup := hp.nodup_iff.mpr List.nodup_range
  refine ⟨by rw [h.1, hl], fun x hx => ?_⟩
  have hm : x ∈ os := hp.mem_iff.mpr (List.mem_range.mpr hx)
  obtain ⟨i, hi, ei⟩ := List.mem_iff_getElem.mp hm
  have gi : os[i]? = some x := by rw [List.getElem?_eq_getElem hi, ei]
  have lt_n : ∀ {k z : Nat}, os[k]? = some z → z < n := fun {k z} hz => List.mem_range.mp (hp.mem_iff.mp (List.mem_of_getElem? hz))
  by_cases hq : i % 2 = 0
  · have i1 : i + 1 < os.length := by omega
    obtain ⟨y, gy⟩ := get_some i1
    have g1 : os[2 * (i / 2)]? = some x := by rw [show 2 * (i / 2) = i by omega]; exact gi
    have g2 : os[2 * (i / 2) + 1]? = some y := by rw [show 2 * (i / 2) + 1 = i + 1 by omega]; exact gy
    obtain ⟨r1, r2⟩ := h.2 (i / 2) (by omega) x y g1 g2
    exact ⟨y, r1, lt_n gy, fun e => by subst e; have := nd_ix hnd gi gy; omega, r2⟩
  · have i1 : i - 1 < os.length := by omega
    obtain ⟨y, gy⟩ := get_some i1
    have g1 : os[2 * (i / 2)]? = some y := by rw [show 2 * (i / 2) = i - 1 by omega]; exact gy
    have g2 : os[2 * (i / 2) + 1]? = some x := by rw [show 2 * (i / 2) + 1 = i by omega]; exact gi
    obtain ⟨r1, r2⟩ := h.2 (i / 2) (by omega) y x g1 g2
    exact ⟨y, r2, lt_n gy, fun e => by subst e; have := nd_ix hnd gi gy; omega, r1⟩
/-- range(0, n, 2) -/
theorem fits_long {i : Int} (h1 : -(2 ^ 62) ≤ i) (h2 : i < 2 ^ 62) : Builtin.Range.rangeFitsLong i = true := by
  unfold Builtin.Range.rangeFitsLong
  rw [Bool.and_eq_true]
  exact ⟨decide_eq_true (by omega), decide_eq_true (by omega)⟩
theorem rgc_two {n : Nat} (h : n ≤ 1000000) : RgC 0 (n : Int) 2 ((n + 1) / 2) := by
  have e : Builtin.Range.rangeSize 0 (n : Int) 2 = (((n + 1) / 2 : Nat) : Int) := by
    unfold Builtin.Range.rangeSize
    rw [if_pos (by decide)]
    split <;> omega
  refine ⟨by decide, by decide, ?_, e⟩
  unfold Builtin.Range.small
  rw [e, fits_long (i := 0) (by decide) (by decide), fits_long (i := (n : Int)) (by omega) (by omega), fits_long (i := 2) (by decide) (by decide), fits_long (i := (((n + 1) / 2 : Nat) : Int)) (by omega) (by omega), if_pos (by decide), fits_long (i := (n : Int) + (2 - 1)) (by omega) (by omega), Bool.or_true]
  rfl
theorem rep_flat {α : Type} (n : Nat) (x : α) : (List.replicate n [x]).flatten = List.replicate n x := by
  induction n with
  | zero => rfl
  | succ n ih => rw [List.replicate_succ, List.flatten_cons, ih, List.replicate_succ]; rfl
end Pc
namespace Pc
open PySem PySem.Spec PyProof.Rows L2 RZ
section
variable {P : Program} {w : World} {K : PySem.W.Frag} {mg : Str → Option Value} {base : Heap}
/-! ### a pairing out of an order -/
def spPaired (K : PySem.W.Frag) : Sp := fun vs H Q _ => ∃ (a : Addr) (os : List Nat) (n : Nat), vs = [.ref a] ∧ SqL K H a (nv os) ∧ os.Perm (List.range n) ∧ n % 2 = 0 ∧ n ≤ 1000 ∧
  ∀ (H' : Hp) (p : Addr) (ps : List Nat), IsPair n ps → Same H H' → H p = none → H' p = some (.tup (nv ps)) → Q (.ref p) H'
theorem ok_paired (T : Env K mg) : FnOk P w K mg base CX0 1 T.f_paired T.d_paired ["_law_order"] (spPaired K) := by
  refine T.F_paired.ok sc_paired (fun vs H Q E h => ?_) (fun cdv A outer s H vs Q E hr h => ?_)
  · obtain ⟨a, os, n, rfl, _⟩ := h
    rfl
  · obtain ⟨a, os, n, rfl, hS, hp, he, hn, q⟩ := h
    refine ⟨_, pss_cons (ps_set (i := 1) sc_paired.nd rfl (.inl rfl) (pe_op op_rep (pe_lst (pa_cons pe_int pa_nil)) (pe_callB call_len_seq (by rfl) T.n_len PySem.boot_len (pa_cons (pv 0) pa_nil))))
      (pss_cons (ps_for PassesOwn.never rfl (pi_range3 rfl T.n_range (pa_cons pe_int (pa_cons (pe_callB call_len_seq (by rfl) T.n_len PySem.boot_len (pa_cons (pv 0) pa_nil)) (pa_cons pe_int pa_nil))))
          (pg_name (i := 2) sc_paired.nd rfl (.inl rfl))
        (pss_one (ps_asg (pe_tup (pa_cons (pe_ix ix_list (pv 0) (pe_op op_add (pv 2) pe_int) (fun _ _ => rfl)) (pa_cons (pe_ix ix_list (pv 0) (pv 2) (fun _ _ => rfl)) pa_nil)))
          (pg_tup rfl (pgs_cons (pg_sub (pv 1) (pe_ix ix_list (pv 0) (pv 2) (fun _ _ => rfl)) set_list) (pgs_cons (pg_sub (pv 1) (pe_ix ix_list (pv 0) (pe_op op_add (pv 2) pe_int) (fun _ _ => rfl)) set_list) pgs_nil))))))
      (pss_one (ps_ret (pe_callTy call_tuple_of (by rfl) T.n_tuple (by decide +kernel) (pa_cons (pv 1) pa_nil))))), ?_⟩
    have hl : os.length = n := by rw [hp.length_eq, List.length_range]
    have hl2 : (nv os).length = n := by rw [nv_length, hl]
    have hnd : os.Nodup := hp.nodup_iff.mpr List.nodup_range
    have hlt : ∀ z ∈ os, z < os.length := fun z hz => by rw [hl]; exact List.mem_range.mp (hp.mem_iff.mp hz)
    refine ⟨by show 1 ≤ sizeLine; decide, fun e ne => ?_⟩
    have s0 : Same H (upd H e (.lst [.int 0])) := same_new ne
    refine ⟨.ref a, rfl, a, nv os, rfl, .inl (s0.seq hS), e, _, [.int 0], rfl, rfl, upd_same, ?_, ?_, ?_, fun f nf => ?_⟩
    · rw [hl2]; omega
    · rw [hl2]; omega
    · rw [hl2]
      show 1 * Int.toNat (n : Int) ≤ sizeLine
      exact Nat.le_of_lt (small1000 (by omega))
    have s1 : Same H _ := s0.trans (same_new (o := .lst (List.replicate ((nv os).length : Int).toNat [V.int 0]).flatten) nf)
    have nf0 : H f = none := s0.free nf
    have e0 : (List.replicate ((nv os).length : Int).toNat [V.int 0]).flatten = nv (List.replicate n 0) := by
      rw [rep_flat, hl2, Int.toNat_natCast]
      unfold nv
      rw [List.map_replicate]; rfl
    refine ⟨.ref a, rfl, a, nv os, rfl, .inl (s1.seq hS), 0, _, 2, n / 2, rfl, ?_, ?_⟩
    · rw [hl2]
      have := rgc_two (n := n) (by omega)
      rw [show (n + 1) / 2 = n / 2 by omega] at this
      exact this
    refine for_rangeC (fun t σ H' => Same H H' ∧ ∃ (y : Option V) (fs : List Nat), σ = [some (.ref a), some (.ref f), y] ∧ H' f = some (.lst (nv fs)) ∧ PInv os fs t)
      ⟨s1, none, List.replicate n 0, rfl, by rw [upd_same, e0], by rw [List.length_replicate, hl], fun j hj => absurd hj (Nat.not_lt_zero _)⟩ (fun t σ H' ht h => ?_) (fun σ H' h => ?_)
    · obtain ⟨sm, y, fs, rfl, ef, pi⟩ := h
      obtain ⟨x1, g1⟩ := get_some (l := os) (i := 2 * t) (by omega)
      obtain ⟨x2, g2⟩ := get_some (l := os) (i := 2 * t + 1) (by omega)
      have hS' : SqL K H' a (nv os) := sm.seq hS
      have ea : atI (nv os) ((0 : Int) + (t : Nat) * 2) = some (.int x1) := by
        rw [show (0 : Int) + (t : Nat) * 2 = ((2 * t : Nat) : Int) by omega]; exact nv_at g1
      have eb : atI (nv os) ((0 : Int) + (t : Nat) * 2 + 1) = some (.int x2) := by
        rw [show (0 : Int) + (t : Nat) * 2 + 1 = ((2 * t + 1 : Nat) : Int) by omega]; exact nv_at g2
      have l1 : x1 < fs.length := by rw [pi.1]; exact hlt _ (List.mem_of_getElem? g1)
      have l2 : x2 < fs.length := by rw [pi.1]; exact hlt _ (List.mem_of_getElem? g2)
      refine ⟨.ref a, rfl, _, rfl, _, 1, rfl, rfl, a, _, _, _, rfl, rfl, hS', eb, .ref a, rfl, _, rfl, a, _, _, _, rfl, rfl, hS', ea, by show 2 ≤ sizeLine; decide, fun tp nt => ?_⟩
      have st : Same H' (upd H' tp (.tup [.int x2, .int x1])) := same_new nt
      have eft : (upd H' tp (.tup [.int x2, .int x1])) f = some (.lst (nv fs)) := st _ _ ef
      have nft : f ≠ tp := ne_of_none ef nt
      refine ⟨tp, _, rfl, .inl (.inl upd_same), rfl, _, _, rfl, .ref f, rfl, .ref a, rfl, _, rfl, a, _, _, _, rfl, rfl, st.seq hS', ea, f, _, _, x1, rfl, rfl, eft, ixN_nat (by rw [nv_length]; exact l1), ?_⟩
      have sq : SqL K (upd (upd H' tp (.tup [.int x2, .int x1])) f (.lst ((nv fs).set x1 (.int x2)))) a (nv os) := by
        have : ∀ b o, H b = some o → (upd (upd H' tp (.tup [.int x2, .int x1])) f (.lst ((nv fs).set x1 (.int x2)))) b = some o := fun b o hb => by
          rw [upd_ne (ne_of_none hb nf0)]; exact st _ _ (sm _ _ hb)
        exact Same.seq this hS
      refine ⟨_, _, rfl, .ref f, rfl, .ref a, rfl, _, rfl, _, 1, rfl, rfl, a, _, _, _, rfl, rfl, sq, eb, f, _, _, x2, rfl, rfl, upd_same, ?_, ?_⟩
      · rw [List.length_set]; exact ixN_nat (by rw [nv_length]; exact l2)
      · refine ⟨rfl, fun b o hb => ?_, _, (fs.set x1 x2).set x2 x1, rfl, ?_, pi.step hnd hlt g1 g2⟩
        · rw [upd_ne (ne_of_none hb nf0), upd_ne (ne_of_none hb nf0)]; exact st _ _ (sm _ _ hb)
        · rw [upd_same, nv_set, nv_set]
    · obtain ⟨sm, y, fs, rfl, ef, pi⟩ := h
      refine ⟨.ref f, rfl, f, _, rfl, .inl ⟨.inl (.inl ef), fun p np => ?_⟩⟩
      exact q _ p fs (pi.done hp he) (sm.trans (same_new np)) (sm.free np) upd_same
end
end Pc
namespace Pc
open PySem PySem.Spec PyProof.Rows L2 RZ
theorem perm_map_inv {α β : Type} (f : α → β) {zs ys : List β} (h : zs.Perm ys) : ∀ l : List α, zs = l.map f → ∃ l' : List α, ys = l'.map f ∧ l'.Perm l := by
  induction h with
  | nil => exact fun l e => ⟨l, e, List.Perm.refl _⟩
  | cons x _ ih =>
    intro l e
    cases l with
    | nil => cases e
    | cons a r =>
      injection e with e1 e2
      obtain ⟨l', h1, h2⟩ := ih r e2
      exact ⟨a :: l', by rw [h1, e1]; rfl, h2.cons a⟩
  | swap x y t =>
    intro l e
    cases l with
    | nil => cases e
    | cons a r =>
      cases r with
      | nil => injection e with _ e2; cases e2
      | cons b r =>
        injection e with e1 e2
        injection e2 with e2 e3
        exact ⟨b :: a :: r, by rw [e1, e2, e3]; rfl, List.Perm.swap _ _ _⟩
  | trans _ _ ih1 ih2 =>
    intro l e
    obtain ⟨l1, h1, h2⟩ := ih1 l e
    obtain ⟨l2, h3, h4⟩ := ih2 l1 h1
    exact ⟨l2, h3, h4.trans h2⟩
theorem rg_nv (n : Nat) : rgV 0 (n : Int) = nv (List.range n) := by
  unfold rgV nv
  rw [Int.sub_zero, Int.toNat_natCast]
  refine List.map_congr_left fun i _ => ?_
  rw [Int.zero_add]
end Pc
namespace Pc
open PySem PySem.Spec PyProof.Rows L2 RZ
section
variable {P : Program} {w : World} {K : PySem.W.Frag} {mg : Str → Option Value} {base : Heap}
/-! ### a drawn pairing -/
def spRandom : Sp := fun vs H Q _ => ∃ (b : Addr) (n k : Nat), vs = [.ref b, .int k] ∧ Box (n + k) H b ∧ k % 2 = 0 ∧ k ≤ 1000 ∧
  ∀ (H' : Hp) (p : Addr) (ps : List Nat), IsPair k ps → Keep b H H' → Box n H' b → H p = none → H' p = some (.tup (nv ps)) → Q (.ref p) H'
theorem ok_random (T : Env K mg) : FnOk P w K mg base CX0 3 T.f_random T.d_random ["_law_box_here", "_law_count"] spRandom := by
  have GS : FnOk P w K mg base CX0 2 T.f_strewn T.d_strewn ["_law_box_here", "_law_some"] (spStrewn K) := ok_strewn T
  have GP : FnOk P w K mg base CX0 1 T.f_paired T.d_paired ["_law_order"] (spPaired K) := ok_paired T
  refine T.F_random.ok sc_random (fun vs H Q E h => ?_) (fun cdv A outer s H vs Q E hr h => ?_)
  · obtain ⟨b, n, k, rfl, _⟩ := h
    rfl
  · obtain ⟨b, n, k, rfl, hB, he, hk, q⟩ := h
    refine ⟨_, pss_one (ps_ret (pe_call GP (hr.mono (by decide)) (by rfl) T.g_paired T.F_paired.kp T.b_paired .nil pass0 (pa_cons
      (pe_call GS hr (by rfl) T.g_strewn T.F_strewn.kp T.b_strewn .nil pass0 (pa_cons (pv 0) (pa_cons (pe_listRg rfl (by rfl) T.n_list (prg_1 (by rfl) T.n_range (pv 1))) pa_nil))) pa_nil))), ?_⟩
    refine ⟨.ref b, rfl, .int k, rfl, k, rfl, RgOk.of_le (by decide) (by omega) (by decide) (by omega), fun a na => ?_⟩
    have s1 : Same H _ := same_new (o := .lst (rgV 0 (k : Int))) na
    have hl : (rgV 0 (k : Int)).length = k := by rw [rgV_length]; omega
    refine ⟨b, a, n, _, rfl, (hB.same s1).mono (by rw [hl]; exact Nat.le_refl _), .inl (.inl upd_same), by rw [hl]; exact hk, fun H2 p2 ys hp hk2 hb2 np2 ep2 => ?_⟩
    obtain ⟨os, e1, e2⟩ := perm_map_inv (fun (i : Nat) => V.int (i : Int)) hp.symm (List.range k) (rg_nv k)
    have ep3 : H2 p2 = some (.lst (nv os)) := by rw [ep2, e1]; rfl
    refine ⟨p2, os, k, rfl, .inl (.inl ep3), e2, he, hk, fun H3 p ps hps s3 np ep => ?_⟩
    have k3 : Keep b H H3 := (Keep.of_same s1).trans (hk2.trans (Keep.of_same s3))
    refine q H3 p ps hps k3 (hb2.same s3) ?_ ep
    cases hh : H p with
    | none => rfl
    | some o =>
      have hpb : p ≠ b := fun z => by
        subst z
        obtain ⟨x, y, z, ex, _⟩ := hb2
        rw [ex] at np; cases np
      have := hk2 p o hpb (s1 p o hh)
      rw [this] at np; cases np
end
end Pc
namespace Pc
open PySem PySem.Spec PyProof.Rows L2 RZ
/-! ### data where more is tracked -/
theorem same_tup {K : PySem.W.Frag} {H H' : Hp} {a : Addr} {xs : List V} (e : Same H H') (h : SqT K H a xs) : SqT K H' a xs := by
  rcases h with (h | ⟨o, h⟩) | h
  · exact .inl (.inl (e _ _ h))
  · exact .inl (.inr ⟨o, e _ _ h⟩)
  · exact .inr h
mutual
theorem dp_same {K : PySem.W.Frag} {H H' : Hp} (e : Same H H') : ∀ {v : V} {d : PyData}, Dp K H v d → Dp K H' v d
  | _, _, .non => .non
  | _, _, .bl b => .bl b
  | _, _, .int i => .int i
  | _, _, .str x => .str x
  | _, _, .lst h a => .lst (e.seq h) (dpa_same e a)
  | _, _, .tup h a => .tup (same_tup e h) (dpa_same e a)
theorem dpa_same {K : PySem.W.Frag} {H H' : Hp} (e : Same H H') : ∀ {vs : List V} {ds : List PyData}, DpAll K H vs ds → DpAll K H' vs ds
  | _, _, .nil => .nil
  | _, _, .cons h a => .cons (dp_same e h) (dpa_same e a)
end
theorem dpa_len {K : PySem.W.Frag} {H : Hp} : ∀ {vs : List V} {ds : List PyData}, DpAll K H vs ds → vs.length = ds.length
  | _, _, .nil => rfl
  | _, _, .cons _ a => by rw [List.length_cons, List.length_cons, dpa_len a]
theorem dpa_get {K : PySem.W.Frag} {H : Hp} : ∀ {vs : List V} {ds : List PyData} {i : Nat} {v : V}, DpAll K H vs ds → vs[i]? = some v → ∃ d, ds[i]? = some d ∧ Dp K H v d
  | _, _, _, _, .nil, h => by simp at h
  | _, _, 0, _, .cons (d := d) h _, e => by
    cases Option.some.inj e
    exact ⟨d, rfl, h⟩
  | _, _, i + 1, v, .cons _ a, e => dpa_get (i := i) a e
theorem depth_get : ∀ {ds : List PyData} {i : Nat} {d : PyData}, ds[i]? = some d → d.depth ≤ PyData.depthAll ds
  | [], _, _, h => by simp at h
  | d :: r, 0, _, h => by
    cases Option.some.inj h
    exact Nat.le_max_left _ _
  | d :: r, i + 1, x, h => Nat.le_trans (depth_get (i := i) (ds := r) h) (Nat.le_max_right _ _)
mutual
/-- no list in it is longer than a hundred thousand -/
def narrow : PyData → Prop
  | .list xs => xs.length ≤ 100000 ∧ narrowAll xs
  | .tuple xs => xs.length ≤ 100000 ∧ narrowAll xs
  | _ => True
def narrowAll : List PyData → Prop
  | [] => True
  | x :: xs => narrow x ∧ narrowAll xs
end
theorem narrow_get : ∀ {ds : List PyData} {i : Nat} {d : PyData}, narrowAll ds → ds[i]? = some d → narrow d
  | [], _, _, _, h => by simp at h
  | d :: r, 0, _, n, h => by
    cases Option.some.inj h
    exact n.1
  | d :: r, i + 1, x, n, h => narrow_get (i := i) (ds := r) n.2 h
theorem narrow_of : ∀ {ds : List PyData}, (∀ d ∈ ds, narrow d) → narrowAll ds
  | [], _ => trivial
  | d :: r, h => ⟨h d List.mem_cons_self, narrow_of fun x hx => h x (List.mem_cons_of_mem _ hx)⟩
theorem narrow_ints (ns : List Int) : narrowAll (ns.map PyData.int) := narrow_of fun d hd => by
  obtain ⟨i, _, rfl⟩ := List.mem_map.mp hd
  exact trivial
theorem line_big {n : Nat} (h : n ≤ 100000) : n < sizeLine := Nat.lt_of_le_of_lt h (by decide)
theorem ty_lst {K : PySem.W.Frag} {H : Hp} {a : Addr} {xs : List V} (h : SqL K H a xs) : TyX K H (.ref a) (.type "list") := by
  rcases h with (h | ⟨o, h⟩) | ⟨o, its, n, h, c, _⟩
  · exact .base (.lst h)
  · exact .base (.frz h)
  · exact .kList h c
theorem ty_tup {K : PySem.W.Frag} {H : Hp} {a : Addr} {xs : List V} (h : SqT K H a xs) : TyX K H (.ref a) (.type "tuple") := by
  rcases h with (h | ⟨o, h⟩) | ⟨o, its, n, h, c, _⟩
  · exact .base (.tup h)
  · exact .fTuple h
  · exact .kTuple h c
theorem kit2 {K : PySem.W.Frag} {t a b : String} {p q : Bool} (h1 : kitB t a = some p) (h2 : kitB t b = some q) : PySem.W.kitAny K (.type t) [.type a, .type b] = some (p || q) := by
  refine kitAny_cons (kit_ty h1) (fun e => kitAny_cons (kit_ty h2) (fun e2 => ?_) (fun e2 => ?_)) (fun e => ?_)
  · subst e e2; rfl
  · subst e e2; rfl
  · subst e; rfl
section
variable {K : PySem.W.Frag}
theorem any_lt_int : PySem.W.kitAny K (.type "int") [.type "list", .type "tuple"] = some false := kit2 (p := false) (q := false) (by decide +kernel) (by decide +kernel)
theorem any_sb_int : PySem.W.kitAny K (.type "int") [.type "str", .type "bool"] = some false := kit2 (p := false) (q := false) (by decide +kernel) (by decide +kernel)
theorem any_bs_int : PySem.W.kitAny K (.type "int") [.type "bool", .type "str"] = some false := kit2 (p := false) (q := false) (by decide +kernel) (by decide +kernel)
theorem one_int_int : PySem.W.kitOne K (.type "int") (.type "int") = some true := kit_ty (by decide +kernel)
theorem one_int_bool : PySem.W.kitOne K (.type "int") (.type "bool") = some false := kit_ty (by decide +kernel)
theorem one_int_list : PySem.W.kitOne K (.type "int") (.type "list") = some false := kit_ty (by decide +kernel)
theorem one_int_tuple : PySem.W.kitOne K (.type "int") (.type "tuple") = some false := kit_ty (by decide +kernel)
theorem any_lt_none : PySem.W.kitAny K (.type "NoneType") [.type "list", .type "tuple"] = some false := kit2 (p := false) (q := false) (by decide +kernel) (by decide +kernel)
theorem any_sb_none : PySem.W.kitAny K (.type "NoneType") [.type "str", .type "bool"] = some false := kit2 (p := false) (q := false) (by decide +kernel) (by decide +kernel)
theorem any_bs_none : PySem.W.kitAny K (.type "NoneType") [.type "bool", .type "str"] = some false := kit2 (p := false) (q := false) (by decide +kernel) (by decide +kernel)
theorem one_none_int : PySem.W.kitOne K (.type "NoneType") (.type "int") = some false := kit_ty (by decide +kernel)
theorem one_none_bool : PySem.W.kitOne K (.type "NoneType") (.type "bool") = some false := kit_ty (by decide +kernel)
theorem one_none_list : PySem.W.kitOne K (.type "NoneType") (.type "list") = some false := kit_ty (by decide +kernel)
theorem one_none_tuple : PySem.W.kitOne K (.type "NoneType") (.type "tuple") = some false := kit_ty (by decide +kernel)
theorem any_lt_bool : PySem.W.kitAny K (.type "bool") [.type "list", .type "tuple"] = some false := kit2 (p := false) (q := false) (by decide +kernel) (by decide +kernel)
theorem any_sb_bool : PySem.W.kitAny K (.type "bool") [.type "str", .type "bool"] = some true := kit2 (p := false) (q := true) (by decide +kernel) (by decide +kernel)
theorem any_bs_bool : PySem.W.kitAny K (.type "bool") [.type "bool", .type "str"] = some true := kit2 (p := true) (q := false) (by decide +kernel) (by decide +kernel)
theorem one_bool_int : PySem.W.kitOne K (.type "bool") (.type "int") = some true := kit_ty (by decide +kernel)
theorem one_bool_bool : PySem.W.kitOne K (.type "bool") (.type "bool") = some true := kit_ty (by decide +kernel)
theorem one_bool_list : PySem.W.kitOne K (.type "bool") (.type "list") = some false := kit_ty (by decide +kernel)
theorem one_bool_tuple : PySem.W.kitOne K (.type "bool") (.type "tuple") = some false := kit_ty (by decide +kernel)
theorem any_lt_str : PySem.W.kitAny K (.type "str") [.type "list", .type "tuple"] = some false := kit2 (p := false) (q := false) (by decide +kernel) (by decide +kernel)
theorem any_sb_str : PySem.W.kitAny K (.type "str") [.type "str", .type "bool"] = some true := kit2 (p := true) (q := false) (by decide +kernel) (by decide +kernel)
theorem any_bs_str : PySem.W.kitAny K (.type "str") [.type "bool", .type "str"] = some true := kit2 (p := false) (q := true) (by decide +kernel) (by decide +kernel)
theorem one_str_int : PySem.W.kitOne K (.type "str") (.type "int") = some false := kit_ty (by decide +kernel)
theorem one_str_bool : PySem.W.kitOne K (.type "str") (.type "bool") = some false := kit_ty (by decide +kernel)
theorem one_str_list : PySem.W.kitOne K (.type "str") (.type "list") = some false := kit_ty (by decide +kernel)
theorem one_str_tuple : PySem.W.kitOne K (.type "str") (.type "tuple") = some false := kit_ty (by decide +kernel)
theorem any_lt_list : PySem.W.kitAny K (.type "list") [.type "list", .type "tuple"] = some true := kit2 (p := true) (q := false) (by decide +kernel) (by decide +kernel)
theorem any_sb_list : PySem.W.kitAny K (.type "list") [.type "str", .type "bool"] = some false := kit2 (p := false) (q := false) (by decide +kernel) (by decide +kernel)
theorem any_bs_list : PySem.W.kitAny K (.type "list") [.type "bool", .type "str"] = some false := kit2 (p := false) (q := false) (by decide +kernel) (by decide +kernel)
theorem one_list_int : PySem.W.kitOne K (.type "list") (.type "int") = some false := kit_ty (by decide +kernel)
theorem one_list_bool : PySem.W.kitOne K (.type "list") (.type "bool") = some false := kit_ty (by decide +kernel)
theorem one_list_list : PySem.W.kitOne K (.type "list") (.type "list") = some true := kit_ty (by decide +kernel)
theorem one_list_tuple : PySem.W.kitOne K (.type "list") (.type "tuple") = some false := kit_ty (by decide +kernel)
theorem any_lt_tuple : PySem.W.kitAny K (.type "tuple") [.type "list", .type "tuple"] = some true := kit2 (p := false) (q := true) (by decide +kernel) (by decide +kernel)
theorem any_sb_tuple : PySem.W.kitAny K (.type "tuple") [.type "str", .type "bool"] = some false := kit2 (p := false) (q := false) (by decide +kernel) (by decide +kernel)
theorem any_bs_tuple : PySem.W.kitAny K (.type "tuple") [.type "bool", .type "str"] = some false := kit2 (p := false) (q := false) (by decide +kernel) (by decide +kernel)
theorem one_tuple_int : PySem.W.kitOne K (.type "tuple") (.type "int") = some false := kit_ty (by decide +kernel)
theorem one_tuple_bool : PySem.W.kitOne K (.type "tuple") (.type "bool") = some false := kit_ty (by decide +kernel)
theorem one_tuple_list : PySem.W.kitOne K (.type "tuple") (.type "list") = some false := kit_ty (by decide +kernel)
theorem one_tuple_tuple : PySem.W.kitOne K (.type "tuple") (.type "tuple") = some true := kit_ty (by decide +kernel)
end
theorem cls2 (a b : String) : Paired ClsV [.ty a, .ty b] [.type a, .type b] := .cons (.ty a) (.cons (.ty b) .nil)
/-- zip of two tuples -/
theorem walk_zipT {K : PySem.W.Frag} {a b : Addr} {xs ys : List V} {n : Nat} (hn : n = min xs.length ys.length) : Walk (ItzT K a b) n (fun H => SqT K H a xs ∧ SqT K H b ys) (YPair (fun i => xs[i]?) (fun i => ys[i]?)) := by
  subst hn
  refine ⟨fun i _ hi q => ?_, fun _ q => ⟨xs, ys, q.1, q.2, by omega⟩, fun i H v H' _ q y => ?_⟩
  · obtain ⟨x, hx⟩ := get_some (l := xs) (i := i) (by omega)
    obtain ⟨z, hz⟩ := get_some (l := ys) (i := i) (by omega)
    exact ⟨xs, ys, x, z, q.1, q.2, hx, hz⟩
  · obtain ⟨T, x, z, h1, h2, h3, h4, h5⟩ := y
    exact ⟨T, x, z, h1, h2, h3, h4 xs q.1, h5 ys q.2⟩
theorem fn_never {P : Program} {w : World} {K : PySem.W.Frag} {mg : Str → Option Value} {base : Heap} {CX : CXT} {k : Nat} {f : Addr} {fd : FuncData} {ps : List Str} {sp : Sp} (h : ∀ vs H Q E, ¬ sp vs H Q E) : FnOk P w K mg base CX k f fd ps sp :=
  ⟨fun vs H Q E q => absurd q (h vs H Q E), fun _ _ _ H _ _ vs Q E _ _ _ _ q => absurd q (h vs H Q E)⟩
/-- a comprehension without a test -/
theorem yes_if {σ : L2.St} {H : Hp} {A B : Hp → Prop} (h : A H) : tYes σ H (fun b H3 => if b = true then A H3 else B H3) := by
  show if true = true then A H else B H
  exact iteT h
theorem all_rep : ∀ n : Nat, (List.replicate n true).all id = true
  | 0 => rfl
  | n + 1 => by rw [List.replicate_succ, List.all_cons, all_rep n]; rfl
end Pc
namespace Pc
open PySem PySem.Spec PyProof.Rows L2 RZ
section
variable {P : Program} {w : World} {K : PySem.W.Frag} {mg : Str → Option Value} {base : Heap}
/-! ### the same data twice -/
def spSame (K : PySem.W.Frag) (n : Nat) : Sp := fun vs H Q _ => ∃ (x y : V) (d : PyData), vs = [x, y] ∧ Dp K H x d ∧ Dp K H y d ∧ d.depth < n ∧ narrow d ∧ ∀ H', Same H H' → Q (.bl true) H'
theorem same_step (T : Env K mg) (n : Nat) (G : FnOk P w K mg base CX0 n T.f_same T.d_same ["_law_found", "_law_due"] (spSame K n)) : FnOk P w K mg base CX0 (n + 1) T.f_same T.d_same ["_law_found", "_law_due"] (spSame K (n + 1)) := by
  refine T.F_same.ok sc_same (fun vs H Q E h => ?_) (fun cdv A outer s H vs Q E hr h => ?_)
  · obtain ⟨x, y, d, rfl, _⟩ := h
    rfl
  · obtain ⟨x, y, d, rfl, hx, hy, hd, hw, q⟩ := h
    refine ⟨_, pss_cons (ps_if (pt_val (pe_callB call_isiT (by rfl) T.n_isinstance (by decide +kernel) (pa_cons (pv 1) (pa_cons (pe_tup (pa_cons (pe_bltn (v := .ty "list") (by rfl) T.n_list (by decide +kernel) rfl) (pa_cons (pe_bltn (v := .ty "tuple") (by rfl) T.n_tuple (by decide +kernel) rfl) pa_nil))) pa_nil))))
        (pss_cons (ps_if (PW.pt (pw_or (pt_cmpR op_ne (pe_callB call_isi (by rfl) T.n_isinstance (by decide +kernel) (pa_cons (pv 0) (pa_cons (pe_bltn (v := .ty "list") (by rfl) T.n_list (by decide +kernel) rfl) pa_nil))) (pe_callB call_isi (by rfl) T.n_isinstance (by decide +kernel) (pa_cons (pv 1) (pa_cons (pe_bltn (v := .ty "list") (by rfl) T.n_list (by decide +kernel) rfl) pa_nil))) (nomark _))
            (pw_or1 (pt_cmpR op_ne (pe_callB call_isi (by rfl) T.n_isinstance (by decide +kernel) (pa_cons (pv 0) (pa_cons (pe_bltn (v := .ty "tuple") (by rfl) T.n_tuple (by decide +kernel) rfl) pa_nil))) (pe_callB call_isi (by rfl) T.n_isinstance (by decide +kernel) (pa_cons (pv 1) (pa_cons (pe_bltn (v := .ty "tuple") (by rfl) T.n_tuple (by decide +kernel) rfl) pa_nil))) (nomark _)))))
          (pss_one (ps_ret pe_bl)) pss_nil)
        (pss_one (ps_ret (pe_and (pe_cmpR op_eq (pe_callB call_len_seq (by rfl) T.n_len PySem.boot_len (pa_cons (pv 0) pa_nil)) (pe_callB call_len_seq (by rfl) T.n_len PySem.boot_len (pa_cons (pv 1) pa_nil)) (nomark _))
          (pe_one (pe_callB (cr_all rfl) (by rfl) T.n_all (by decide +kernel) (pa_cons
            (pe_lc (own := [("_law_mine", 2), ("_law_its", 3)]) (g := gTup K 2 (gCons (gName 2) (gCons (gName 3) gNil))) (tt := tYes) (by rfl) sc_same.nd (pi_zipA (by rfl) T.n_zip (pa_cons (pv 0) (pa_cons (pv 1) pa_nil)))
              (blkOk_by (N := N_same) (sc := defScope s_same) (by decide +kernel))
              (fun _ _ _ _ _ => pg_tup (by rfl) (pgs_cons (pg_name (i := 2) sc_same.nd rfl (.inl rfl)) (pgs_cons (pg_name (i := 3) sc_same.nd rfl (.inl rfl)) pgs_nil)))
              (fun _ _ _ _ _ => pts_nil)
              (fun _ _ _ _ _ => pe_call G hr (by rfl) T.g_same T.F_same.kp T.b_same .nil pass0 (pa_cons (pv 2) (pa_cons (pv 3) pa_nil)))) pa_nil))))))) pss_nil)
      (pss_cons (ps_if (PW.pt (pw_or (pt_cmpR op_isN (pv 1) pe_non (nomark _)) (pw_or1 (pt_val (pe_callB call_isiT (by rfl) T.n_isinstance (by decide +kernel) (pa_cons (pv 1) (pa_cons (pe_tup (pa_cons (pe_bltn (v := .ty "str") (by rfl) T.n_str (by decide +kernel) rfl) (pa_cons (pe_bltn (v := .ty "bool") (by rfl) T.n_bool (by decide +kernel) rfl) pa_nil))) pa_nil)))))))
        (pss_one (ps_ret (pe_and (pe_cmpR op_eq (pv 0) (pv 1) (nomark _))
          (pe_and (pe_cmpR op_eq (pe_callB call_isi (by rfl) T.n_isinstance (by decide +kernel) (pa_cons (pv 0) (pa_cons (pe_bltn (v := .ty "bool") (by rfl) T.n_bool (by decide +kernel) rfl) pa_nil))) (pe_callB call_isi (by rfl) T.n_isinstance (by decide +kernel) (pa_cons (pv 1) (pa_cons (pe_bltn (v := .ty "bool") (by rfl) T.n_bool (by decide +kernel) rfl) pa_nil))) (nomark _))
          (pe_one (pe_cmpR op_eq (pe_cmpR op_isN (pv 0) pe_non (nomark _)) (pe_cmpR op_isN (pv 1) pe_non (nomark _)) (nomark _))))))) pss_nil)
      (pss_one (ps_ret (pe_and (pe_callB call_isi (by rfl) T.n_isinstance (by decide +kernel) (pa_cons (pv 0) (pa_cons (pe_bltn (v := .ty "int") (by rfl) T.n_int (by decide +kernel) rfl) pa_nil)))
        (pe_and (pe_not (pe_callB call_isi (by rfl) T.n_isinstance (by decide +kernel) (pa_cons (pv 0) (pa_cons (pe_bltn (v := .ty "bool") (by rfl) T.n_bool (by decide +kernel) rfl) pa_nil)))) (pe_one (pe_cmpR op_eq (pv 0) (pv 1) (nomark _)))))))), ?_⟩
    cases d with
    | dict _ => cases hx
    | int i =>
      cases hx; cases hy
      refine ⟨_, rfl, by show 2 ≤ sizeLine; decide, fun t nt => ⟨_, t, _, _, _, _, rfl, upd_same, cls2 _ _, .base (.int i), any_lt_int, _, rfl, iteF ?_⟩⟩
      refine ⟨_, rfl, rfl, _, rfl, iteF ⟨_, rfl, by show 2 ≤ sizeLine; decide, fun u nu => ⟨_, u, _, _, _, _, rfl, upd_same, cls2 _ _, .base (.int i), any_sb_int, _, rfl, iteF ?_⟩⟩⟩
      refine ⟨_, rfl, _, _, _, _, _, rfl, .ty _, .base (.int i), one_int_int, _, rfl, iteT ⟨_, rfl, _, _, _, _, _, rfl, .ty _, .base (.int i), one_int_bool, _, rfl, _, rfl, iteT ⟨_, rfl, _, rfl, rfl, ?_⟩⟩⟩
      rw [decide_eq_true rfl]
      exact q _ ((same_new nt).trans (same_new nu))
    | none =>
      cases hx; cases hy
      refine ⟨_, rfl, by show 2 ≤ sizeLine; decide, fun t nt => ⟨_, t, _, _, _, _, rfl, upd_same, cls2 _ _, .base .non, any_lt_none, _, rfl, iteF ?_⟩⟩
      refine ⟨_, rfl, rfl, _, rfl, iteT ?_⟩
      refine ⟨_, rfl, _, rfl, rfl, _, rfl, iteT ⟨_, rfl, _, _, _, _, _, rfl, .ty _, .base .non, one_none_bool, _, rfl, _, _, _, _, _, rfl, .ty _, .base .non, one_none_bool, rfl, _, rfl, iteT ⟨_, rfl, rfl, _, rfl, rfl, rfl, ?_⟩⟩⟩
      exact q _ (same_new nt)
    | bool b =>
      cases hx; cases hy
      refine ⟨_, rfl, by show 2 ≤ sizeLine; decide, fun t nt => ⟨_, t, _, _, _, _, rfl, upd_same, cls2 _ _, .base (.bl b), any_lt_bool, _, rfl, iteF ?_⟩⟩
      refine ⟨_, rfl, rfl, _, rfl, iteF ⟨_, rfl, by show 2 ≤ sizeLine; decide, fun u nu => ⟨_, u, _, _, _, _, rfl, upd_same, cls2 _ _, .base (.bl b), any_sb_bool, _, rfl, iteT ?_⟩⟩⟩
      refine ⟨_, rfl, _, rfl, rfl, _, rfl, ?_⟩
      rw [decide_eq_true rfl]
      refine iteT ⟨_, rfl, _, _, _, _, _, rfl, .ty _, .base (.bl b), one_bool_bool, _, rfl, _, _, _, _, _, rfl, .ty _, .base (.bl b), one_bool_bool, rfl, _, rfl, iteT ⟨_, rfl, rfl, _, rfl, rfl, rfl, ?_⟩⟩
      rw [decide_eq_true rfl]
      exact q _ ((same_new nt).trans (same_new nu))
    | str z =>
      cases hx; cases hy
      refine ⟨_, rfl, by show 2 ≤ sizeLine; decide, fun t nt => ⟨_, t, _, _, _, _, rfl, upd_same, cls2 _ _, .base (.str z), any_lt_str, _, rfl, iteF ?_⟩⟩
      refine ⟨_, rfl, rfl, _, rfl, iteF ⟨_, rfl, by show 2 ≤ sizeLine; decide, fun u nu => ⟨_, u, _, _, _, _, rfl, upd_same, cls2 _ _, .base (.str z), any_sb_str, _, rfl, iteT ?_⟩⟩⟩
      refine ⟨_, rfl, _, rfl, rfl, _, rfl, ?_⟩
      rw [decide_eq_true rfl]
      refine iteT ⟨_, rfl, _, _, _, _, _, rfl, .ty _, .base (.str z), one_str_bool, _, rfl, _, _, _, _, _, rfl, .ty _, .base (.str z), one_str_bool, rfl, _, rfl, iteT ⟨_, rfl, rfl, _, rfl, rfl, rfl, ?_⟩⟩
      rw [decide_eq_true rfl]
      exact q _ ((same_new nt).trans (same_new nu))
    | list ds =>
      cases hx with
      | lst hsx hax =>
      cases hy with
      | lst hsy hay =>
      rename_i a xs b ys
      have hlx := dpa_len hax
      have hly := dpa_len hay
      obtain ⟨hw1, hw2⟩ := hw
      refine ⟨_, rfl, by show 2 ≤ sizeLine; decide, fun t nt => ?_⟩
      have s1 : Same H (upd H t (.tup [.ty "list", .ty "tuple"])) := same_new nt
      have hsx1 := Same.seq s1 hsx
      have hsy1 := Same.seq s1 hsy
      refine ⟨_, t, _, _, _, _, rfl, upd_same, cls2 _ _, ty_lst hsy1, any_lt_list, _, rfl, iteT ?_⟩
      refine ⟨_, rfl, _, _, _, _, _, rfl, .ty _, ty_lst hsx1, one_list_list, _, rfl, _, _, _, _, _, rfl, .ty _, ty_lst hsy1, one_list_list, rfl, _, rfl, iteNS rfl ?_⟩
      refine ⟨_, rfl, _, _, _, _, _, rfl, .ty _, ty_lst hsx1, one_list_tuple, _, rfl, _, _, _, _, _, rfl, .ty _, ty_lst hsy1, one_list_tuple, rfl, _, rfl, iteNS rfl ?_⟩
      refine ⟨_, rfl, a, xs, rfl, .inl hsx1, _, rfl, b, ys, rfl, .inl hsy1, rfl, _, rfl, ?_⟩
      rw [decide_eq_true (show V.int (xs.length : Int) = V.int (ys.length : Int) by rw [hlx, hly])]
      refine iteT ⟨_, rfl, _, rfl, a, b, xs, ys, rfl, .inl ⟨hsx1, hsy1, fun D nD => ?_⟩⟩
      have nD0 : H D = none := s1.free nD
      refine lc_it (walk_zip (n := xs.length) (by omega)) (fun i H' => Same H H' ∧ H' D = some (.lst (List.replicate i (.bl true)))) ⟨s1.trans (same_new nD), upd_same⟩ (fun i H' _ h => ⟨Same.seq h.1 hsx, Same.seq h.1 hsy⟩) (fun i v H1 H2 hi h yy => ?_) (fun H' h => ?_)
      · obtain ⟨sm, eD⟩ := h
        obtain ⟨tp, u, v, rfl, nT, rfl, g1, g2⟩ := yy
        obtain ⟨d1, e1, f1⟩ := dpa_get hax g1
        obtain ⟨d2, e2, f2⟩ := dpa_get hay g2
        cases Option.some.inj (e1.symm.trans e2)
        have st : Same H (upd H1 tp (.tup [u, v])) := sm.trans (same_new nT)
        refine ⟨tp, _, rfl, .inl (.inl upd_same), rfl, _, _, rfl, _, _, rfl, rfl, rfl, yes_if ?_⟩
        refine ⟨_, rfl, _, rfl, u, v, d1, rfl, dp_same st f1, dp_same st f2, ?_, narrow_get hw2 e1, fun H3 s3 => ⟨_, s3 _ _ (same_new nT _ _ eD), ?_, ?_, ?_⟩⟩
        · have := depth_get e1
          have hd' : PyData.depthAll ds + 1 < n + 1 := hd
          omega
        · rw [List.length_replicate]
          exact line_big (by omega)
        · intro c o hc
          rw [upd_ne (ne_of_none hc nD0)]
          exact s3 _ _ (st _ _ hc)
        · rw [upd_same, List.replicate_succ']
      · obtain ⟨sm, eD⟩ := h
        refine ⟨D, List.replicate xs.length true, rfl, ?_, ?_⟩
        · rw [List.map_replicate]
          exact .inl (.inl eD)
        · rw [all_rep]
          exact q _ sm
    | tuple ds =>
      cases hx with
      | tup hsx hax =>
      cases hy with
      | tup hsy hay =>
      rename_i a xs b ys
      have hlx := dpa_len hax
      have hly := dpa_len hay
      obtain ⟨hw1, hw2⟩ := hw
      refine ⟨_, rfl, by show 2 ≤ sizeLine; decide, fun t nt => ?_⟩
      have s1 : Same H (upd H t (.tup [.ty "list", .ty "tuple"])) := same_new nt
      have hsx1 := same_tup s1 hsx
      have hsy1 := same_tup s1 hsy
      refine ⟨_, t, _, _, _, _, rfl, upd_same, cls2 _ _, ty_tup hsy1, any_lt_tuple, _, rfl, iteT ?_⟩
      refine ⟨_, rfl, _, _, _, _, _, rfl, .ty _, ty_tup hsx1, one_tuple_list, _, rfl, _, _, _, _, _, rfl, .ty _, ty_tup hsy1, one_tuple_list, rfl, _, rfl, iteNS rfl ?_⟩
      refine ⟨_, rfl, _, _, _, _, _, rfl, .ty _, ty_tup hsx1, one_tuple_tuple, _, rfl, _, _, _, _, _, rfl, .ty _, ty_tup hsy1, one_tuple_tuple, rfl, _, rfl, iteNS rfl ?_⟩
      refine ⟨_, rfl, a, xs, rfl, .inr hsx1, _, rfl, b, ys, rfl, .inr hsy1, rfl, _, rfl, ?_⟩
      rw [decide_eq_true (show V.int (xs.length : Int) = V.int (ys.length : Int) by rw [hlx, hly])]
      refine iteT ⟨_, rfl, _, rfl, a, b, xs, ys, rfl, .inr ⟨hsx1, hsy1, fun D nD => ?_⟩⟩
      have nD0 : H D = none := s1.free nD
      refine lc_it (walk_zipT (n := xs.length) (by omega)) (fun i H' => Same H H' ∧ H' D = some (.lst (List.replicate i (.bl true)))) ⟨s1.trans (same_new nD), upd_same⟩ (fun i H' _ h => ⟨same_tup h.1 hsx, same_tup h.1 hsy⟩) (fun i v H1 H2 hi h yy => ?_) (fun H' h => ?_)
      · obtain ⟨sm, eD⟩ := h
        obtain ⟨tp, u, v, rfl, nT, rfl, g1, g2⟩ := yy
        obtain ⟨d1, e1, f1⟩ := dpa_get hax g1
        obtain ⟨d2, e2, f2⟩ := dpa_get hay g2
        cases Option.some.inj (e1.symm.trans e2)
        have st : Same H (upd H1 tp (.tup [u, v])) := sm.trans (same_new nT)
        refine ⟨tp, _, rfl, .inl (.inl upd_same), rfl, _, _, rfl, _, _, rfl, rfl, rfl, yes_if ?_⟩
        refine ⟨_, rfl, _, rfl, u, v, d1, rfl, dp_same st f1, dp_same st f2, ?_, narrow_get hw2 e1, fun H3 s3 => ⟨_, s3 _ _ (same_new nT _ _ eD), ?_, ?_, ?_⟩⟩
        · have := depth_get e1
          have hd' : PyData.depthAll ds + 1 < n + 1 := hd
          omega
        · rw [List.length_replicate]
          exact line_big (by omega)
        · intro c o hc
          rw [upd_ne (ne_of_none hc nD0)]
          exact s3 _ _ (st _ _ hc)
        · rw [upd_same, List.replicate_succ']
      · obtain ⟨sm, eD⟩ := h
        refine ⟨D, List.replicate xs.length true, rfl, ?_, ?_⟩
        · rw [List.map_replicate]
          exact .inl (.inl eD)
        · rw [all_rep]
          exact q _ sm
theorem ok_same (T : Env K mg) : ∀ n : Nat, FnOk P w K mg base CX0 n T.f_same T.d_same ["_law_found", "_law_due"] (spSame K n)
  | 0 => fn_never fun vs H Q E h => by
    obtain ⟨x, y, d, _, _, _, hd, _⟩ := h
    exact absurd hd (Nat.not_lt_zero _)
  | n + 1 => same_step T n (ok_same T n)
end
end Pc
namespace Pc
open PySem PySem.Spec PyProof.Rows L2 RZ
/-! ### enumerate of a tuple -/
theorem draws_tuple {prog : Program} {w : World} {A : Around} (hh : A.handled = none) (it l : Addr) (hne : l ≠ it) (items : Array Value) :
    Draws prog w A it [it, l] items.size (fun i v => items[i]? = some v) (fun i h => h.IsTupleIter it l i ∧ h.IsTuple l items) where
  live i h st := by
    obtain ⟨⟨o, ho, _⟩, _⟩ := st
    exact ⟨o, ho⟩
  frame i h h' st hk := ⟨Heap.IsTupleIter.at st.1 (hk it (by simp)), Heap.IsTuple.at st.2 (hk l (by simp))⟩
  item i s Q E hi st hQ := by
    have hx : items[i]? = some items[i] := by simp [hi]
    exact nextOf_tuple_item st.1 st.2 hx fun h' hit' hs' => hQ _ h' s.toks hx ⟨hit', st.2.extBut hs'.extBut hne⟩ hs'
  done s Q E st hE := nextOf_tuple_end hh st.1 st.2 (by simp) hE
set_option maxHeartbeats 4000000 in
theorem enum_newT (l : Addr) (items : Array Value) (n : Nat) (dct : Option Addr) (sl : Array (Option Value)) :
    Meets (Builtin.«enumerate.__new__» ⟨[.type "enumerate", .ref l], []⟩) (fun _ R s =>
      s.heap.get? l = some { cls := .type "tuple", dict := dct, data := .seq items n, slots := sl } ∧
      R (.ok (.ret (.ref (s.heap.push { cls := .type "tuple_iterator", data := .fields #[.ref l, .int 0 0] }).objs.size)))
        { s with heap := Heap.push (s.heap.push { cls := .type "tuple_iterator", data := .fields #[.ref l, .int 0 0] }) { cls := .type "enumerate", data := .fields #[.none, .bool false, .ref s.heap.objs.size, rawInt 0, .none, .none] } }) := by
  refine .of_wp fun prog w A R s h => ?_
  obtain ⟨hp, g, d, tk, os⟩ := s
  obtain ⟨hl, h⟩ := h
  have subE := sub_enumerate
  have isT : Heap.IsTuple (Shared.heap ⟨hp, g, d, tk, os⟩) l items := ⟨_, hl, rfl, n, rfl⟩
  wp_walk using AutoSeq1.wpAny_loadPart' hl
  refine wpAny_stack_any fun st => wpAny_pure ?_
  split
  · rename_i c _ _ _ _ _
    cases (c == Value.type "enumerate") <;> (wp_walk using AutoSeq1.wpAny_loadPart' hl, wpAny_pyIter_tuple isT; exact ⟨_, rfl, h⟩)
  · wp_walk using AutoSeq1.wpAny_loadPart' hl, wpAny_pyIter_tuple isT
    exact ⟨_, rfl, h⟩
theorem call_enumT {prog : Program} {w : World} {A : Around} {E : Value → Shared → Prop} {s : Shared} {l : Addr} {items : Array Value} {Q : Value → Shared → Prop} (hL : s.heap.IsTuple l items)
    (h : ∀ h', IsEnum h' (s.heap.objs.size + 1) s.heap.objs.size 0 .none → h'.IsTupleIter s.heap.objs.size l 0 →
      (∀ b o, s.heap.get? b = some o → h'.get? b = some o) → Q (.ref (s.heap.objs.size + 1)) { s with heap := h' }) :
    wpAny (model prog w) A (call (.type "enumerate") [.ref l]) Q E s := by
  obtain ⟨⟨c, dct, dt, sl⟩, hl, hc, n, hd⟩ := hL
  have hc' : c = .type "tuple" := hc
  have hd' : dt = .seq items n := hd
  subst hc' hd'
  refine callType_new F.called_enumerate (by decide) (F.typeCall_enumerate_1 _) (F.newCall_enumerate_1 _) (fun obj => F.args_object_init_2 obj _) F.entry_enumerate_new (enum_newT l items n dct sl) ⟨hl, ?_⟩
  have hz : (s.heap.push { cls := .type "tuple_iterator", data := .fields #[.ref l, .int 0 0] }).objs.size = s.heap.objs.size + 1 := Heap.size_push ..
  have he := Heap.get?_push_size (s.heap.push { cls := .type "tuple_iterator", data := .fields #[.ref l, .int 0 0] })
    (o := { cls := .type "enumerate", data := .fields #[.none, .bool false, .ref s.heap.objs.size, rawInt 0, .none, .none] }) rfl
  rw [hz] at he
  show _ ∧ _
  rw [hz]
  exact ⟨⟨_, he, rfl⟩, h _ he ⟨{ cls := .type "tuple_iterator", data := .fields #[.ref l, .int 0 0] }, Heap.get?_push_of_some _ (Heap.get?_push_size _ rfl), rfl, rfl⟩ fun b o x => Heap.get?_push_of_some _ (Heap.get?_push_of_some _ x)⟩
/-- the tuple at a, its items in new pairs with their places -/
def IteT (K : PySem.W.Frag) (a : Addr) : It where
  go i H := ∃ (xs : List V) (x : V), SqT K H a xs ∧ xs[i]? = some x
  yld i H v H' := ∃ T x, v = .ref T ∧ H T = none ∧ H' = upd H T (.tup [.int (i : Nat), x]) ∧ ∀ xs, SqT K H a xs → xs[i]? = some x
  stop i H := ∃ xs : List V, SqT K H a xs ∧ xs.length ≤ i
theorem turn_enumT {P : Program} {w : World} {K : PySem.W.Frag} {elts : List Expr} {kk : Nat} {tpos : Pos} (a e it : Addr) (hei : e ≠ it) (hae : a ≠ e) (hai : a ≠ it) :
    Turn P w K (.Tuple elts kk tpos) (IteT K a) [e, it] e (fun i h => (∃ old, IsEnum h e it ((i : Nat) : Int) old) ∧ h.IsTupleIter it a i) where
  mem := by simp
  obj i h st b hb := by
    obtain ⟨⟨old, he⟩, ⟨o, ho, hc, hd⟩⟩ := st
    rcases (show b = e ∨ b = it by simpa using hb) with z | z
    · rw [z]; exact ⟨_, he, fun v q => nomatch q⟩
    · rw [z]; exact ⟨o, ho, fun v q => by rw [hd] at q; cases q⟩
  keep i h h' st k := by
    obtain ⟨⟨old, he⟩, hi⟩ := st
    exact ⟨⟨old, k e (by simp) _ he⟩, hi.at fun o q => k it (by simp) o q⟩
  item := by
    intro X hP hw hK hc i pins s σ H E I hf st hg
    subst hP hw hK
    obtain ⟨⟨old, he⟩, hit⟩ := st
    obtain ⟨xs, x, hq, hx⟩ := hg
    obtain ⟨its, rv, p, hz⟩ := I.tuple hq
    have p2 : s.heap.IsTuple a its.toArray := p
    obtain ⟨u, hu, ru⟩ := rv.get hx
    have hlt : i < its.toArray.size := by
      rw [List.size_toArray]
      exact get_lt hu
    have D := draws_tuple (prog := X.prog) (w := X.w) (A := X.A.in1) (show X.A.in1.handled = none from I.ok.hd hc) it a hai its.toArray
    have hel : e < s.heap.objs.size := Heap.lt_size he
    have hil : it < s.heap.objs.size := by obtain ⟨_, q, _⟩ := hit; exact Heap.lt_size q
    refine wpAny_pyNext_enum_itemD D he ⟨hit, p2⟩ hlt hei (by simp [hei, hae.symm]) fun y h' tk hy ho hst hT hsz hk => ?_
    have ey : y = u := by
      have : its.toArray[i]? = some y := hy
      rw [List.getElem?_toArray, hu] at this
      exact (Option.some.inj this).symm
    subst ey
    refine ⟨_, rfl, wpAny_letOwnedTupleGo_enum (s := { s with heap := h', toks := tk + 1 }) ho fun h'' he' sb => ?_⟩
    have hT2 : h''.get? s.heap.objs.size = some { cls := .type "tuple", data := .seq #[.int i tk, y] } := (sb.2 _ (Nat.ne_of_gt hel)).trans hT
    have new : ObjOk X.prog X.w (upd H s.heap.objs.size (.tup [.int (i : Nat), x])) h'' s.heap.objs.size (.tup [.int (i : Nat), x]) :=
      ⟨by show 2 ≤ sizeLine; decide, [.int i tk, y], .cons ⟨_, rfl⟩ (.cons ru .nil), ⟨_, hT2, rfl, _, rfl⟩⟩
    have I1 := I.turnedNew (t' := tk + 1) (h' := h'') (ch := [e, it]) (fun b ob hb q => (sb.2 b (fun z => hb (by simp [z]))).trans (hk b ob (fun z => hb (by simp [z])) (fun z => hb (by simp [z])) q)) hf (Nat.le_refl _) new
    refine ⟨.ref s.heap.objs.size, _, I1, rfl, ⟨_, x, rfl, I.hok.fresh (Nat.le_refl _), rfl, fun ys hy => by rw [I.tuple_inj hy hq]; exact hx⟩, ⟨⟨y, ?_⟩, hst.1.at fun o q => (sb.2 it hei.symm).trans q⟩, fun b hb => ?_⟩
    · rw [show ((i + 1 : Nat) : Int) = (i : Int) + 1 by omega]; exact he'
    · have hb' : b < s.heap.objs.size := by
        rcases (show b = e ∨ b = it by simpa using hb) with z | z
        · rw [z]; exact hel
        · rw [z]; exact hil
      rw [upd_ne (Nat.ne_of_lt hb')]
      exact (hf b hb).1
  done := by
    intro X hP hw hK hc i pins s σ H E I hf st hg
    subst hP hw hK
    obtain ⟨⟨old, he⟩, hit⟩ := st
    obtain ⟨xs, hq, hx⟩ := hg
    obtain ⟨its, rv, p, hz⟩ := I.tuple hq
    have p2 : s.heap.IsTuple a its.toArray := p
    obtain ⟨f0, f1, f2, f3, f4, f5⟩ := hf it (by simp)
    have hl := rv.length
    have hT : s.TypeIs (.ref e) "enumerate" := ⟨_, he, rfl⟩
    unfold pyNext
    refine wpAny_bind (wpAny_attempt (wpAny_callSpecial?_slot (name := Str.ofString "__next__") hT F.slot_enumerate_next (wpAny_call_entry F.slot_enumerate_next hT F.entry_enumerate_next ?_ (F.args_enumerate_next_1 _))))
    show wpAny _ _ (field (.ref e) 2 >>= _) _ _ _
    refine wpAny_bind (wpAny_field he rfl (x := .ref it) rfl ?_)
    refine wpAny_bind (nextOf_tuple_end (show X.A.in1.handled = none from I.ok.hd hc) hit p2 (by simp; omega) fun h' x he' hx' => ?_)
    obtain ⟨o, ho, hcl⟩ := hx'
    refine wpAny_bind (wpAny_isInstance (T := "StopIteration") (b := true) ⟨o, ho, hcl⟩ isSubtype_stop ?_)
    exact wpAny_pure ⟨rfl, I.turned (t' := s.toks) (fun b o hb q => he' b o hb q) f0 f1 f3 f4 f5⟩
  self A i s Q E st h := by
    obtain ⟨⟨_, he⟩, _⟩ := st
    exact wpAny_pyIter_enum he h
/-- enumerate of a list or a tuple -/
def iEnumA (K : PySem.W.Frag) (ta : TA) : TI := fun σ H R => ta σ H fun vs H1 => ∃ a xs, vs = [.ref a] ∧ ((SqL K H1 a xs ∧ R (Ite K a) H1) ∨ (SqT K H1 a xs ∧ R (IteT K a) H1))
theorem pi_enumA {X : Cx} {e : Expr} {ta : TA} {p pos tpos : Pos} {elts : List Expr} {kk : Nat} (hg : Gl X "enumerate") (hm : X.mg "enumerate" = none) (ha : PA X [e] ta) (hs : starEach [e] X.env = [(false, eval e X.env)] := by rfl) :
    PI X (.Tuple elts kk tpos) (.Call (.Name "enumerate" p) [e] [] pos) (iEnumA X.K ta) := by
  constructor
  intro pins s σ H R I h
  refine Call_ (ld_blt I hg hm boot_enumerate (callWith_type1 (thn (ha.run pos pins s σ H _ I h) fun us s1 r => ?_) hs rfl))
  obtain ⟨vs, H1, I1, r1, a, xs, ex, q1⟩ := r
  subst ex
  cases r1 with
  | cons r rr =>
    cases rr
    cases r
    have fr : ∀ b, b ∈ [s1.heap.objs.size + 1, s1.heap.objs.size] → FpOk X pins H1 b := fun b hb => by
      have hle : s1.heap.objs.size ≤ b := by
        rcases (show b = s1.heap.objs.size + 1 ∨ b = s1.heap.objs.size by simpa using hb) with z | z <;> omega
      exact I1.fpOk hle (I1.hok.fresh hle)
    rcases q1 with ⟨hq, q⟩ | ⟨hq, q⟩
    · obtain ⟨its, rv, p', hz⟩ := I1.list hq
      refine call_enumerate_list p'.isList fun h' he hit _ hk => wpAny_pyIter_enum he ?_
      exact ⟨_, _, _, _, H1, rfl, I1.kept (t' := s1.toks) hk, turn_enum a (s1.heap.objs.size + 1) s1.heap.objs.size, ⟨⟨.none, he⟩, hit, Nat.succ_ne_self _⟩, fr, q⟩
    · obtain ⟨its, rv, p', hz⟩ := I1.tuple hq
      have p2 : s1.heap.IsTuple a its.toArray := p'
      have hlt : a < s1.heap.objs.size := by obtain ⟨o, ho, _⟩ := p2; exact Heap.lt_size ho
      refine call_enumT p2 fun h' he hit hk => wpAny_pyIter_enum he ?_
      exact ⟨_, _, _, _, H1, rfl, I1.kept (t' := s1.toks) hk, turn_enumT a (s1.heap.objs.size + 1) s1.heap.objs.size (Nat.succ_ne_self _) (Nat.ne_of_lt (Nat.lt_succ_of_lt hlt)) (Nat.ne_of_lt hlt), ⟨⟨.none, he⟩, hit⟩, fr, q⟩
theorem walk_enumT {K : PySem.W.Frag} {a : Addr} {xs : List V} : Walk (IteT K a) xs.length (fun H => SqT K H a xs) (YPair (fun i => some (.int (i : Nat))) (fun i => xs[i]?)) where
  goes i H hi q := by
    obtain ⟨x, hx⟩ := get_some hi
    exact ⟨xs, x, q, hx⟩
  stops H q := ⟨xs, q, Nat.le_refl _⟩
  yields i H v H' hi q y := by
    obtain ⟨T, x, h1, h2, h3, h4⟩ := y
    exact ⟨T, .int (i : Nat), x, h1, h2, h3, rfl, h4 xs q⟩
end Pc
namespace Pc
open PySem PySem.Spec PyProof.Rows L2 RZ
/-! ### t[::-1] of a pair -/
section
variable {prog : Program} {w : World} {A : Around} {E : Value → Shared → Prop} {s : Shared}
theorem applied_rev2 {sl : Addr} {vk : Value} {Q : Int × Int × Nat → Shared → Prop} (hs : s.heap.IsSliceOf sl .none .none vk) (pk : IsPart vk (some (-1))) (h : Q (1, -1, 2) s) :
    wpAny (model prog w) A (Builtin.Slice.sliceApplied (.ref sl) (pure (2 : Int))) Q E s := by
  obtain ⟨os, hos, hcs, hds⟩ := id hs
  unfold Builtin.Slice.sliceApplied Builtin.Slice.sliceFields
  refine wpAny_bind (wpAny_bind (wpAny_field hos hds (x := .none) rfl ?_))
  refine wpAny_bind (wpAny_field hos hds (x := .none) rfl ?_)
  refine wpAny_bind (wpAny_field hos hds (x := vk) rfl (wpAny_pure ?_))
  refine wpAny_bind (HT.slicePart_ pk ?_)
  show wpAny _ _ (if ((-1 : Int) == 0) = true then _ else _) _ _ s
  rw [if_neg (by decide)]
  refine wpAny_bind (HT.slicePart_ .none (wpAny_bind (HT.slicePart_ .none (wpAny_bind (wpAny_pure ?_)))))
  exact wpAny_pure h
theorem item_rev2 {t sl : Addr} {u v vk : Value} {Q : Value → Shared → Prop} (ht : IsTup s.heap t #[u, v]) (hs : s.heap.IsSliceOf sl .none .none vk) (pk : IsPart vk (some (-1)))
    (h : Q (.ref s.heap.objs.size) { s with heap := s.heap.push { cls := .type "tuple", data := .seq #[v, u] } }) : wpAny (model prog w) A (getItem (.ref t) (.ref sl)) Q E s := by
  obtain ⟨os, hos, hcs, hds⟩ := id hs
  have hTs : s.TypeIs (.ref sl) "slice" := ⟨os, hos, hcs⟩
  unfold getItem
  try with_reducible refine wpAny_holding ?_
  first | refine wpAny_bind (wpAny_pure ?_) | skip
  refine wpAny_bind (wpAny_sequenceKey ht.typeIs (by decide) ?_)
  refine wpAny_bind (wpAny_callSpecial?_slot (name := Str.ofString "__getitem__") ht.typeIs PyProof.Rows.slot_tuple_getitem (wpAny_call_entry PyProof.Rows.slot_tuple_getitem ht.typeIs entry_tuple_getitem ?_ (args_tuple_getitem _ _)))
  show wpAny _ _ (Builtin.Tuple.tupleItemsOf (.ref t) >>= _) _ _ s
  refine wpAny_bind (tupleItemsOf_ ht ?_)
  refine wpAny_bind (wpAny_typeOf hTs ?_)
  rw [if_pos (by decide)]
  refine wpAny_bind (applied_rev2 hs pk ?_)
  show wpAny _ _ (if ((1 : Int) == 0 && (-1 : Int) == 1 && (2 : Nat) == 2) = true then _ else _) _ _ s
  rw [if_neg (by decide)]
  have e : ((List.range 2).filterMap fun (k : Nat) => (#[u, v] : Array Value)[((1 : Int) + (k : Int) * -1).toNat]?).toArray = #[v, u] := rfl
  rw [e]
  have hz : sizeOk (.seq (#[v, u] : Array Value)) := by show 2 ≤ sizeLine; decide
  first
    | exact wpAny_bind (m := Builtin.Tuple.tupleExact _) (wpAny_newObj_type (wpAny_pure ⟨_, rfl, wpAny_pure h⟩) hz)
    | exact wpAny_bind (wpAny_bind (m := Builtin.Tuple.tupleExact _) (wpAny_newObj_type (wpAny_pure (wpAny_pure ⟨_, rfl, wpAny_pure h⟩)) hz))
    | exact wpAny_bind (wpAny_bind (m := Builtin.Tuple.tupleExact _) (wpAny_newObj_type (wpAny_pure ⟨_, rfl, wpAny_pure h⟩) hz))
    | exact wpAny_bind (m := Builtin.Tuple.tupleExact _) (wpAny_newObj_type (wpAny_bind (wpAny_pure (wpAny_pure ⟨_, rfl, wpAny_pure h⟩))) hz)
end
def tRev2 (K : PySem.W.Frag) (te : TE) : TE := fun σ H Q => te σ H fun x H1 => ∃ a y z, x = .ref a ∧ SqT K H1 a [y, z] ∧ ∀ p, H1 p = none → Q (.ref p) (upd H1 p (.tup [z, y]))
theorem pe_rev2 {X : Cx} {e : Expr} {te : TE} {k : Nat} {p1 p2 p3 pos : Pos} (he : PE X e te) : PE X (.Subscript e (.Slice none none (some (.UnaryOp .USub (.Constant (.int 1) k p1) p2)) p3) pos) (tRev2 X.K te) := by
  constructor
  intro pins s σ H Q I h
  refine Subscript_ (thn (he.run pins s σ H _ I h) fun v s1 r => ?_)
  obtain ⟨x, H1, I1, r1, a, y, z, ex, hx, q⟩ := r
  subst ex
  cases r1
  have hst : PO X (some (.UnaryOp .USub (.Constant (.int 1) k p1) p2)) (tPart (tUn (rU fun i => .int (-i)) (tC (.int 1)))) := po_some (pe_un un_neg pe_int)
  refine wpAny_Slice (thn (po_none.run pins s1 σ H1 (fun o H2 => o = none ∧ H2 = H1) I1 ⟨rfl, rfl⟩) fun vl s2 ⟨l, H2, I2, pl, el, e2⟩ => ?_)
  subst el e2
  refine thn (po_none.run pins s2 σ H2 (fun o H3 => o = none ∧ H3 = H2) I2 ⟨rfl, rfl⟩) fun vu s3 ⟨u, H3, I3, pu, eu, e3⟩ => ?_
  subst eu e3
  refine thn (hst.run pins s3 σ H3 (fun o H4 => o = some (-1) ∧ H4 = H3) I3 ⟨1, rfl, -1, rfl, rfl, rfl⟩) fun vs s4 ⟨o, H4, I4, ps, eo, e4⟩ => ?_
  subst eo e4
  cases pl
  cases pu
  have I5 : Inv X pins σ H4 { s4 with heap := s4.heap.push { cls := .type "slice", data := .fields #[.none, .none, vs] } } := I4.kept (t' := s4.toks) fun b ob q => Heap.get?_push_of_some _ q
  obtain ⟨its, r, ht, hz⟩ := I5.tuple hx
  obtain ⟨w1, w2, ei, r1, r2⟩ := vals2 r
  subst ei
  show wpAny (model X.prog X.w) X.A (subscriptTail e (.Slice none none (some (.UnaryOp .USub (.Constant (.int 1) k p1) p2)) p3) (.ref a) (.ref s4.heap.objs.size)) (EP X pins σ Q) X.xe _
  refine tail_any (ops := [.ref a, .ref s4.heap.objs.size]) ht.typeIs PyProof.Rows.slot_tuple_getitem.lookup ?_ (by with_unfolding_all rfl)
  refine item_rev2 ht (Heap.IsSliceOf.new _ .none .none vs) ps ?_
  refine ⟨.ref _, _, I5.laid (t' := s4.toks) (o := .tup [z, y]) (fun b ob q => Heap.get?_push_of_some _ q) (Nat.le_refl _) ?_, rfl, q _ (I5.hok.fresh (Nat.le_refl _))⟩
  exact ⟨by show 2 ≤ sizeLine; decide, [w2, w1], .cons r2 (.cons r1 .nil), IsTup.new _ _⟩
end Pc
namespace Pc
open PySem PySem.Spec PyProof.Rows L2 RZ
/-! ### defs that run where no repr is under way (repr asks for that) -/
structure FnG (P : Program) (w : World) (K : PySem.W.Frag) (mg : Str → Option Value) (base : Heap) (CX : CXT) (k : Nat) (f : Addr) (fd : FuncData) (ps : List Str) (sp : Sp) : Prop where
  len : ∀ vs H Q E, sp vs H Q E → vs.length = ps.length
  run : ∀ (A : Around) (outer : List PySem.Env) (s : Shared) (H : Hp) (args : Args) (us : List Value) (vs : List V) (Q : VK) (E : XK), Room k A → A.guards = some [] → Env0 P w K mg base A outer s H →
    BindsTo s fd args (ps.zip us) → Vals vs us → sp vs H Q E → codeAny (model P w) A (.call (.ref f) args) (CR CX outer P w H s Q E) s
section
variable {P : Program} {w : World} {K : PySem.W.Frag} {mg : Str → Option Value} {base : Heap}
theorem fun_g {x qual : Str} {st : Stmt} {f : Addr} {fd : FuncData} {N ps : List Str} {k : Nat} {sp : Sp} (F : Fun K x qual st f fd) (S : FnScope N ps (defScope st)) (len : ∀ vs H Q E, sp vs H Q E → vs.length = ps.length)
    (hbody : ∀ (cdv : Value) (A : Around) (outer : List PySem.Env) (s : Shared) (H : Hp) (vs : List V) (Q : VK) (E : XK), Room k (A.deeper (envOfC qual (defScope st) s.heap.objs.size f cdv)) → A.guards = some [] → sp vs H Q E →
      ∃ t, PSs (cxOf CX0 P w K mg base N qual (defScope st) f cdv A outer s H E).nox (defBody st) t ∧ t { nx := fun _ H' => Q .non H', rt := Q } (start N vs) H) : FnG P w K mg base CX0 (k + 1) f fd ps sp := by
  obtain ⟨oc, od, kV, doc, pm, an, cdv, ct, osl, rfl, lk, hcd⟩ := F.ex
  constructor
  · exact len
  intro A outer s H args us vs Q E hr hgd e0 hb r hsp
  have hl := len _ _ _ _ hsp
  have up : ∀ b o, base.get? b = some o → s.heap.get? b = some o := fun b o e => (e0.bs b o e).1
  have KX : K.In s.heap := e0.mod.kin.keeps up
  have lim : s.heap.NoLimit := e0.mod.nolimit.keeps up
  obtain ⟨t, ht, hq⟩ := hbody cdv A outer s H vs Q E (hr.deeper _) hgd hsp
  refine codeAny_call_function hr.depth (KX _ _ lk) rfl S.co S.gen rfl (PySem.W.codeRec_of KX hcd) (hb _ _ _ _ ?_)
  refine wpAny_newFunctionEnv_cells S.kind ?_ ?_
  · rintro ⟨n, v⟩ hy
    rcases S.par n (List.of_mem_zip hy).1 with z | z
    · exact Or.inl z
    · exact Or.inr ⟨z, PySem.W.cellsFrom_some _ _ _ (Or.inl z)⟩
  intro env he s1 x
  subst he
  refine ⟨lim.keeps x.toInCall.keep, codeAny_func ?_⟩
  have I := inv_start (CX := CX0) (E := E) S hr.hd e0 hl r x
  refine wpAny_mono (ht.nox.run [] s1 (start N vs) H _ I hq) ?_ (fun _ _ z => z)
  intro fl s' hs
  cases fl with
  | brk => obtain ⟨_, _, _, z⟩ := hs; exact z.elim
  | cont => obtain ⟨_, _, _, z⟩ := hs; exact z.elim
  | next =>
    obtain ⟨σ', H', J, z⟩ := hs
    exact ⟨V.non, H', J.os, J.bare, J.base, J.hok, rfl, z⟩
  | ret u =>
    obtain ⟨v, σ', H', J, rv, z⟩ := hs
    exact ⟨v, H', J.os, J.bare, J.base, J.hok, rv, z⟩
end
section
variable {X : Cx} {CX : CXT} {k : Nat} {f : Addr} {fd : FuncData} {ps : List Str} {sp : Sp} {x : Str} {e : Expr} {es : List Expr} {ds : List Value} {dvs : List V} {E : XK} {t : TA} {p pos : Pos}
theorem pe_callG (F : FnG X.prog X.w X.K X.mg X.base CX k f fd ps sp) (hr : Room k X.A) (hgd : X.A.guards = some []) (hg : Gl X x) (hm : X.mg x = some (.ref f)) (hk : PySem.W.keepIn X.K (.ref f) = true) (hb : Binds X.K fd ps ds) (hd : Vals dvs ds) (hx : Passes CX X E)
    (ha : PA X (e :: es) t) (hdb : (x == ("__debug__" : Str)) = false := by decide) (he : starEach (e :: es) X.env = (false, eval e X.env) :: starEach es X.env := by rfl) (hpl : (backTo pos (starEach es X.env)).any (·.1) = false := by rfl) :
    PE X (.Call (.Name x p) (e :: es) [] pos) (tCall sp dvs E t) := by
  constructor
  intro pins s σ H Q I h
  refine wpAny_Call_Name_kw (ld_glob I hg hm ?_ hdb)
  refine PySem.W.callWith_K (h₀ := X.base) I.ok.mod.kin hk (thn (ha.run pos pins s σ H _ I h) ?_) he hpl
  rintro us s1 ⟨vs, H1, I1, r, q⟩
  refine ⟨I1.kIn, ?_⟩
  have r2 : Vals (vs ++ dvs) (us ++ ds) := r.append hd
  have hl : (us ++ ds).length = ps.length := by
    rw [← r2.length]
    exact F.len _ _ _ _ q
  refine wpAny_call (codeAny_mono (F.run X.A X.stack s1 H1 ⟨us, []⟩ (us ++ ds) (vs ++ dvs) Q E hr hgd I1.env0 (hb s1 us I1.kIn hl) r2 q) ?_)
  intro res s' hq
  cases res with
  | error e => exact hx pins σ H1 s1 e s' I1 hq
  | ok fl =>
    cases fl with
    | ret u => exact I1.after hq
    | next => exact hq.elim
    | brk => exact hq.elim
    | cont => exact hq.elim
end
/-! ### the law's own call, where no repr is under way -/
theorem law_g {P : Program} {w : World} {K : PySem.W.Frag} {mg mb : Str → Option Value} {CX : CXT} {k : Nat} {fa a : Addr} {fd : FuncData} {x : Str} {sp : Sp} {s₁ : Shared} {vs : List Value} {ns : List Int}
    (KX : K.In s₁.heap) (hns : s₁.heap.Ns mainGlobals mg) (hb : s₁.heap.Ns builtinsNs mb) (hbb : ∀ x : Str, x ≠ "__name__" → mb x = bootBuiltins x) (hlim : s₁.heap.NoLimit) (hg : s₁.gens = #[])
    (ha : s₁.heap.get? a = some { cls := .type "list", data := .seq vs.toArray }) (hi : IntsAre vs ns) (hl : ns.length ≤ sizeLine) (hr : Room k callerA)
    (F : ∀ base : Heap, K.In base → base.Ns mainGlobals mg → FnG P w K mg base CX k fa fd [x] sp) (hbind : ∀ (s : Shared) (u : Value), BindsTo s fd ⟨[u], []⟩ [(x, u)])
    (hsp : ∀ H : Hp, SqL K H a (ns.map V.int) → sp [.ref a] H (fun v _ => v = .bl true) fun _ _ _ => False)
    (hCX : ∀ H e s', CX [] H s₁ (fun _ _ _ => False) e s' → False) :
    codeAny (model P w) callerA (.call (.ref fa) ⟨[.ref a], []⟩) (fun r s' => r = .ok (.ret (.bool true)) ∧ OldK s₁.heap s'.heap ∧ s'.os = s₁.os ∧ AllBare s'.gens) s₁ := by
  have rv := vals_ints hi
  have len0 := hi.length
  let lo : Obj := { cls := .type "list", data := .seq vs.toArray }
  have main : ∀ H : Hp, SqL K H a (ns.map V.int) → HOk P w H s₁.heap → (∀ b u, H b = some u → b = a ∧ u = .frz lo (.lst (ns.map V.int)) ∧ K.lookup a = none) →
      codeAny (model P w) callerA (.call (.ref fa) ⟨[.ref a], []⟩) (fun r s' => r = .ok (.ret (.bool true)) ∧ OldK s₁.heap s'.heap ∧ s'.os = s₁.os ∧ AllBare s'.gens) s₁ := by
    intro H hS hok hA
    have free : ∀ {b : Addr} {o : Obj}, s₁.heap.get? b = some o → (∀ n, o.data ≠ .seq vs.toArray n) → H b = none := by
      intro b o e d
      cases z : H b with
      | none => rfl
      | some u =>
        obtain ⟨rfl, _⟩ := hA b u z
        rw [ha] at e
        cases e
        exact absurd rfl (d _)
    have nsK : ∀ {b : Addr} {m : Str → Option Value}, s₁.heap.Ns b m → (hidT s₁.heap H).Ns b m := by
      rintro b m ⟨o, es, ep, e, d, r⟩
      exact ⟨o, es, ep, hidT_get e (free e fun n => by rw [d]; exact fun z => nomatch z), d, r⟩
    have hKb : K.In (hidT s₁.heap H) := by
      intro b o e
      refine hidT_get (KX b o e) ?_
      cases z : H b with
      | none => rfl
      | some u =>
        obtain ⟨rfl, _, hn⟩ := hA b u z
        rw [hn] at e
        cases e
    obtain ⟨mc, l1, l2⟩ := hlim
    have e0 : Env0 P w K mg (hidT s₁.heap H) callerA [] s₁ H :=
      { frames := rfl, mod := ⟨hKb, nsK hns, ⟨mb, nsK hb, hbb⟩, ⟨mc, nsK l1, l2⟩⟩, bs := fun b o e => of_hidT e, bsz := Nat.le_of_eq (hidT_size _ _), funs := trivial, frf := fun b hb => absurd (show b ∈ ([] : List Addr) from hb) (by simp), hok := hok, bare := .of_eq hg }
    have R := (F _ hKb (nsK hns)).run callerA [] s₁ H ⟨[.ref a], []⟩ [.ref a] [.ref a] _ _ hr rfl e0 (hbind s₁ (.ref a)) (.cons rfl .nil) (hsp H hS)
    refine codeAny_mono R ?_
    intro res s' h
    cases res with
    | error e => exact (hCX H e s' h).elim
    | ok fl =>
      cases fl with
      | next => exact h.elim
      | brk => exact h.elim
      | cont => exact h.elim
      | ret u =>
        obtain ⟨v, H', os, bare, un, hok', r', q⟩ := h
        have q' : v = .bl true := q
        subst q'
        obtain rfl : u = Value.bool true := r'
        refine ⟨rfl, OldK.of_keep ?_, os, bare⟩
        intro b o e
        cases z : H b with
        | none => exact un.keep b o e z (fun y => absurd (show b ∈ ([] : List Addr) from y) (by simp)) (by simp)
        | some u =>
          obtain ⟨rfl, rfl, _⟩ := hA b u z
          obtain ⟨g1, _⟩ := hok _ _ z
          obtain ⟨g2, _⟩ := hok' _ _ (un.frzs _ lo _ z)
          rw [e] at g1
          cases g1
          exact g2
  cases hk : K.lookup a with
  | some o =>
    have e := KX a o hk
    rw [ha] at e
    cases e
    refine main (fun _ => none) ?_ (fun b u z => nomatch z) (fun b u z => nomatch z)
    exact Or.inr ⟨_, vs.toArray, _, hk, rfl, rfl, rfl, by rw [List.size_toArray, len0]; exact hl, by simpa using rv⟩
  | none =>
    have sp1 : ∀ b u, (upd (fun _ => none) a (.frz lo (.lst (ns.map V.int)))) b = some u → b = a ∧ u = .frz lo (.lst (ns.map V.int)) ∧ K.lookup a = none := by
      intro b u z
      by_cases hba : b = a
      · subst hba
        rw [upd_same] at z
        exact ⟨rfl, (Option.some.inj z).symm, hk⟩
      · rw [upd_ne hba] at z
        cases z
    refine main (upd (fun _ => none) a (.frz lo (.lst (ns.map V.int)))) (Or.inl (Or.inr ⟨lo, upd_same⟩)) ?_ sp1
    intro b u z
    obtain ⟨rfl, rfl, _⟩ := sp1 b u z
    exact ⟨ha, by rw [List.length_map]; exact hl, vs, _, rv, ha⟩
theorem walk_g {l : PySem.W.OpenLaw} {n k : Nat} {q : Program} {loose : List Str} {XP : (Str → Option Value) → Heap → Prop} {YP : World → Heap → Prop} {d : DefRec} {K : Params → PySem.W.Frag} {sp : World → Sp} {x : Str}
    (hn : l.most = some n) (hn2 : n ≤ sizeLine) (hdf : d.params.defaults = []) (hr : Room k callerA) (hY : ∀ (w : World) (h : Heap), YP w h → (K w.params).In h)
    (F : ∀ (w : World) (mg : Str → Option Value) (fa : Addr) (h : Heap), (K w.params).In h → h.Ns mainGlobals mg → mg d.name = some (.ref fa) →
      ∃ fd : FuncData, (∀ (s : Shared) (u : Value), BindsTo s fd ⟨[u], []⟩ [(x, u)]) ∧ ∀ base : Heap, (K w.params).In base → base.Ns mainGlobals mg → FnG l.prog w (K w.params) mg base CX0 k fa fd [x] (sp w))
    (hsp : ∀ (w : World) (H : Hp) (a : Addr) (ns : List Int), ns.length ≤ n → SqL (K w.params) H a (ns.map V.int) → sp w [.ref a] H (fun v _ => v = .bl true) fun _ _ _ => False) :
    PySem.W.WalkO q loose XP YP l.row.toRowW d [] (fun f vs => PySem.call f vs) := by
  refine Att.attach_call hn hdf ?_
  intro w s₀ s₁ mg mb fa o pm cd doc a vs ns G Y ho hd hcd hmg hobj hints hlen hg
  obtain ⟨fd, hb, hF⟩ := F w mg fa _ (hY w _ Y) G.T.g hmg
  exact law_g (hY w _ Y) G.T.g G.T.b G.T.builtins G.T.nolimit hg hobj hints (Nat.le_trans hlen hn2) hr hF hb (fun H hS => hsp w H a ns hlen hS) fun _ _ _ z => z
/-! ### repr of data -/
theorem call_reprD {X : Cx} (hgd : X.A.guards = some []) (hu : X.A.units + 64 < cLine) : CallR X (.builtin "repr") (fun xs H Q => ∃ (a : Addr) (d : PyData), xs = [.ref a] ∧ Dp X.K H (.ref a) d ∧ d.canLay0 = true ∧ d.showable = true ∧ d.depth ≤ 60 ∧ d.shown.length ≤ sizeLine ∧ Q (.str d.shown) H) := by
  intro pins s σ H xs us Q I r h
  obtain ⟨a, d, rfl, hd, hl, hs, hdp, hz, q⟩ := h
  obtain ⟨u, rfl, ru⟩ := vals1 r
  cases ru
  obtain ⟨as, rd⟩ := Dp.reads I d (.ref a) (.ref a) hd rfl
  refine repr_of_reads' rd hs (PyData.noDict_hsm (PyData.hasDict_of_canLay d hl)) hgd (by omega) (fun _ _ e => e) ?_ hz
  intro h' u tk hk
  exact ⟨.str d.shown, H, I.kept (t' := tk) hk, ⟨u, rfl⟩, q⟩
end Pc
namespace Pc
open PySem PySem.Spec PyProof.Rows L2 RZ
/-! ### data of small size: its depth is at most k, its text has at most m signs -/
structure Fine (k m : Nat) (d : PyData) : Prop where
  lay : d.canLay0 = true
  show_ : d.showable = true
  depth : d.depth ≤ k
  nar : narrow d
  len : d.shown.length ≤ m
theorem Fine.mono {k m k' m' : Nat} {d : PyData} (h : Fine k m d) (hk : k ≤ k') (hm : m ≤ m') : Fine k' m' d := ⟨h.lay, h.show_, Nat.le_trans h.depth hk, h.nar, Nat.le_trans h.len hm⟩
theorem Fine.shaped {k m : Nat} {d : PyData} (h : Fine k m d) (hk : k ≤ 64) : SeqAt.shaped d = true := by
  unfold SeqAt.shaped
  rw [Bool.and_eq_true]
  exact ⟨h.lay, decide_eq_true (Nat.le_trans h.depth hk)⟩
theorem str_len (t : String) : (Str.ofString t).length = t.length := by
  rw [Str.ofString_eq_toList]
  show (t.toList.map Char.toNat).toArray.size = t.length
  rw [List.size_toArray, List.length_map, String.length_toList]
theorem log_lt {i : Int} {k : Nat} (h : i.natAbs < 2 ^ k) (hk : 0 < k) : i.natAbs.log2 < k := by
  by_cases h0 : i.natAbs = 0
  · rw [h0]; exact hk
  · exact (Nat.log2_lt h0).mpr h
theorem fine_int {i : Int} (h : i.natAbs < 2 ^ 60) : Fine 0 61 (.int i) := by
  have hl := log_lt h (by decide)
  refine ⟨rfl, decide_eq_true (Nat.lt_of_lt_of_le hl (by decide)), Nat.le_refl _, trivial, ?_⟩
  show (Str.ofString (toString i)).length ≤ 61
  rw [str_len]
  exact int_text_length_le (by decide) hl
theorem fine_nat {i : Nat} (h : i < 2 ^ 60) : Fine 0 61 (.int (i : Int)) := fine_int (by rw [Int.natAbs_natCast]; exact h)
theorem all_lay {ds : List PyData} (h : ∀ d ∈ ds, d.canLay0 = true) : PyData.canLayAll0 ds = true := by
  induction ds with
  | nil => rfl
  | cons d r ih =>
    show (d.canLay0 && PyData.canLayAll0 r) = true
    rw [h d List.mem_cons_self, ih fun x hx => h x (List.mem_cons_of_mem _ hx)]; rfl
theorem all_showable {ds : List PyData} (h : ∀ d ∈ ds, d.showable = true) : PyData.showableAll ds = true := by
  induction ds with
  | nil => rfl
  | cons d r ih =>
    show (d.showable && PyData.showableAll r) = true
    rw [h d List.mem_cons_self, ih fun x hx => h x (List.mem_cons_of_mem _ hx)]; rfl
theorem all_depth {ds : List PyData} {k : Nat} (h : ∀ d ∈ ds, d.depth ≤ k) : PyData.depthAll ds ≤ k := by
  induction ds with
  | nil => exact Nat.zero_le _
  | cons d r ih => exact Nat.max_le.mpr ⟨h d List.mem_cons_self, ih fun x hx => h x (List.mem_cons_of_mem _ hx)⟩
theorem all_shown {ds : List PyData} {m : Nat} (h : ∀ d ∈ ds, d.shown.length ≤ m) : ((PyData.shownAll ds).map (·.length)).sum ≤ ds.length * m ∧ (PyData.shownAll ds).length = ds.length := by
  induction ds with
  | nil => exact ⟨Nat.zero_le _, rfl⟩
  | cons d r ih =>
    obtain ⟨h1, h2⟩ := ih fun x hx => h x (List.mem_cons_of_mem _ hx)
    have h3 := h d List.mem_cons_self
    refine ⟨?_, congrArg (· + 1) h2⟩
    show ((d.shown :: PyData.shownAll r).map (·.length)).sum ≤ (r.length + 1) * m
    rw [List.map_cons, List.sum_cons, Nat.add_mul, Nat.one_mul]
    omega
theorem fine_list {ds : List PyData} {k m n : Nat} (h : ∀ d ∈ ds, Fine k m d) (hn : ds.length ≤ n) (hb : n ≤ 100000) : Fine (k + 1) (n * (m + 2) + 3) (.list ds) := by
  refine ⟨all_lay fun d hd => (h d hd).lay, all_showable fun d hd => (h d hd).show_, Nat.succ_le_succ (all_depth fun d hd => (h d hd).depth), ⟨Nat.le_trans hn hb, narrow_of fun d hd => (h d hd).nar⟩, ?_⟩
  obtain ⟨h1, h2⟩ := all_shown fun d hd => (h d hd).len
  have h3 := listText_len_le (PyData.shownAll ds)
  have h4 : ds.length * m ≤ n * m := Nat.mul_le_mul_right _ hn
  show (listText (PyData.shownAll ds)).length ≤ _
  rw [Nat.mul_add]
  omega
theorem fine_tuple {ds : List PyData} {k m n : Nat} (h : ∀ d ∈ ds, Fine k m d) (hn : ds.length ≤ n) (hb : n ≤ 100000) : Fine (k + 1) (n * (m + 2) + 3) (.tuple ds) := by
  refine ⟨all_lay fun d hd => (h d hd).lay, all_showable fun d hd => (h d hd).show_, Nat.succ_le_succ (all_depth fun d hd => (h d hd).depth), ⟨Nat.le_trans hn hb, narrow_of fun d hd => (h d hd).nar⟩, ?_⟩
  obtain ⟨h1, h2⟩ := all_shown fun d hd => (h d hd).len
  have h3 := tupleText_len_le (PyData.shownAll ds)
  have h4 : ds.length * m ≤ n * m := Nat.mul_le_mul_right _ hn
  show (tupleText (PyData.shownAll ds)).length ≤ _
  rw [Nat.mul_add]
  omega
/-- numbers as data -/
def nd (l : List Nat) : List PyData := l.map fun (i : Nat) => PyData.int (i : Int)
theorem nd_length (l : List Nat) : (nd l).length = l.length := List.length_map _
theorem dp_nats {K : PySem.W.Frag} {H : Hp} : ∀ l : List Nat, DpAll K H (nv l) (nd l)
  | [] => .nil
  | i :: r => .cons (.int i) (dp_nats r)
theorem fine_nd {l : List Nat} (h : ∀ i ∈ l, i < 2 ^ 60) : ∀ d ∈ nd l, Fine 0 61 d := fun d hd => by
  obtain ⟨i, hi, rfl⟩ := List.mem_map.mp hd
  exact fine_nat (h i hi)
/-- a tuple of numbers -/
theorem fine_tup {l : List Nat} {n : Nat} (h : ∀ i ∈ l, i < 2 ^ 60) (hn : l.length ≤ n) (hb : n ≤ 100000) : Fine 1 (n * 63 + 3) (.tuple (nd l)) := fine_tuple (fine_nd h) (by rw [nd_length]; exact hn) hb
/-! ### lists of pairs of numbers -/
/-- at the places as stand the pairs ps -/
def Prs (H : Hp) (as : List Addr) (ps : List (Nat × Nat)) : Prop := Paired (fun a (p : Nat × Nat) => H a = some (.tup [.int p.1, .int p.2])) as ps
theorem Prs.length {H : Hp} {as : List Addr} {ps : List (Nat × Nat)} (h : Prs H as ps) : as.length = ps.length := Paired.length h
theorem prs_same {H H' : Hp} (e : Same H H') : ∀ {as : List Addr} {ps : List (Nat × Nat)}, Prs H as ps → Prs H' as ps
  | _, _, .nil => .nil
  | _, _, .cons h r => .cons (e _ _ h) (prs_same e r)
theorem prs_keep {b : Addr} {H H' : Hp} {ys : List V} (k : Keep b H H') (hb : H b = some (.lst ys)) : ∀ {as : List Addr} {ps : List (Nat × Nat)}, Prs H as ps → Prs H' as ps
  | _, _, .nil => .nil
  | _, _, .cons h r => .cons (k.tup hb h) (prs_keep k hb r)
theorem prs_get {H : Hp} : ∀ {as : List Addr} {ps : List (Nat × Nat)} {i : Nat} {a : Addr}, Prs H as ps → as[i]? = some a → ∃ p, ps[i]? = some p ∧ H a = some (.tup [.int p.1, .int p.2])
  | _, _, _, _, .nil, h => by simp at h
  | _, _, 0, _, .cons (b := p) h _, e => by
    cases Option.some.inj e
    exact ⟨p, rfl, h⟩
  | _, _, i + 1, a, .cons _ r, e => prs_get (i := i) r e
theorem prs_append {H : Hp} : ∀ {as bs : List Addr} {ps qs : List (Nat × Nat)}, Prs H as ps → Prs H bs qs → Prs H (as ++ bs) (ps ++ qs)
  | _, _, _, _, .nil, s => s
  | _, _, _, _, .cons h r, s => .cons h (prs_append r s)
def pd (p : Nat × Nat) : PyData := .tuple [.int (p.1 : Int), .int (p.2 : Int)]
theorem prs_dp {K : PySem.W.Frag} {H : Hp} : ∀ {as : List Addr} {ps : List (Nat × Nat)}, Prs H as ps → DpAll K H (as.map V.ref) (ps.map pd)
  | _, _, .nil => .nil
  | _, _, .cons h r => .cons (.tup (.inl (.inl h)) (.cons (.int _) (.cons (.int _) .nil))) (prs_dp r)
theorem fine_pd {p : Nat × Nat} (h1 : p.1 < 2 ^ 60) (h2 : p.2 < 2 ^ 60) : Fine 1 129 (pd p) := fine_tuple (n := 2) (fun d hd => by
  rcases List.mem_cons.mp hd with z | z
  · rw [z]; exact fine_nat h1
  · rw [List.mem_singleton.mp z]; exact fine_nat h2) (Nat.le_refl _) (by decide)
/-- a list of pairs -/
theorem fine_pds {ps : List (Nat × Nat)} {n : Nat} (h : ∀ p ∈ ps, p.1 < 2 ^ 60 ∧ p.2 < 2 ^ 60) (hn : ps.length ≤ n) (hb : n ≤ 100000) : Fine 2 (n * 131 + 3) (.list (ps.map pd)) :=
  fine_list (fun d hd => by
    obtain ⟨p, hp, rfl⟩ := List.mem_map.mp hd
    exact fine_pd (h p hp).1 (h p hp).2) (by rw [List.length_map]; exact hn) hb
end Pc
namespace Pc
open PySem PySem.Spec PyProof.Rows L2 RZ
/-! ### a list or a tuple: walked, unpacked -/
/-- a list or a tuple is read -/
def Sq (K : PySem.W.Frag) (H : Hp) (a : Addr) (xs : List V) : Prop := SqL K H a xs ∨ SqT K H a xs
theorem Sq.same {K : PySem.W.Frag} {H H' : Hp} {a : Addr} {xs : List V} (h : Sq K H a xs) (e : Same H H') : Sq K H' a xs := h.imp (fun z => e.seq z) (fun z => same_tup e z)
def iSeq (K : PySem.W.Frag) (tl : TE) : TI := fun σ H R => tl σ H fun x H1 => ∃ a, x = .ref a ∧ (((∃ xs, SqL K H1 a xs) ∧ R (Itl K a) H1) ∨ ((∃ xs, SqT K H1 a xs) ∧ R (Itt K a) H1))
section
variable {X : Cx}
theorem pi_seq {tg l : Expr} {tl : TE} (hl : PE X l tl) : PI X tg l (iSeq X.K tl) := by
  constructor
  intro pins s σ H R I h
  refine thn (hl.run pins s σ H _ I h) ?_
  rintro v s1 ⟨x, H1, I1, r1, a, ex, q⟩
  subst ex
  cases r1
  rcases q with ⟨⟨xs, hx⟩, q⟩ | ⟨⟨xs, hx⟩, q⟩
  · obtain ⟨its, _, p, _⟩ := I1.list hx
    refine wpAny_pyIter_list p.isList ?_
    exact pi_one (tk := s1.toks) I1 _ (turn_list _ _) ⟨_, Heap.get?_push_size _ rfl, rfl, rfl⟩ q
  · obtain ⟨its, _, p, _⟩ := I1.tuple hx
    refine wpAny_pyIter_tuple p ?_
    exact pi_one (tk := s1.toks) I1 _ (turn_tuple _ _) ⟨_, Heap.get?_push_size _ rfl, rfl, rfl⟩ q
/-- names unpacked from a tuple or a list -/
def gSeq (K : PySem.W.Frag) (n : Nat) (t : TGs) : TG := fun v σ H Q => ∃ a xs, v = .ref a ∧ Sq K H a xs ∧ xs.length = n ∧ t xs σ H Q
theorem pg_seq {es : List Expr} {k : Nat} {t : TGs} {n : Nat} {pos : Pos} (hc : X.calm = true) (h : PGs X es t)
    (hn : (assignEach es X.env).length = n := by rfl) (hst : (assignEach es X.env).findIdx? (·.1) = none := by rfl) : PG X (.Tuple es k pos) (gSeq X.K n t) := by
  constructor
  intro pins s σ H v u Q I r hw
  obtain ⟨a, xs, e, hq, hl, hw⟩ := hw
  rcases hq with hq | hq
  · exact (pg_unl (pos := pos) (k := k) hc h hn hst).run pins s σ H v u Q I r ⟨a, xs, e, hq, hl, hw⟩
  · exact (pg_tup (pos := pos) (k := k) hc h hn hst).run pins s σ H v u Q I r ⟨a, xs, e, hq, hl, hw⟩
/-! ### a call with keywords alone -/
def tKw (n : Nat) (sp : Sp) (gV : List V → List V) (E : XK) (tk : TA) : TE := fun σ H Q => tk σ H fun zs H1 => zs.length = n ∧ sp (gV zs) H1 Q E
theorem pe_kw {CX : CXT} {k : Nat} {f : Addr} {fd : FuncData} {ps ks : List Str} {sp : Sp} {E : XK} {x : Str} {p pos : Pos} {kws : List Keyword} {tk : TA} {g : List Value → List Value} {gV : List V → List V}
    (F : FnOk X.prog X.w X.K X.mg X.base CX k f fd ps sp) (hr : Room k X.A) (hg : Gl X x) (hm : X.mg x = some (.ref f)) (hk : PySem.W.keepIn X.K (.ref f) = true)
    (hb : ∀ (s : Shared) (ws : List Value), ws.length = ks.length → BindsTo s fd ⟨[], ks.zip ws⟩ (ps.zip (g ws))) (rel : ∀ {zs : List V} {ws : List Value}, zs.length = ks.length → Vals zs ws → Vals (gV zs) (g ws)) (hx : Passes CX X E) (hkw : PK X kws tk)
    (hall : (backToKw pos (keywordEach kws X.env)).all (·.1.isSome) = true := by rfl) (hks : (backToKw pos (keywordEach kws X.env)).filterMap (·.1) = ks := by rfl) (hdb : (x == ("__debug__" : Str)) = false := by decide)
    (hpl : ((backTo pos (starEach [] X.env)).any (·.1) || (backToKw pos (keywordEach kws X.env)).any (·.1.isNone)) = false := by rfl) :
    PE X (.Call (.Name x p) [] kws pos) (tKw ks.length sp gV E tk) := by
  constructor
  intro pins s σ H Q I h
  refine wpAny_Call_Name_kw (ld_glob I hg hm ?_ hdb)
  refine PySem.W.callWith_KW0 (h₀ := X.base) I.ok.mod.kin hk hall (thn (hkw.run pos pins s σ H _ I h) ?_) hpl
  rintro ws s2 ⟨zs, H2, I2, rz, hz, q⟩
  refine ⟨I2.kIn, ?_⟩
  rw [hks]
  refine wpAny_call (codeAny_mono (F.run X.A X.stack s2 H2 ⟨[], ks.zip ws⟩ (g ws) (gV zs) Q E hr I2.env0 (hb s2 ws (by rw [← rz.length, hz])) (rel hz rz) q) ?_)
  intro res s' hq
  cases res with
  | error e => exact hx pins σ H2 s2 e s' I2 hq
  | ok fl =>
    cases fl with
    | ret u => exact I2.after hq
    | next => exact hq.elim
    | brk => exact hq.elim
    | cont => exact hq.elim
end
theorem kw_to {K : PySem.W.Frag} {x qual : Str} {st : Stmt} {f : Addr} {fd : FuncData} {ps ks : List Str} {g : List Value → List Value} (F : Fun K x qual st f fd)
    (h : ∀ (kV doc pm : Value) (an : Option Addr) (cdv ct : Value) (ws : List Value), ws.length = ks.length → bindArgs (PySem.W.fnOf x qual (defArgs st) (defBody st) (defScope st) .none kV doc pm an cdv ct) ⟨[], ks.zip ws⟩ = pure (ps.zip (g ws))) :
    ∀ (s : Shared) (ws : List Value), ws.length = ks.length → BindsTo s fd ⟨[], ks.zip ws⟩ (ps.zip (g ws)) := by
  obtain ⟨oc, od, kV, doc, pm, an, cdv, ct, osl, rfl, lk, hcd⟩ := F.ex
  intro s ws hl
  exact .of_eq (h kV doc pm an cdv ct ws hl)
end Pc
namespace Pc
open PySem PySem.Spec PyProof.Rows L2 RZ
/-! ### the couples of a pairing -/
/-- the couples whose first person is below i -/
def cplN (ps : List Nat) (i : Nat) : List (Nat × Nat) := ((List.range i).filter fun x => decide (x < ps.getD x 0)).map fun x => (x, ps.getD x 0)
def cpl (ps : List Nat) : List (Nat × Nat) := cplN ps ps.length
theorem getD_of {ps : List Nat} {x y : Nat} (h : ps[x]? = some y) : ps.getD x 0 = y := by
  rw [List.getD_eq_getElem?_getD, h]; rfl
theorem cplN_yes {ps : List Nat} {i y : Nat} (h : ps[i]? = some y) (hl : i < y) : cplN ps (i + 1) = cplN ps i ++ [(i, y)] := by
  unfold cplN
  rw [List.range_succ, List.filter_append, List.map_append]
  congr 1
  rw [List.filter_cons_of_pos (by rw [getD_of h]; exact decide_eq_true hl), List.filter_nil, List.map_cons, List.map_nil, getD_of h]
theorem cplN_no {ps : List Nat} {i y : Nat} (h : ps[i]? = some y) (hl : ¬ i < y) : cplN ps (i + 1) = cplN ps i := by
  unfold cplN
  rw [List.range_succ, List.filter_append, List.map_append, List.filter_cons_of_neg (by rw [getD_of h]; simpa using hl), List.filter_nil, List.map_nil, List.append_nil]
theorem cplN_len (ps : List Nat) (i : Nat) : (cplN ps i).length ≤ i := by
  unfold cplN
  rw [List.length_map]
  exact Nat.le_trans (List.length_filter_le _ _) (by rw [List.length_range]; exact Nat.le_refl _)
theorem mem_cpl {n : Nat} {ps : List Nat} (h : IsPair n ps) {p : Nat × Nat} : p ∈ cpl ps ↔ ps[p.1]? = some p.2 ∧ p.1 < p.2 := by
  unfold cpl cplN
  rw [h.len]
  constructor
  · intro hp
    obtain ⟨x, hx, rfl⟩ := List.mem_map.mp hp
    obtain ⟨h1, h2⟩ := List.mem_filter.mp hx
    obtain ⟨y, e, _⟩ := h.par x (List.mem_range.mp h1)
    rw [getD_of e] at h2 ⊢
    exact ⟨e, of_decide_eq_true h2⟩
  · rintro ⟨e, hl⟩
    refine List.mem_map.mpr ⟨p.1, List.mem_filter.mpr ⟨List.mem_range.mpr ?_, ?_⟩, ?_⟩
    · rw [← h.len]; exact get_lt e
    · rw [getD_of e]; exact decide_eq_true hl
    · rw [getD_of e]
theorem IsPair.back {n : Nat} {ps : List Nat} (h : IsPair n ps) {x y : Nat} (e : ps[x]? = some y) : ps[y]? = some x ∧ y < n ∧ x < n ∧ y ≠ x := by
  have hx : x < n := by rw [← h.len]; exact get_lt e
  obtain ⟨z, e1, e2, e3, e4⟩ := h.par x hx
  cases Option.some.inj (e.symm.trans e1)
  exact ⟨e4, e2, hx, e3⟩
theorem cpl_cover {n : Nat} {ps : List Nat} (h : IsPair n ps) {z : Nat} (hz : z < n) : ∃ p ∈ cpl ps, p.1 = z ∨ p.2 = z := by
  obtain ⟨y, e1, e2, e3, e4⟩ := h.par z hz
  rcases Nat.lt_or_gt_of_ne e3 with l | l
  · exact ⟨(y, z), (mem_cpl h).mpr ⟨e4, l⟩, .inr rfl⟩
  · exact ⟨(z, y), (mem_cpl h).mpr ⟨e1, l⟩, .inl rfl⟩
theorem filter_split {α : Type} (f : α → Bool) : ∀ l : List α, (l.filter f).length + (l.filter fun x => !f x).length = l.length
  | [] => rfl
  | a :: r => by
    have ih := filter_split f r
    cases e : f a with
    | true => rw [List.filter_cons_of_pos e, List.filter_cons_of_neg (by rw [e]; decide), List.length_cons, List.length_cons]; omega
    | false => rw [List.filter_cons_of_neg (by rw [e]; decide), List.filter_cons_of_pos (by rw [e]; rfl), List.length_cons, List.length_cons]; omega
theorem cpl_half {n : Nat} {ps : List Nat} (h : IsPair n ps) : 2 * (cpl ps).length = n := by
  have e1 : (cpl ps).length = ((List.range n).filter fun x => decide (x < ps.getD x 0)).length := by
    unfold cpl cplN; rw [List.length_map, h.len]
  have inj : ∀ x y, x < n → y < n → ps.getD x 0 = ps.getD y 0 → x = y := fun x y hx hy e => by
    obtain ⟨u, a1, _, _, a4⟩ := h.par x hx
    obtain ⟨v, b1, _, _, b4⟩ := h.par y hy
    rw [getD_of a1, getD_of b1] at e
    subst e
    exact Option.some.inj (a4.symm.trans b4)
  have nd0 : (List.range n).Nodup := List.nodup_range
  have p1 : (((List.range n).filter fun x => decide (x < ps.getD x 0)).map fun x => ps.getD x 0).Perm ((List.range n).filter fun x => !decide (x < ps.getD x 0)) := by
    refine (List.perm_ext_iff_of_nodup ?_ (nd0.filter _)).mpr fun z => ?_
    · refine List.Pairwise.map _ (fun a b hab => hab) ?_
      refine List.Pairwise.imp_of_mem (fun {a b} ha hb hab => ?_) (nd0.filter fun x => decide (x < ps.getD x 0))
      exact fun e => hab (inj a b (List.mem_range.mp (List.mem_filter.mp ha).1) (List.mem_range.mp (List.mem_filter.mp hb).1) e)
    · constructor
      · intro hz
        obtain ⟨x, hx, rfl⟩ := List.mem_map.mp hz
        obtain ⟨h1, h2⟩ := List.mem_filter.mp hx
        obtain ⟨y, a1, a2, a3, a4⟩ := h.par x (List.mem_range.mp h1)
        rw [getD_of a1] at h2 ⊢
        have h3 := of_decide_eq_true h2
        refine List.mem_filter.mpr ⟨List.mem_range.mpr a2, ?_⟩
        rw [getD_of a4, decide_eq_false (by omega)]; rfl
      · intro hz
        obtain ⟨h1, h2⟩ := List.mem_filter.mp hz
        obtain ⟨y, a1, a2, a3, a4⟩ := h.par z (List.mem_range.mp h1)
        rw [getD_of a1] at h2
        have h3 : ¬ z < y := by simpa using h2
        refine List.mem_map.mpr ⟨y, List.mem_filter.mpr ⟨List.mem_range.mpr a2, ?_⟩, getD_of a4⟩
        rw [getD_of a4]
        exact decide_eq_true (by omega)
  have e2 := p1.length_eq
  rw [List.length_map] at e2
  have e3 := filter_split (fun x => decide (x < ps.getD x 0)) (List.range n)
  rw [List.length_range] at e3
  omega
/-- what pairs must be so that they make the pairing ps -/
structure Makes (qs : List (Nat × Nat)) (ps : List Nat) : Prop where
  half : 2 * qs.length = ps.length
  ok : ∀ p ∈ qs, ps[p.1]? = some p.2 ∧ ps[p.2]? = some p.1
  all : ∀ z, z < ps.length → ∃ p ∈ qs, p.1 = z ∨ p.2 = z
theorem makes_cpl {n : Nat} {ps : List Nat} (h : IsPair n ps) : Makes (cpl ps) ps where
  half := by rw [cpl_half h, h.len]
  ok p hp := by
    obtain ⟨e, _⟩ := (mem_cpl h).mp hp
    exact ⟨e, (h.back e).1⟩
  all z hz := cpl_cover h (by rw [← h.len]; exact hz)
/-- the pairs of qs in any order, turned or not -/
theorem Makes.turned {qs rs : List (Nat × Nat)} {ps : List Nat} (h : Makes qs ps) (hl : rs.length = qs.length) (h1 : ∀ p ∈ rs, p ∈ qs ∨ (p.2, p.1) ∈ qs) (h2 : ∀ p ∈ qs, p ∈ rs ∨ (p.2, p.1) ∈ rs) : Makes rs ps where
  half := by rw [hl]; exact h.half
  ok p hp := by
    rcases h1 p hp with z | z
    · exact h.ok p z
    · obtain ⟨a, b⟩ := h.ok _ z
      exact ⟨b, a⟩
  all z hz := by
    obtain ⟨p, hp, e⟩ := h.all z hz
    rcases h2 p hp with q | q
    · exact ⟨p, q, e⟩
    · exact ⟨_, q, e.symm⟩
def CInv (ps : List Nat) (qs : List (Nat × Nat)) (fs : List Nat) (i : Nat) : Prop := fs.length = ps.length ∧ ∀ j, j < i → ∀ p, qs[j]? = some p → fs[p.1]? = ps[p.1]? ∧ fs[p.2]? = ps[p.2]?
theorem set_keeps {ps fs : List Nat} {x y z : Nat} (hy : ps[x]? = some y) (hx : x < fs.length) (h : fs[z]? = ps[z]?) : (fs.set x y)[z]? = ps[z]? := by
  by_cases e : x = z
  · subst e
    rw [List.getElem?_set_self hx, hy]
  · rw [List.getElem?_set_ne e]; exact h
theorem CInv.step {ps fs : List Nat} {qs : List (Nat × Nat)} {i : Nat} {p : Nat × Nat} (m : Makes qs ps) (h : CInv ps qs fs i) (hp : qs[i]? = some p) : CInv ps qs ((fs.set p.1 p.2).set p.2 p.1) (i + 1) := by
  obtain ⟨hl, hj⟩ := h
  obtain ⟨o1, o2⟩ := m.ok p (List.mem_of_getElem? hp)
  have l1 : p.1 < fs.length := by rw [hl]; exact get_lt o1
  have l2 : p.2 < (fs.set p.1 p.2).length := by rw [List.length_set, hl]; exact get_lt o2
  refine ⟨by rw [List.length_set, List.length_set, hl], fun j hj2 r hr => ?_⟩
  by_cases e : j = i
  · subst e
    cases Option.some.inj (hp.symm.trans hr)
    refine ⟨set_keeps o2 l2 ?_, ?_⟩
    · rw [List.getElem?_set_self l1, o1]
    · rw [List.getElem?_set_self l2, o2]
  · obtain ⟨a, b⟩ := hj j (by omega) r hr
    exact ⟨set_keeps o2 l2 (set_keeps o1 l1 a), set_keeps o2 l2 (set_keeps o1 l1 b)⟩
theorem CInv.done {ps fs : List Nat} {qs : List (Nat × Nat)} (m : Makes qs ps) (h : CInv ps qs fs qs.length) : fs = ps := by
  refine List.ext_getElem? fun z => ?_
  by_cases hz : z < ps.length
  · obtain ⟨p, hp, e⟩ := m.all z hz
    obtain ⟨i, hi, ei⟩ := List.mem_iff_getElem.mp hp
    obtain ⟨a, b⟩ := h.2 i hi p (by rw [List.getElem?_eq_getElem hi, ei])
    rcases e with e | e
    · rw [← e]; exact a
    · rw [← e]; exact b
  · rw [List.getElem?_eq_none (by rw [h.1]; omega), List.getElem?_eq_none (by omega)]
end Pc
namespace Pc
open PySem PySem.Spec PyProof.Rows L2 RZ
section
variable {K : PySem.W.Frag}
/-- the values us are the pairs qs, each a tuple or a list -/
def Items (K : PySem.W.Frag) (H : Hp) (us : List V) (qs : List (Nat × Nat)) : Prop := us.length = qs.length ∧ ∀ (i : Nat) (v : V), us[i]? = some v → ∃ (c : Addr) (p : Nat × Nat), v = .ref c ∧ qs[i]? = some p ∧ Sq K H c [.int p.1, .int p.2]
theorem Items.same {H H' : Hp} {us : List V} {qs : List (Nat × Nat)} (h : Items K H us qs) (e : Same H H') : Items K H' us qs := ⟨h.1, fun i v hv => by
  obtain ⟨c, p, h1, h2, h3⟩ := h.2 i v hv
  exact ⟨c, p, h1, h2, h3.same e⟩⟩
theorem items_of {H : Hp} {as : List Addr} {qs : List (Nat × Nat)} (h : Prs H as qs) : Items K H (as.map V.ref) qs := ⟨by rw [List.length_map]; exact h.length, fun i v hv => by
  rw [List.getElem?_map] at hv
  cases e : as[i]? with
  | none => rw [e] at hv; cases hv
  | some c =>
    rw [e] at hv
    obtain ⟨p, h1, h2⟩ := prs_get h e
    exact ⟨c, p, (Option.some.inj hv).symm, h1, .inr (.inl (.inl h2))⟩⟩
end
end Pc
namespace Pc
open PySem PySem.Spec PyProof.Rows L2 RZ
theorem paired_perm {α β : Type} {R : α → β → Prop} {as bs : List α} (h : as.Perm bs) : ∀ ps : List β, Paired R as ps → ∃ qs : List β, qs.Perm ps ∧ Paired R bs qs := by
  induction h with
  | nil => exact fun ps h => ⟨ps, List.Perm.refl _, h⟩
  | cons x _ ih =>
    intro ps h
    cases h with
    | cons r t =>
      obtain ⟨qs, h1, h2⟩ := ih _ t
      exact ⟨_ :: qs, h1.cons _, .cons r h2⟩
  | swap x y l =>
    intro ps h
    cases h with
    | cons r t =>
      cases t with
      | cons r2 t2 => exact ⟨_, List.Perm.swap _ _ _, .cons r2 (.cons r t2)⟩
  | trans _ _ ih1 ih2 =>
    intro ps h
    obtain ⟨qs, h1, h2⟩ := ih1 ps h
    obtain ⟨rs, h3, h4⟩ := ih2 qs h2
    exact ⟨rs, h3.trans h1, h4⟩
/-- the same pairs, some turned -/
def Turned (qs rs : List (Nat × Nat)) : Prop := rs.length = qs.length ∧ ∀ (j : Nat) (p q : Nat × Nat), qs[j]? = some p → rs[j]? = some q → q = p ∨ q = (p.2, p.1)
theorem Turned.mem1 {qs rs : List (Nat × Nat)} (h : Turned qs rs) : ∀ p ∈ rs, p ∈ qs ∨ (p.2, p.1) ∈ qs := fun p hp => by
  obtain ⟨j, hj, e⟩ := List.mem_iff_getElem.mp hp
  obtain ⟨q, hq⟩ := get_some (l := qs) (i := j) (by rw [← h.1]; exact hj)
  rcases h.2 j q p hq (by rw [List.getElem?_eq_getElem hj, e]) with z | z
  · exact .inl (z ▸ List.mem_of_getElem? hq)
  · refine .inr ?_
    rw [z]
    exact List.mem_of_getElem? hq
theorem Turned.mem2 {qs rs : List (Nat × Nat)} (h : Turned qs rs) : ∀ p ∈ qs, p ∈ rs ∨ (p.2, p.1) ∈ rs := fun p hp => by
  obtain ⟨j, hj, e⟩ := List.mem_iff_getElem.mp hp
  obtain ⟨q, hq⟩ := get_some (l := rs) (i := j) (by rw [h.1]; exact hj)
  rcases h.2 j p q (by rw [List.getElem?_eq_getElem hj, e]) hq with z | z
  · exact .inl (z ▸ List.mem_of_getElem? hq)
  · exact .inr (z ▸ List.mem_of_getElem? hq)
theorem Makes.perm {qs rs : List (Nat × Nat)} {ps : List Nat} (h : Makes qs ps) (e : rs.Perm qs) : Makes rs ps := h.turned e.length_eq (fun p hp => .inl (e.mem_iff.mp hp)) (fun p hp => .inl (e.mem_iff.mpr hp))
theorem IsPair.lt {n : Nat} {ps : List Nat} (h : IsPair n ps) : ∀ i ∈ ps, i < n := fun i hi => by
  obtain ⟨x, hx, e⟩ := List.mem_iff_getElem.mp hi
  obtain ⟨y, e1, e2, _⟩ := h.par x (by rw [← h.len]; exact hx)
  rw [List.getElem?_eq_getElem hx, e] at e1
  cases Option.some.inj e1
  exact e2
theorem Makes.lt {qs : List (Nat × Nat)} {ps : List Nat} (h : Makes qs ps) : ∀ p ∈ qs, p.1 < ps.length ∧ p.2 < ps.length := fun p hp => ⟨get_lt (h.ok p hp).1, get_lt (h.ok p hp).2⟩
theorem iteN {A B : Prop} (h : B) : if (!true) = true then A else B := by
  rw [if_neg (by decide)]
  exact h
end Pc
namespace Pc
open PySem PySem.Spec PyProof.Rows L2 RZ
section
variable {P : Program} {w : World} {K : PySem.W.Frag} {mg : Str → Option Value} {base : Heap}
/-! ### one of some -/
def spOf (K : PySem.W.Frag) : Sp := fun vs H Q _ => ∃ (b a : Addr) (n : Nat) (xs : List V), vs = [.ref b, .ref a] ∧ Box (n + 1) H b ∧ a ≠ b ∧ H a = some (.lst xs) ∧ 0 < xs.length ∧ xs.length ≤ 1000 ∧
  ∀ (H' : Hp) (i : Nat) (v : V), xs[i]? = some v → Keep b H H' → Box n H' b → Q v H'
theorem ok_of (T : Env K mg) : FnOk P w K mg base CX0 2 T.f_of T.d_of ["_law_box_here", "_law_some"] (spOf K) := by
  have GT : FnOk P w K mg base CX0 1 T.f_take T.d_take ["_law_box_here", "_law_span"] spTake := ok_take T
  refine T.F_of.ok sc_of (fun vs H Q E h => ?_) (fun cdv A outer s H vs Q E hr h => ?_)
  · obtain ⟨b, a, n, xs, rfl, _⟩ := h
    rfl
  · obtain ⟨b, a, n, xs, rfl, hB, hab, ha, h0, hl, q⟩ := h
    refine ⟨_, pss_one (ps_ret (pe_ix ix_list (pv 1) (pe_call GT hr (by rfl) T.g_take T.F_take.kp T.b_take .nil pass0 (pa_cons (pv 0) (pa_cons (pe_callB call_len_seq (by rfl) T.n_len PySem.boot_len (pa_cons (pv 1) pa_nil)) pa_nil))) (fun _ _ => rfl))), ?_⟩
    refine ⟨.ref a, rfl, .ref b, rfl, .ref a, rfl, a, xs, rfl, .inl (.inl (.inl ha)), b, n, xs.length, rfl, hB, by omega, by omega, fun r H' r0 r1 hB' k => ?_⟩
    obtain ⟨v, hv⟩ := get_some (l := xs) (i := r.toNat) (by omega)
    refine ⟨a, xs, r, v, rfl, rfl, .inl (.inl (k _ _ hab ha)), ?_, q H' r.toNat v hv k hB'⟩
    have := atI_nat hv
    rw [show ((r.toNat : Nat) : Int) = r by omega] at this
    exact this
end
end Pc
namespace Pc
open PySem PySem.Spec PyProof.Rows L2 RZ
/-! ### the heap without some objects -/
open Classical in
noncomputable def off (S : Addr → Prop) (H : Hp) : Hp := fun a => if S a then none else H a
theorem off_le {S : Addr → Prop} {H : Hp} : Same (off S H) H := fun a o h => by
  unfold off at h
  by_cases e : S a
  · rw [if_pos e] at h; cases h
  · rw [if_neg e] at h; exact h
theorem off_keep {S : Addr → Prop} {b : Addr} {H H' : Hp} (hb : S b) (k : Keep b H H') : Same (off S H) (off S H') := fun a o h => by
  unfold off at h ⊢
  by_cases e : S a
  · rw [if_pos e] at h; cases h
  · rw [if_neg e] at h ⊢; exact k a o (fun z => e (z ▸ hb)) h
theorem off_same {S : Addr → Prop} {H H' : Hp} (s : Same H H') : Same (off S H) (off S H') := fun a o h => by
  unfold off at h ⊢
  by_cases e : S a
  · rw [if_pos e] at h; cases h
  · rw [if_neg e] at h ⊢; exact s a o h
theorem off_get {S : Addr → Prop} {a : Addr} {H : Hp} {o : HO} (h : ¬ S a) (e : H a = some o) : off S H a = some o := by
  unfold off; rw [if_neg h]; exact e
theorem off_more {S S' : Addr → Prop} {H : Hp} (h : ∀ a, S a → S' a) : Same (off S' H) (off S H) := fun a o e => by
  unfold off at e ⊢
  by_cases z : S' a
  · rw [if_pos z] at e; cases e
  · rw [if_neg z] at e; rw [if_neg (fun y => z (h a y))]; exact e
/-- all of S is there -/
def Has (S : Addr → Prop) (H : Hp) : Prop := ∀ a, S a → ∃ o, H a = some o
theorem Has.same {S : Addr → Prop} {H H' : Hp} (h : Has S H) (s : Same H H') : Has S H' := fun a ha => let ⟨o, e⟩ := h a ha; ⟨o, s _ _ e⟩
theorem Has.new {S : Addr → Prop} {H : Hp} {p : Addr} (h : Has S H) (np : H p = none) : ¬ S p := fun z => by
  obtain ⟨o, e⟩ := h p z
  rw [np] at e; cases e
/-! ### data that is written out -/
def tD (K : PySem.W.Frag) (S : Addr → Prop) (d : PyData) : TE := fun _ H Q => Has S H ∧ ∀ v H', Same H H' → Dp K (off S H') v d → Q v H'
def tDs (K : PySem.W.Frag) (S : Addr → Prop) (ds : List PyData) : TA := fun _ H Q => Has S H ∧ ∀ vs H', Same H H' → DpAll K (off S H') vs ds → Q vs H'
section
variable {X : Cx} {S : Addr → Prop}
theorem pd_of {e : Expr} {t : TE} {v : V} {d : PyData} (h : PE X e t) (ht : ∀ σ H (Q : VK), Q v H → t σ H Q) (hd : ∀ H, Dp X.K H v d) : PE X e (tD X.K S d) := ⟨fun pins s σ H Q I q => h.run pins s σ H Q I (ht σ H Q (q.2 _ _ (fun _ _ z => z) (hd _)))⟩
theorem pd_int {i : Int} {j pos} : PE X (.Constant (.int i) j pos) (tD X.K S (.int i)) := pd_of pe_int (fun _ _ _ q => q) fun _ => .int i
theorem pd_bl {i : Bool} {j pos} : PE X (.Constant (.bool i) j pos) (tD X.K S (.bool i)) := pd_of pe_bl (fun _ _ _ q => q) fun _ => .bl i
theorem pd_non {j pos} : PE X (.Constant .none j pos) (tD X.K S .none) := pd_of pe_non (fun _ _ _ q => q) fun _ => .non
theorem pd_str {x : Str} {j pos} : PE X (.Constant (.str x) j pos) (tD X.K S (.str x)) := pd_of pe_str (fun _ _ _ q => q) fun _ => .str x
theorem pd_nil : PA X [] (tDs X.K S []) := ⟨fun pos pins s σ H Q I h => pa_nil.run pos pins s σ H Q I (h.2 _ _ (fun _ _ z => z) .nil)⟩
theorem pd_cons {e : Expr} {es : List Expr} {d : PyData} {ds : List PyData} (ha : PE X e (tD X.K S d)) (hr : PA X es (tDs X.K S ds)) (hs : starEach (e :: es) X.env = (false, eval e X.env) :: starEach es X.env := by rfl) : PA X (e :: es) (tDs X.K S (d :: ds)) :=
  ⟨fun pos pins s σ H Q I h => (pa_cons ha hr hs).run pos pins s σ H Q I ⟨h.1, fun v H1 s1 d1 => ⟨h.1.same s1, fun vs H2 s2 d2 => h.2 (v :: vs) H2 (s1.trans s2) (.cons (dp_same (off_same s2) d1) d2)⟩⟩⟩
theorem pd_tup {es : List Expr} {ds : List PyData} {x1} {pos : Pos} (h : PA X es (tDs X.K S ds)) (hl : ds.length ≤ 100000 := by decide) : PE X (.Tuple es x1 pos) (tD X.K S (.tuple ds)) :=
  ⟨fun pins s σ H Q I hq => (pe_tup h).run pins s σ H Q I ⟨hq.1, fun vs H1 s1 d1 => ⟨by rw [dpa_len d1]; exact Nat.le_of_lt (line_big hl), fun p np => hq.2 _ _ (s1.trans (same_new np)) (.tup (.inl (.inl (off_get ((hq.1.same s1).new np) upd_same))) (dpa_same (off_same (same_new np)) d1))⟩⟩⟩
theorem pd_lst {es : List Expr} {ds : List PyData} {pos : Pos} (h : PA X es (tDs X.K S ds)) (hl : ds.length ≤ 100000 := by decide) : PE X (.List es pos) (tD X.K S (.list ds)) :=
  ⟨fun pins s σ H Q I hq => (pe_lst h).run pins s σ H Q I ⟨hq.1, fun vs H1 s1 d1 => ⟨by rw [dpa_len d1]; exact Nat.le_of_lt (line_big hl), fun p np => hq.2 _ _ (s1.trans (same_new np)) (.lst (.inl (.inl (off_get ((hq.1.same s1).new np) upd_same))) (dpa_same (off_same (same_new np)) d1))⟩⟩⟩
end
/-! ### the kinds -/
def tyN : PyData → String
  | .none => "NoneType"
  | .bool _ => "bool"
  | .int _ => "int"
  | .str _ => "str"
  | .list _ => "list"
  | .tuple _ => "tuple"
  | .dict _ => "dict"
theorem dp_ty {K : PySem.W.Frag} {H : Hp} : ∀ {v : V} {d : PyData}, Dp K H v d → TyX K H v (.type (tyN d))
  | _, _, .non => .base .non
  | _, _, .bl b => .base (.bl b)
  | _, _, .int i => .base (.int i)
  | _, _, .str x => .base (.str x)
  | _, _, .lst h _ => ty_lst h
  | _, _, .tup h _ => ty_tup h
def isI : PyData → Bool
  | .int _ | .bool _ => true
  | _ => false
def isB : PyData → Bool
  | .bool _ => true
  | _ => false
def isT : PyData → Bool
  | .tuple _ => true
  | _ => false
def isL : PyData → Bool
  | .list _ => true
  | _ => false
theorem k_int {K : PySem.W.Frag} {H : Hp} {v : V} {d : PyData} (h : Dp K H v d) : PySem.W.kitOne K (.type (tyN d)) (.type "int") = some (isI d) := by
  cases h
  · exact one_none_int
  · exact one_bool_int
  · exact one_int_int
  · exact one_str_int
  · exact one_list_int
  · exact one_tuple_int
theorem k_bool {K : PySem.W.Frag} {H : Hp} {v : V} {d : PyData} (h : Dp K H v d) : PySem.W.kitOne K (.type (tyN d)) (.type "bool") = some (isB d) := by
  cases h
  · exact one_none_bool
  · exact one_bool_bool
  · exact one_int_bool
  · exact one_str_bool
  · exact one_list_bool
  · exact one_tuple_bool
theorem k_tuple {K : PySem.W.Frag} {H : Hp} {v : V} {d : PyData} (h : Dp K H v d) : PySem.W.kitOne K (.type (tyN d)) (.type "tuple") = some (isT d) := by
  cases h
  · exact one_none_tuple
  · exact one_bool_tuple
  · exact one_int_tuple
  · exact one_str_tuple
  · exact one_list_tuple
  · exact one_tuple_tuple
theorem k_list {K : PySem.W.Frag} {H : Hp} {v : V} {d : PyData} (h : Dp K H v d) : PySem.W.kitOne K (.type (tyN d)) (.type "list") = some (isL d) := by
  cases h
  · exact one_none_list
  · exact one_bool_list
  · exact one_int_list
  · exact one_str_list
  · exact one_list_list
  · exact one_tuple_list
theorem k_lt {K : PySem.W.Frag} {H : Hp} {v : V} {d : PyData} (h : Dp K H v d) : PySem.W.kitAny K (.type (tyN d)) [.type "list", .type "tuple"] = some (isL d || isT d) := by
  cases h
  · exact any_lt_none
  · exact any_lt_bool
  · exact any_lt_int
  · exact any_lt_str
  · exact any_lt_list
  · exact any_lt_tuple
/-! ### joined in pairs -/
def belowB (n : Nat) : PyData → Bool
  | .int i => decide (0 ≤ i) && decide (i < (n : Int))
  | _ => false
def natOf : PyData → Nat
  | .int i => i.toNat
  | _ => 0
def pairB (fs : List Nat) (i : Nat) : Bool := !decide (fs.getD i 0 = i) && decide (fs.getD (fs.getD i 0) 0 = i)
def joinB (ds : List PyData) : Bool := ds.all (belowB ds.length) && (List.range ds.length).all (pairB (ds.map natOf))
theorem below_nats {K : PySem.W.Frag} {H : Hp} {n : Nat} : ∀ {vs : List V} {ds : List PyData}, DpAll K H vs ds → ds.all (belowB n) = true → vs = nv (ds.map natOf) ∧ ∀ x ∈ ds.map natOf, x < n
  | _, _, .nil, _ => ⟨rfl, fun x hx => by simp at hx⟩
  | _, _, .cons (d := d) (ds := ds) h r, e => by
    rw [List.all_cons, Bool.and_eq_true] at e
    obtain ⟨e1, e2⟩ := e
    obtain ⟨g1, g2⟩ := below_nats r e2
    cases h with
    | int i =>
      unfold belowB at e1
      rw [Bool.and_eq_true, decide_eq_true_iff, decide_eq_true_iff] at e1
      refine ⟨?_, fun x hx => ?_⟩
      · rw [g1]
        show V.int i :: nv (ds.map natOf) = V.int ((i.toNat : Nat) : Int) :: nv (ds.map natOf)
        rw [show ((i.toNat : Nat) : Int) = i by omega]
      · rcases List.mem_cons.mp (show x ∈ i.toNat :: ds.map natOf from hx) with z | z
        · omega
        · exact g2 x z
    | non => cases e1
    | bl => cases e1
    | str => cases e1
    | lst => cases e1
    | tup => cases e1
def joinD : PyData → Bool
  | .tuple ds => joinB ds
  | _ => false
def isPairB : PyData → Bool
  | .tuple ds => joinB ds && decide (0 < ds.length)
  | _ => false
theorem all_take_bl {α : Type} (f : α → Bool) {l : List α} {i : Nat} {x : α} (h : l[i]? = some x) : ((l.take (i + 1)).map f).map V.bl = ((l.take i).map f).map V.bl ++ [V.bl (f x)] := by
  rw [List.take_add_one, h, List.map_append, List.map_append]
  rfl
end Pc
namespace Pc
open PySem PySem.Spec PyProof.Rows L2 RZ
/-- a comprehension over a list or a tuple that stays as it is -/
theorem lc_seq' {K : PySem.W.Frag} {a : Addr} {xs : List V} {g : TG} {tt : TT} {te : TE} {vs : List Nat} {σ : L2.St} {H0 H1 : Hp} {Qd : Addr → Hp → Prop} (hS : Sq K H0 a xs) (s0 : Same H0 H1)
    (step : ∀ D, H1 D = none → ∃ Pv : Nat → Hp → Prop, Pv 0 (upd H1 D (.lst [])) ∧ (∀ i H', Pv i H' → Same H0 H') ∧ (∀ i x H', xs[i]? = some x → Pv i H' → g x (wipe σ vs) H' fun σ2 H2 => wipe σ2 vs = wipe σ vs ∧ tt σ2 H2 fun b H3 =>
      if b = true then te σ2 H3 fun y H4 => ∃ acc, H4 D = some (.lst acc) ∧ acc.length < sizeLine ∧ Pv (i + 1) (upd H4 D (.lst (acc ++ [y]))) else Pv (i + 1) H3) ∧ ∀ H', Pv xs.length H' → Qd D H') :
    ((∃ ys, SqL K H1 a ys) ∧ ∀ D, H1 D = none → ∃ W : Nat → Nat → Hp → Prop, (∃ m, W 0 m (upd H1 D (.lst []))) ∧ ∀ i m H, W i m H → ((Itl K a).stop i H ∧ Qd D H) ∨ ((Itl K a).go i H ∧ ∃ Nx : Hp → Prop, (∀ H', Nx H' → ∃ m', m' < m ∧ W (i + 1) m' H') ∧ ∀ x H', (Itl K a).yld i H x H' → g x (wipe σ vs) H' fun σ2 H2 => wipe σ2 vs = wipe σ vs ∧ tt σ2 H2 fun b H3 =>
        if b = true then te σ2 H3 fun y H4 => ∃ acc, H4 D = some (.lst acc) ∧ acc.length < sizeLine ∧ Nx (upd H4 D (.lst (acc ++ [y]))) else Nx H3)) ∨
    ((∃ ys, SqT K H1 a ys) ∧ ∀ D, H1 D = none → ∃ W : Nat → Nat → Hp → Prop, (∃ m, W 0 m (upd H1 D (.lst []))) ∧ ∀ i m H, W i m H → ((Itt K a).stop i H ∧ Qd D H) ∨ ((Itt K a).go i H ∧ ∃ Nx : Hp → Prop, (∀ H', Nx H' → ∃ m', m' < m ∧ W (i + 1) m' H') ∧ ∀ x H', (Itt K a).yld i H x H' → g x (wipe σ vs) H' fun σ2 H2 => wipe σ2 vs = wipe σ vs ∧ tt σ2 H2 fun b H3 =>
        if b = true then te σ2 H3 fun y H4 => ∃ acc, H4 D = some (.lst acc) ∧ acc.length < sizeLine ∧ Nx (upd H4 D (.lst (acc ++ [y]))) else Nx H3)) := by
  rcases hS with h | h
  · refine .inl ⟨⟨_, s0.seq h⟩, fun D nD => ?_⟩
    obtain ⟨Pv, h0, hst, hs, hd⟩ := step D nD
    exact lc_list Pv h0 (fun i H' _ p => (hst i H' p).seq h) hs hd
  · refine .inr ⟨⟨_, same_tup s0 h⟩, fun D nD => ?_⟩
    obtain ⟨Pv, h0, hst, hs, hd⟩ := step D nD
    exact lc_tup Pv h0 (fun i H' _ p => same_tup (hst i H' p) h) hs hd
end Pc
namespace Pc
open PySem PySem.Spec PyProof.Rows L2 RZ
section
variable {P : Program} {w : World} {K : PySem.W.Frag} {mg : Str → Option Value} {base : Heap}
/-! ### is it joined in pairs? whatever it is -/
def spBelowD (K : PySem.W.Frag) : Sp := fun vs H Q _ => ∃ (v : V) (d : PyData) (n : Nat), vs = [v, .int n] ∧ Dp K H v d ∧ Q (.bl (belowB n d)) H
theorem ok_p_belowD (T : Env K mg) : FnOk P w K mg base CX0 1 T.f_p_is_integer_below T.d_p_is_integer_below ["value", "limit"] (spBelowD K) := by
  refine T.F_p_is_integer_below.ok sc_p_is_integer_below (fun vs H Q E h => ?_) (fun cdv A outer s H vs Q E hr h => ?_)
  · obtain ⟨v, d, n, rfl, _⟩ := h
    rfl
  · obtain ⟨v, d, n, rfl, hd, q⟩ := h
    refine ⟨_, pss_cons (ps_if (PW.pt (pw_or (pt_not (pt_val (pe_callB call_isi (by rfl) T.n_isinstance (by decide +kernel) (pa_cons (pv 0) (pa_cons (pe_bltn (v := .ty "int") (by rfl) T.n_int (by decide +kernel) rfl) pa_nil)))))
        (pw_or1 (pt_val (pe_callB call_isi (by rfl) T.n_isinstance (by decide +kernel) (pa_cons (pv 0) (pa_cons (pe_bltn (v := .ty "bool") (by rfl) T.n_bool (by decide +kernel) rfl) pa_nil)))))))
        (pss_one (ps_ret pe_bl)) pss_nil) <|
      pss_one (ps_ret (pe_chain op_le op_lt pe_int (pv 0) (pv 1))), ?_⟩
    refine ⟨_, rfl, _, _, _, _, _, rfl, .ty _, dp_ty hd, k_int hd, _, rfl, ite2 (fun c => ?_) (fun c => ?_)⟩
    · have e : belowB n d = false := by cases hd <;> first | rfl | exact absurd (show false = true from c) Bool.false_ne_true
      rw [e] at q
      exact q
    · refine ⟨_, rfl, _, _, _, _, _, rfl, .ty _, dp_ty hd, k_bool hd, _, rfl, ite2 (fun c' => ?_) (fun c' => ?_)⟩
      · have e : belowB n d = false := by cases hd <;> first | rfl | exact absurd (show false = true from c') Bool.false_ne_true
        rw [e] at q
        exact q
      · cases hd with
        | int i =>
          refine ⟨_, rfl, _, _, rfl, rfl, _, rfl, ite2 (fun g => ⟨_, rfl, _, _, rfl, rfl, ?_⟩) (fun g => ?_)⟩
          · have e : belowB n (.int i) = decide (i < (n : Int)) := by show (decide (0 ≤ i) && decide (i < (n : Int))) = _; rw [show decide (0 ≤ i) = true from g]; rfl
            rw [e] at q; exact q
          · have e : belowB n (.int i) = false := by show (decide (0 ≤ i) && decide (i < (n : Int))) = _; rw [show decide (0 ≤ i) = false from Bool.eq_false_iff.mpr g]; rfl
            rw [e] at q; exact q
        | non => exact absurd rfl c
        | bl => exact absurd rfl c'
        | str => exact absurd rfl c
        | lst => exact absurd rfl c
        | tup => exact absurd rfl c
def spJoinsD (K : PySem.W.Frag) : Sp := fun vs H Q _ => ∃ (v : V) (d : PyData), vs = [v] ∧ Dp K H v d ∧ narrow d ∧ ∀ H', Same H H' → Q (.bl (joinD d)) H'
theorem nd_sel {xs : List V} {fs : List Nat} (h : xs = nv fs) {i : Nat} {z : Nat} (e : fs[i]? = some z) : atI xs (i : Int) = some (.int z) := by rw [h]; exact nv_at e
theorem ok_p_joinsD (T : Env K mg) : FnOk P w K mg base CX0 2 T.f_p_joins_in_pairs T.d_p_joins_in_pairs ["value"] (spJoinsD K) := by
  have G0 : FnOk P w K mg base CX0 1 T.f_p_is_integer_below T.d_p_is_integer_below ["value", "limit"] (spBelowD K) := ok_p_belowD T
  refine T.F_p_joins_in_pairs.ok sc_p_joins_in_pairs (fun vs H Q E h => ?_) (fun cdv A outer s H vs Q E hr h => ?_)
  · obtain ⟨v, d, rfl, _⟩ := h
    rfl
  · obtain ⟨v, d, rfl, hd, hw, q⟩ := h
    refine ⟨_, pss_cons (ps_if (pt_not (pt_val (pe_callB call_isi (by rfl) T.n_isinstance (by decide +kernel) (pa_cons (pv 0) (pa_cons (pe_bltn (v := .ty "tuple") (by rfl) T.n_tuple (by decide +kernel) rfl) pa_nil))))) (pss_one (ps_ret pe_bl)) pss_nil) <|
      pss_cons (ps_if (pt_not (pt_val (pe_callB (cr_all rfl) (by rfl) T.n_all (by decide +kernel) (pa_cons
        (pe_lc (own := [("item", 3)]) (g := gName 3) (tt := tYes) (te := tCall (spBelowD K) [] E0 (tCons (tVar 3) (tCons (tCB (fun xs H Q => ∃ p ys, xs = [V.ref p] ∧ (SqL K H p ys ∨ SqT K H p ys) ∧ Q (.int ys.length) H) (tCons (tVar 0) tNil)) tNil))) rfl sc_p_joins_in_pairs.nd (pi_seq (pv 0)) (blkOk_by (N := N_p_joins_in_pairs) (sc := defScope s_p_joins_in_pairs) (by decide +kernel))
          (fun _ _ _ _ _ => pg_name (i := 3) sc_p_joins_in_pairs.nd rfl (.inl rfl)) (fun _ _ _ _ _ => pts_nil)
          (fun _ _ _ _ _ => pe_call G0 hr (by rfl) T.g_p_is_integer_below T.F_p_is_integer_below.kp T.b_p_is_integer_below .nil pass0 (pa_cons (pv 3) (pa_cons (pe_callB call_len_seq (by rfl) T.n_len PySem.boot_len (pa_cons (pv 0) pa_nil)) pa_nil)))) pa_nil)))) (pss_one (ps_ret pe_bl)) pss_nil) <|
      pss_one (ps_ret (pe_callB (cr_all rfl) (by rfl) T.n_all (by decide +kernel) (pa_cons
        (pe_lc (own := [("at", 1), ("other", 2)]) (g := gTup K 2 (gCons (gName 1) (gCons (gName 2) gNil))) (tt := tYes) (te := tAndV (tOp rNe (tVar 2) (tVar 1)) (tOp rEq (tOp (rIxT K) (tVar 0) (tVar 2)) (tVar 1))) (by rfl) sc_p_joins_in_pairs.nd (pi_enumA (by rfl) T.n_enumerate (pa_cons (pv 0) pa_nil))
          (blkOk_by (N := N_p_joins_in_pairs) (sc := defScope s_p_joins_in_pairs) (by decide +kernel))
          (fun _ _ _ _ _ => pg_tup (by rfl) (pgs_cons (pg_name (i := 1) sc_p_joins_in_pairs.nd rfl (.inl rfl)) (pgs_cons (pg_name (i := 2) sc_p_joins_in_pairs.nd rfl (.inl rfl)) pgs_nil))) (fun _ _ _ _ _ => pts_nil)
          (fun _ _ _ _ _ => pe_and (pe_cmpR op_ne (pv 2) (pv 1) (nomark _)) (pe_one (pe_cmpR op_eq (pe_ix ix_tup (pv 0) (pv 2) (fun _ _ => rfl)) (pv 1) (nomark _))))) pa_nil))), ?_⟩
    refine ⟨_, rfl, _, _, _, _, _, rfl, .ty _, dp_ty hd, k_tuple hd, _, rfl, ite2 (fun c => ?_) (fun c => ?_)⟩
    · have e : joinD d = false := by cases hd <;> first | rfl | exact absurd (show false = true from c) Bool.false_ne_true
      rw [e] at q
      exact q H fun _ _ h => h
    · cases hd with
      | non => exact absurd rfl c
      | bl => exact absurd rfl c
      | int => exact absurd rfl c
      | str => exact absurd rfl c
      | lst => exact absurd rfl c
      | tup hS hA =>
      rename_i a xs ds
      have hlx := dpa_len hA
      have hw1 : ds.length ≤ 100000 := hw.1
      refine ⟨.ref a, rfl, a, rfl, lc_seq' (.inr hS) (fun _ _ h => h) fun D nD => ⟨fun i H' => Same H H' ∧ H' D = some (.lst (((ds.take i).map (belowB ds.length)).map V.bl)), ⟨same_new nD, upd_same⟩, fun i H' h => h.1, fun i x H' hx h => ?_, fun H' h => ?_⟩⟩
      · obtain ⟨sm, eD⟩ := h
        obtain ⟨d1, ed, hd1⟩ := dpa_get hA hx
        have hi := get_lt ed
        refine ⟨rfl, yes_if ⟨_, rfl, .ref a, rfl, a, _, rfl, .inr (same_tup sm hS), x, d1, xs.length, rfl, dp_same sm hd1, _, eD, ?_, fun c o hc => ?_, ?_⟩⟩
        · rw [List.length_map, List.length_map, List.length_take]; exact line_big (by omega)
        · rw [upd_ne (ne_of_none hc nD)]; exact sm _ _ hc
        · rw [upd_same, all_take_bl (belowB ds.length) ed, hlx]
      · obtain ⟨sm, eD⟩ := h
        rw [hlx, List.take_length] at eD
        refine ⟨D, ds.map (belowB ds.length), rfl, .inl (.inl eD), _, rfl, ?_⟩
        rw [List.all_map]
        refine ite2 (fun g => ?_) (fun g => ?_)
        · have e : joinB ds = false := by
            unfold joinB
            have g' : (!(ds.all (belowB ds.length))) = true := g
            have g2 : ds.all (belowB ds.length) = false := by
              cases hh : ds.all (belowB ds.length) with
              | true => rw [hh] at g'; exact absurd g' (by decide)
              | false => rfl
            rw [g2, Bool.false_and]
          have q' : Q (.bl (joinB ds)) H' := q H' sm
          rw [e] at q'
          exact q'
        · have g' : ds.all (belowB ds.length) = true := by
            have : ¬ (!(ds.all (belowB ds.length))) = true := g
            cases hh : ds.all (belowB ds.length) with
            | true => rfl
            | false => rw [hh] at this; exact absurd rfl this
          obtain ⟨exs, hfs⟩ := below_nats hA g'
          have hfl : (ds.map natOf).length = ds.length := List.length_map _
          have ej : joinB ds = (List.range ds.length).all (pairB (ds.map natOf)) := by unfold joinB; rw [g', Bool.true_and]
          generalize hfs' : ds.map natOf = fs at exs hfs hfl ej
          refine ⟨.ref a, rfl, a, _, rfl, .inr ⟨same_tup sm hS, fun D2 nD2 => ?_⟩⟩
          refine lc_it walk_enumT (fun i H2 => Same H' H2 ∧ H2 D2 = some (.lst ((((List.range ds.length).take i).map (pairB fs)).map V.bl))) ⟨same_new nD2, upd_same⟩ (fun i H2 _ h => same_tup (sm.trans h.1) hS) (fun i x H2 H3 hi h y => ?_) (fun H2 h => ?_)
          · obtain ⟨s2, eD2⟩ := h
            obtain ⟨tp, v1, v2, rfl, nt, rfl, g1, g2⟩ := y
            have ev1 : v1 = .int (i : Nat) := (Option.some.inj g1).symm
            rw [exs] at g2
            obtain ⟨z, ez, ev2⟩ := nv_get' g2
            subst ev1 ev2
            have hi' : i < ds.length := by rw [← hlx]; exact hi
            have hz : z < ds.length := hfs z (List.mem_of_getElem? ez)
            obtain ⟨y, ey⟩ := get_some (l := fs) (i := z) (by omega)
            have er : (List.range ds.length)[i]? = some i := List.getElem?_range hi'
            have s3 : Same H2 _ := same_new (o := .tup [.int (i : Nat), .int z]) nt
            have sm3 := (sm.trans s2).trans s3
            have lenb : ((((List.range ds.length).take i).map (pairB fs)).map V.bl).length < sizeLine := by
              rw [List.length_map, List.length_map, List.length_take, List.length_range]; exact line_big (by omega)
            refine ⟨tp, _, rfl, .inl (.inl upd_same), rfl, _, _, rfl, _, _, rfl, rfl, rfl, yes_if ⟨_, rfl, _, rfl, rfl, _, rfl, ite2 (fun g3 => ?_) (fun g3 => ?_)⟩⟩
            · have n3 : z ≠ i := fun e => by
                have g4 : (!decide (V.int (z : Int) = V.int (i : Nat))) = true := g3
                rw [e, decide_eq_true rfl] at g4; exact absurd g4 (by decide)
              refine ⟨.ref a, rfl, _, rfl, a, _, _, _, rfl, rfl, same_tup sm3 hS, nd_sel exs ey, _, rfl, rfl, _, s3 _ _ eD2, lenb, fun c o hc => ?_, ?_⟩
              · rw [upd_ne (ne_of_none hc nD2)]; exact s3 _ _ (s2 _ _ hc)
              · rw [upd_same, all_take_bl (pairB fs) er]
                have e5 : pairB fs i = decide (V.int (y : Int) = V.int (i : Nat)) := by
                  unfold pairB
                  rw [getD_of ez, getD_of ey, decide_eq_false n3, Bool.not_false, Bool.true_and]
                  by_cases w : y = i
                  · rw [w, decide_eq_true rfl, decide_eq_true rfl]
                  · rw [decide_eq_false w, decide_eq_false (fun e => w (by have := V.int.inj e; omega))]
                rw [e5]
            · have n3 : z = i := by
                by_cases e : z = i
                · exact e
                · exact absurd (by rw [decide_eq_false (fun e' => e (by have := V.int.inj e'; omega))]; rfl) g3
              refine ⟨_, s3 _ _ eD2, lenb, fun c o hc => ?_, ?_⟩
              · rw [upd_ne (ne_of_none hc nD2)]; exact s3 _ _ (s2 _ _ hc)
              · rw [upd_same, all_take_bl (pairB fs) er]
                have e5 : pairB fs i = false := by unfold pairB; rw [getD_of ez, decide_eq_true n3]; rfl
                rw [e5]
          · obtain ⟨s2, eD2⟩ := h
            rw [show xs.length = (List.range ds.length).length by rw [List.length_range, hlx], List.take_length] at eD2
            refine ⟨D2, (List.range ds.length).map (pairB fs), rfl, .inl (.inl eD2), ?_⟩
            rw [List.all_map]
            have q' : Q (.bl (joinB ds)) H2 := q H2 (sm.trans s2)
            rw [ej] at q'
            exact q'
end
end Pc
namespace Pc
open PySem PySem.Spec PyProof.Rows L2 RZ
section
variable {P : Program} {w : World} {K : PySem.W.Frag} {mg : Str → Option Value} {base : Heap}
def spIsPairing (K : PySem.W.Frag) : Sp := fun vs H Q _ => ∃ (v : V) (d : PyData), vs = [v] ∧ Dp K H v d ∧ narrow d ∧ ∀ H', Same H H' → Q (.bl (isPairB d)) H'
theorem ok_p_is_pairing (T : Env K mg) : FnOk P w K mg base CX0 3 T.f_p_is_pairing T.d_p_is_pairing ["value"] (spIsPairing K) := by
  have G0 : FnOk P w K mg base CX0 2 T.f_p_joins_in_pairs T.d_p_joins_in_pairs ["value"] (spJoinsD K) := ok_p_joinsD T
  refine T.F_p_is_pairing.ok sc_p_is_pairing (fun vs H Q E h => ?_) (fun cdv A outer s H vs Q E hr h => ?_)
  · obtain ⟨v, d, rfl, _⟩ := h
    rfl
  · obtain ⟨v, d, rfl, hd, hw, q⟩ := h
    refine ⟨_, pss_one (ps_ret (pe_and (pe_call G0 hr (by rfl) T.g_p_joins_in_pairs T.F_p_joins_in_pairs.kp T.b_p_joins_in_pairs .nil pass0 (pa_cons (pv 0) pa_nil))
      (pe_one (pe_cmpR op_gt (pe_callB call_len_seq (by rfl) T.n_len PySem.boot_len (pa_cons (pv 0) pa_nil)) pe_int (nomark _))))), ?_⟩
    refine ⟨v, rfl, v, d, rfl, hd, hw, fun H' s1 => ⟨_, rfl, ite2 (fun c => ?_) (fun c => ?_)⟩⟩
    · cases hd with
      | tup hS hA =>
        rename_i a xs ds
        refine ⟨_, rfl, a, _, rfl, .inr (same_tup s1 hS), _, _, rfl, rfl, ?_⟩
        have e : isPairB (.tuple ds) = decide (0 < ds.length) := by
          show (joinB ds && decide (0 < ds.length)) = _
          rw [show joinB ds = true from c, Bool.true_and]
        have e2 : decide ((0 : Int) < (xs.length : Int)) = decide (0 < ds.length) := by
          rw [dpa_len hA]
          by_cases z : 0 < ds.length
          · rw [decide_eq_true z, decide_eq_true (by omega)]
          · rw [decide_eq_false z, decide_eq_false (by omega)]
        have q' := q H' s1
        rw [e, ← e2] at q'
        exact q'
      | non => exact absurd (show false = true from c) Bool.false_ne_true
      | bl => exact absurd (show false = true from c) Bool.false_ne_true
      | int => exact absurd (show false = true from c) Bool.false_ne_true
      | str => exact absurd (show false = true from c) Bool.false_ne_true
      | lst => exact absurd (show false = true from c) Bool.false_ne_true
    · have e : isPairB d = false := by
        cases d with
        | tuple ds => show (joinB ds && decide (0 < ds.length)) = _; rw [show joinB ds = false from Bool.eq_false_iff.mpr c, Bool.false_and]
        | none => rfl
        | bool => rfl
        | int => rfl
        | str => rfl
        | list => rfl
        | dict => rfl
      rw [e] at q
      exact q H' s1
end
end Pc
namespace Pc
open PySem PySem.Spec PyProof.Rows L2 RZ
section
variable {P : Program} {w : World} {K : PySem.W.Frag} {mg : Str → Option Value} {base : Heap}
/-! ### the law's own rule -/
theorem ok_is_due (T : Env K mg) : FnOk P w K mg base CX0 1 T.f_is_due T.d_is_due ["_law_matter"] (spIsPairing K) := by
  refine T.F_is_due.ok sc_is_due (fun vs H Q E h => ?_) (fun cdv A outer s H vs Q E hr h => ?_)
  · obtain ⟨v, d, rfl, _⟩ := h
    rfl
  · obtain ⟨v, d, rfl, hd, hw, q⟩ := h
    refine ⟨_, pss_cons (ps_if (PW.pt (pw_or (pt_not (pt_val (pe_callB call_isi (by rfl) T.n_isinstance (by decide +kernel) (pa_cons (pv 0) (pa_cons (pe_bltn (v := .ty "tuple") (by rfl) T.n_tuple (by decide +kernel) rfl) pa_nil)))))
        (pw_or1 (pt_cmpR op_eq (pe_callB call_len_seq (by rfl) T.n_len PySem.boot_len (pa_cons (pv 0) pa_nil)) pe_int (nomark _))))) (pss_one (ps_ret pe_bl)) pss_nil) <|
      pss_cons (ps_if (pt_not (pt_val (pe_callB (cr_all rfl) (by rfl) T.n_all (by decide +kernel) (pa_cons
        (pe_lc (own := [("_law_who", 1)]) (g := gName 1) (tt := tYes) (te := tAndV (tCB (rIsi K) (tCons (tVar 1) (tCons (tC (.ty "int")) tNil))) (tAndV (tNotV (tCB (rIsi K) (tCons (tVar 1) (tCons (tC (.ty "bool")) tNil)))) (tChain (rI0 fun i j => .bl (decide (i ≤ j))) (rI0 fun i j => .bl (decide (i < j))) (tC (.int 0)) (tVar 1) (tCB (fun xs H Q => ∃ p ys, xs = [V.ref p] ∧ (SqL K H p ys ∨ SqT K H p ys) ∧ Q (.int ys.length) H) (tCons (tVar 0) tNil))))) rfl sc_is_due.nd (pi_seq (pv 0)) (blkOk_by (N := N_is_due) (sc := defScope s_is_due) (by decide +kernel))
          (fun _ _ _ _ _ => pg_name (i := 1) sc_is_due.nd rfl (.inl rfl)) (fun _ _ _ _ _ => pts_nil)
          (fun _ _ _ _ _ => pe_and (pe_callB call_isi (by rfl) T.n_isinstance (by decide +kernel) (pa_cons (pv 1) (pa_cons (pe_bltn (v := .ty "int") (by rfl) T.n_int (by decide +kernel) rfl) pa_nil)))
            (pe_and (pe_not (pe_callB call_isi (by rfl) T.n_isinstance (by decide +kernel) (pa_cons (pv 1) (pa_cons (pe_bltn (v := .ty "bool") (by rfl) T.n_bool (by decide +kernel) rfl) pa_nil))))
            (pe_one (pe_chain op_le op_lt pe_int (pv 1) (pe_callB call_len_seq (by rfl) T.n_len PySem.boot_len (pa_cons (pv 0) pa_nil))))))) pa_nil)))) (pss_one (ps_ret pe_bl)) pss_nil) <|
      pss_one (ps_ret (pe_callB (cr_all rfl) (by rfl) T.n_all (by decide +kernel) (pa_cons
        (pe_lc (own := [("_law_who", 1), ("_law_mate", 2)]) (g := gTup K 2 (gCons (gName 1) (gCons (gName 2) gNil))) (tt := tYes) (te := tAndV (tOp rNe (tVar 2) (tVar 1)) (tOp rEq (tOp (rIxT K) (tVar 0) (tVar 2)) (tVar 1))) (by rfl) sc_is_due.nd (pi_enumA (by rfl) T.n_enumerate (pa_cons (pv 0) pa_nil))
          (blkOk_by (N := N_is_due) (sc := defScope s_is_due) (by decide +kernel))
          (fun _ _ _ _ _ => pg_tup (by rfl) (pgs_cons (pg_name (i := 1) sc_is_due.nd rfl (.inl rfl)) (pgs_cons (pg_name (i := 2) sc_is_due.nd rfl (.inl rfl)) pgs_nil))) (fun _ _ _ _ _ => pts_nil)
          (fun _ _ _ _ _ => pe_and (pe_cmpR op_ne (pv 2) (pv 1) (nomark _)) (pe_one (pe_cmpR op_eq (pe_ix ix_tup (pv 0) (pv 2) (fun _ _ => rfl)) (pv 1) (nomark _))))) pa_nil))), ?_⟩
    refine ⟨_, rfl, _, _, _, _, _, rfl, .ty _, dp_ty hd, k_tuple hd, _, rfl, ite2 (fun c => ?_) (fun c => ?_)⟩
    · have e : isPairB d = false := by cases hd <;> first | rfl | exact absurd (show false = true from c) Bool.false_ne_true
      rw [e] at q
      exact q H fun _ _ h => h
    · cases hd with
      | non => exact absurd rfl c
      | bl => exact absurd rfl c
      | int => exact absurd rfl c
      | str => exact absurd rfl c
      | lst => exact absurd rfl c
      | tup hS hA =>
      rename_i a xs ds
      have hlx := dpa_len hA
      have hw1 : ds.length ≤ 100000 := hw.1
      refine ⟨.ref a, rfl, a, _, rfl, .inr hS, rfl, _, rfl, ite2 (fun c0 => ?_) (fun c0 => ?_)⟩
      · have l0 : ds.length = 0 := by
          have := of_decide_eq_true c0
          have := V.int.inj this
          omega
        have e : isPairB (.tuple ds) = false := by
          show (joinB ds && decide (0 < ds.length)) = false
          rw [l0]; exact Bool.and_false _
        rw [e] at q
        exact q H fun _ _ h => h
      have l0 : 0 < ds.length := by
        rcases Nat.eq_zero_or_pos ds.length with z | z
        · exact absurd (decide_eq_true (show V.int (xs.length : Int) = V.int 0 by rw [hlx, z]; rfl)) c0
        · exact z
      have eP : isPairB (.tuple ds) = joinB ds := by
        show (joinB ds && decide (0 < ds.length)) = _
        rw [decide_eq_true l0, Bool.and_true]
      rw [eP] at q
      refine ⟨.ref a, rfl, a, rfl, lc_seq' (.inr hS) (fun _ _ h => h) fun D nD => ⟨fun i H' => Same H H' ∧ H' D = some (.lst (((ds.take i).map (belowB ds.length)).map V.bl)), ⟨same_new nD, upd_same⟩, fun i H' h => h.1, fun i x H' hx h => ?_, fun H' h => ?_⟩⟩
      · obtain ⟨sm, eD⟩ := h
        obtain ⟨d1, ed, hd1⟩ := dpa_get hA hx
        have hd1 := dp_same sm hd1
        have hi := get_lt ed
        have fin : ∀ bb : Bool, bb = belowB ds.length d1 → ∃ acc, H' D = some (.lst acc) ∧ acc.length < sizeLine ∧ (Same H (upd H' D (.lst (acc ++ [.bl bb]))) ∧ (upd H' D (.lst (acc ++ [.bl bb]))) D = some (.lst (((ds.take (i + 1)).map (belowB ds.length)).map V.bl))) := fun bb eb => by
          refine ⟨_, eD, ?_, fun c o hc => ?_, ?_⟩
          · rw [List.length_map, List.length_map, List.length_take]; exact line_big (by omega)
          · rw [upd_ne (ne_of_none hc nD)]; exact sm _ _ hc
          · rw [upd_same, all_take_bl (belowB ds.length) ed, eb]
        refine ⟨rfl, yes_if ⟨_, rfl, _, _, _, _, _, rfl, .ty _, dp_ty hd1, k_int hd1, _, rfl, ite2 (fun g => ?_) (fun g => ?_)⟩⟩
        · refine ⟨_, rfl, _, _, _, _, _, rfl, .ty _, dp_ty hd1, k_bool hd1, _, rfl, _, rfl, ite2 (fun g2 => ?_) (fun g2 => ?_)⟩
          · cases hd1 with
            | int j =>
              refine ⟨_, rfl, _, _, rfl, rfl, _, rfl, ite2 (fun g3 => ⟨.ref a, rfl, a, _, rfl, .inr (same_tup sm hS), _, _, rfl, rfl, fin _ ?_⟩) (fun g3 => fin _ ?_)⟩
              · show decide (j < (xs.length : Int)) = (decide (0 ≤ j) && decide (j < (ds.length : Int)))
                rw [show decide (0 ≤ j) = true from g3, hlx, Bool.true_and]
              · show false = (decide (0 ≤ j) && decide (j < (ds.length : Int)))
                rw [show decide (0 ≤ j) = false from Bool.eq_false_iff.mpr g3, Bool.false_and]
            | non => exact absurd (show false = true from g) Bool.false_ne_true
            | bl => exact absurd (show false = true from g2) Bool.false_ne_true
            | str => exact absurd (show false = true from g) Bool.false_ne_true
            | lst => exact absurd (show false = true from g) Bool.false_ne_true
            | tup => exact absurd (show false = true from g) Bool.false_ne_true
          · refine fin _ ?_
            cases hd1 with
            | int j => exact absurd rfl g2
            | bl => rfl
            | non => rfl
            | str => rfl
            | lst => rfl
            | tup => rfl
        · refine fin _ ?_
          cases hd1 with
          | int j => exact absurd rfl g
          | bl => rfl
          | non => rfl
          | str => rfl
          | lst => rfl
          | tup => rfl
      · obtain ⟨sm, eD⟩ := h
        rw [hlx, List.take_length] at eD
        refine ⟨D, ds.map (belowB ds.length), rfl, .inl (.inl eD), _, rfl, ?_⟩
        rw [List.all_map]
        refine ite2 (fun g => ?_) (fun g => ?_)
        · have e : joinB ds = false := by
            unfold joinB
            have g' : (!(ds.all (belowB ds.length))) = true := g
            have g2 : ds.all (belowB ds.length) = false := by
              cases hh : ds.all (belowB ds.length) with
              | true => rw [hh] at g'; exact absurd g' (by decide)
              | false => rfl
            rw [g2, Bool.false_and]
          have q' : Q (.bl (joinB ds)) H' := q H' sm
          rw [e] at q'
          exact q'
        · have g' : ds.all (belowB ds.length) = true := by
            have : ¬ (!(ds.all (belowB ds.length))) = true := g
            cases hh : ds.all (belowB ds.length) with
            | true => rfl
            | false => rw [hh] at this; exact absurd rfl this
          obtain ⟨exs, hfs⟩ := below_nats hA g'
          have hfl : (ds.map natOf).length = ds.length := List.length_map _
          have ej : joinB ds = (List.range ds.length).all (pairB (ds.map natOf)) := by unfold joinB; rw [g', Bool.true_and]
          generalize hfs' : ds.map natOf = fs at exs hfs hfl ej
          refine ⟨.ref a, rfl, a, _, rfl, .inr ⟨same_tup sm hS, fun D2 nD2 => ?_⟩⟩
          refine lc_it walk_enumT (fun i H2 => Same H' H2 ∧ H2 D2 = some (.lst ((((List.range ds.length).take i).map (pairB fs)).map V.bl))) ⟨same_new nD2, upd_same⟩ (fun i H2 _ h => same_tup (sm.trans h.1) hS) (fun i x H2 H3 hi h y => ?_) (fun H2 h => ?_)
          · obtain ⟨s2, eD2⟩ := h
            obtain ⟨tp, v1, v2, rfl, nt, rfl, g1, g2⟩ := y
            have ev1 : v1 = .int (i : Nat) := (Option.some.inj g1).symm
            rw [exs] at g2
            obtain ⟨z, ez, ev2⟩ := nv_get' g2
            subst ev1 ev2
            have hi' : i < ds.length := by rw [← hlx]; exact hi
            have hz : z < ds.length := hfs z (List.mem_of_getElem? ez)
            obtain ⟨y, ey⟩ := get_some (l := fs) (i := z) (by omega)
            have er : (List.range ds.length)[i]? = some i := List.getElem?_range hi'
            have s3 : Same H2 _ := same_new (o := .tup [.int (i : Nat), .int z]) nt
            have sm3 := (sm.trans s2).trans s3
            have lenb : ((((List.range ds.length).take i).map (pairB fs)).map V.bl).length < sizeLine := by
              rw [List.length_map, List.length_map, List.length_take, List.length_range]; exact line_big (by omega)
            refine ⟨tp, _, rfl, .inl (.inl upd_same), rfl, _, _, rfl, _, _, rfl, rfl, rfl, yes_if ⟨_, rfl, _, rfl, rfl, _, rfl, ite2 (fun g3 => ?_) (fun g3 => ?_)⟩⟩
            · have n3 : z ≠ i := fun e => by
                have g4 : (!decide (V.int (z : Int) = V.int (i : Nat))) = true := g3
                rw [e, decide_eq_true rfl] at g4; exact absurd g4 (by decide)
              refine ⟨.ref a, rfl, _, rfl, a, _, _, _, rfl, rfl, same_tup sm3 hS, nd_sel exs ey, _, rfl, rfl, _, s3 _ _ eD2, lenb, fun c o hc => ?_, ?_⟩
              · rw [upd_ne (ne_of_none hc nD2)]; exact s3 _ _ (s2 _ _ hc)
              · rw [upd_same, all_take_bl (pairB fs) er]
                have e5 : pairB fs i = decide (V.int (y : Int) = V.int (i : Nat)) := by
                  unfold pairB
                  rw [getD_of ez, getD_of ey, decide_eq_false n3, Bool.not_false, Bool.true_and]
                  by_cases w : y = i
                  · rw [w, decide_eq_true rfl, decide_eq_true rfl]
                  · rw [decide_eq_false w, decide_eq_false (fun e => w (by have := V.int.inj e; omega))]
                rw [e5]
            · have n3 : z = i := by
                by_cases e : z = i
                · exact e
                · exact absurd (by rw [decide_eq_false (fun e' => e (by have := V.int.inj e'; omega))]; rfl) g3
              refine ⟨_, s3 _ _ eD2, lenb, fun c o hc => ?_, ?_⟩
              · rw [upd_ne (ne_of_none hc nD2)]; exact s3 _ _ (s2 _ _ hc)
              · rw [upd_same, all_take_bl (pairB fs) er]
                have e5 : pairB fs i = false := by unfold pairB; rw [getD_of ez, decide_eq_true n3]; rfl
                rw [e5]
          · obtain ⟨s2, eD2⟩ := h
            rw [show xs.length = (List.range ds.length).length by rw [List.length_range, hlx], List.take_length] at eD2
            refine ⟨D2, (List.range ds.length).map (pairB fs), rfl, .inl (.inl eD2), ?_⟩
            rw [List.all_map]
            have q' : Q (.bl (joinB ds)) H2 := q H2 (sm.trans s2)
            rw [ej] at q'
            exact q'
end
end Pc
namespace Pc
open PySem PySem.Spec PyProof.Rows L2 RZ
/-! ### data of any kind: leaves, weight -/
mutual
def okD (B : Nat) : PyData → Prop
  | .none | .bool _ => True
  | .int i => i.natAbs ≤ B
  | .str x => PyData.strOk x = true
  | .list xs | .tuple xs => okAll B xs
  | .dict _ => False
def okAll (B : Nat) : List PyData → Prop
  | [] => True
  | x :: xs => okD B x ∧ okAll B xs
end
mutual
def wt : PyData → Nat
  | .none | .bool _ => 5
  | .int _ => 130
  | .str x => 10 * x.length + 2
  | .list xs | .tuple xs => 3 + wtAll xs
  | .dict _ => 0
def wtAll : List PyData → Nat
  | [] => 0
  | x :: xs => wt x + 2 + wtAll xs
end
theorem okAll_iff {B : Nat} : ∀ {ds : List PyData}, okAll B ds ↔ ∀ x ∈ ds, okD B x
  | [] => ⟨fun _ x hx => by simp at hx, fun _ => trivial⟩
  | d :: r => by
    show okD B d ∧ okAll B r ↔ _
    rw [okAll_iff (ds := r)]
    constructor
    · rintro ⟨h1, h2⟩ x hx
      rcases List.mem_cons.mp hx with z | z
      · rw [z]; exact h1
      · exact h2 x z
    · exact fun h => ⟨h d List.mem_cons_self, fun x hx => h x (List.mem_cons_of_mem _ hx)⟩
mutual
theorem okD_mono {B C : Nat} (h : B ≤ C) : ∀ {d : PyData}, okD B d → okD C d
  | .none, _ => trivial
  | .bool _, _ => trivial
  | .int i, e => Nat.le_trans (show i.natAbs ≤ B from e) h
  | .str _, e => e
  | .list _, e => okAll_mono h (show okAll B _ from e)
  | .tuple _, e => okAll_mono h (show okAll B _ from e)
  | .dict _, e => e
theorem okAll_mono {B C : Nat} (h : B ≤ C) : ∀ {ds : List PyData}, okAll B ds → okAll C ds
  | [], _ => trivial
  | _ :: _, ⟨a, b⟩ => ⟨okD_mono h a, okAll_mono h b⟩
end
theorem wtAll_app : ∀ a b : List PyData, wtAll (a ++ b) = wtAll a + wtAll b
  | [], b => (Nat.zero_add _).symm
  | x :: r, b => by show wt x + 2 + wtAll (r ++ b) = wt x + 2 + wtAll r + wtAll b; rw [wtAll_app r b]; omega
theorem wtAll_get : ∀ {ds : List PyData} {i : Nat} {x : PyData}, ds[i]? = some x → wt x + 2 ≤ wtAll ds
  | [], _, _, h => by simp at h
  | d :: r, 0, _, h => by cases Option.some.inj h; show _ ≤ wt d + 2 + wtAll r; omega
  | d :: r, i + 1, x, h => Nat.le_trans (wtAll_get (ds := r) (i := i) h) (by show _ ≤ wt d + 2 + wtAll r; omega)
theorem wtAll_set : ∀ {ds : List PyData} {i : Nat} {x : PyData} (y : PyData), ds[i]? = some x → wtAll (ds.set i y) + wt x = wtAll ds + wt y
  | [], _, _, _, h => by simp at h
  | d :: r, 0, _, y, h => by cases Option.some.inj h; show wt y + 2 + wtAll r + wt d = wt d + 2 + wtAll r + wt y; omega
  | d :: r, i + 1, x, y, h => by
    have := wtAll_set (ds := r) (i := i) y h
    show wt d + 2 + wtAll (r.set i y) + wt x = wt d + 2 + wtAll r + wt y
    omega
theorem wtAll_len : ∀ ds : List PyData, 2 * ds.length ≤ wtAll ds
  | [] => Nat.le_refl _
  | d :: r => by have := wtAll_len r; show 2 * (r.length + 1) ≤ wt d + 2 + wtAll r; omega
theorem wtAll_nd : ∀ l : List Nat, wtAll (nd l) = 132 * l.length
  | [] => rfl
  | x :: r => by show 130 + 2 + wtAll (nd r) = 132 * (r.length + 1); rw [wtAll_nd r]; omega
theorem strOk_signs {x : Str} (h : PyData.strOk x = true) : ∀ c ∈ x.cps.toList, c < 16 ^ 8 := fun c hc => by
  unfold PyData.strOk at h
  rw [← Array.all_toList] at h
  have h2 := of_decide_eq_true (List.all_eq_true.mp h c hc)
  exact Nat.lt_of_lt_of_le h2 (by decide)
theorem strOk_of (t : String) : PyData.strOk (Str.ofString t) = true := by
  unfold PyData.strOk
  rw [← Array.all_toList]
  refine List.all_eq_true.mpr fun c hc => decide_eq_true ?_
  rw [Str.ofString_eq_toList] at hc
  have hc' : c ∈ t.toList.map Char.toNat := by simpa using hc
  obtain ⟨z, _, rfl⟩ := List.mem_map.mp hc'
  have := z.valid
  rcases this with h | h
  · exact Nat.lt_of_lt_of_le h (by decide)
  · exact h.2
mutual
theorem shown_wt {B : Nat} (hB : B < 2 ^ 126) : ∀ {d : PyData}, okD B d → d.shown.length ≤ wt d
  | .none, _ => by decide
  | .bool b, _ => by cases b <;> decide
  | .int i, e => by
    have e' : i.natAbs ≤ B := e
    show (Str.ofString (toString i)).length ≤ 130
    rw [str_len]
    exact Nat.le_trans (int_text_length_le (k := 126) (by decide) (log_lt (by omega) (by decide))) (by decide)
  | .str x, e => by
    show (reprText x).length ≤ 10 * x.length + 2
    exact StrLaws.reprText_len x (strOk_signs e)
  | .list xs, e => by
    have h := shownAll_wt hB (show okAll B xs from e)
    have h3 := listText_len_le (PyData.shownAll xs)
    show (listText (PyData.shownAll xs)).length ≤ 3 + wtAll xs
    omega
  | .tuple xs, e => by
    have h := shownAll_wt hB (show okAll B xs from e)
    have h3 := tupleText_len_le (PyData.shownAll xs)
    show (tupleText (PyData.shownAll xs)).length ≤ 3 + wtAll xs
    omega
  | .dict _, e => e.elim
theorem shownAll_wt {B : Nat} (hB : B < 2 ^ 126) : ∀ {ds : List PyData}, okAll B ds → ((PyData.shownAll ds).map (·.length)).sum + 2 * (PyData.shownAll ds).length ≤ wtAll ds
  | [], _ => Nat.le_refl _
  | d :: r, ⟨e1, e2⟩ => by
    have h1 := shown_wt hB e1
    have h2 := shownAll_wt hB e2
    show ((d.shown :: PyData.shownAll r).map (·.length)).sum + 2 * ((PyData.shownAll r).length + 1) ≤ wt d + 2 + wtAll r
    rw [List.map_cons, List.sum_cons]
    omega
end
mutual
theorem okD_lay {B : Nat} : ∀ {d : PyData}, okD B d → d.canLay0 = true
  | .none, _ => rfl
  | .bool _, _ => rfl
  | .int _, _ => rfl
  | .str _, e => e
  | .list _, e => okAll_lay (show okAll B _ from e)
  | .tuple _, e => okAll_lay (show okAll B _ from e)
  | .dict _, e => e.elim
theorem okAll_lay {B : Nat} : ∀ {ds : List PyData}, okAll B ds → PyData.canLayAll0 ds = true
  | [], _ => rfl
  | d :: r, ⟨a, b⟩ => by show (d.canLay0 && PyData.canLayAll0 r) = true; rw [okD_lay a, okAll_lay b]; rfl
end
mutual
theorem okD_show {B : Nat} (hB : B < 2 ^ 126) : ∀ {d : PyData}, okD B d → d.showable = true
  | .none, _ => rfl
  | .bool _, _ => rfl
  | .int i, e => decide_eq_true (Nat.lt_of_lt_of_le (log_lt (k := 126) (Nat.lt_of_le_of_lt (show i.natAbs ≤ B from e) hB) (by decide)) (by decide))
  | .str _, _ => rfl
  | .list _, e => okAll_show hB (show okAll B _ from e)
  | .tuple _, e => okAll_show hB (show okAll B _ from e)
  | .dict _, e => e.elim
theorem okAll_show {B : Nat} (hB : B < 2 ^ 126) : ∀ {ds : List PyData}, okAll B ds → PyData.showableAll ds = true
  | [], _ => rfl
  | d :: r, ⟨a, b⟩ => by show (d.showable && PyData.showableAll r) = true; rw [okD_show hB a, okAll_show hB b]; rfl
end
mutual
theorem nar_wt : ∀ {d : PyData}, wt d ≤ 100000 → narrow d
  | .none, _ => trivial
  | .bool _, _ => trivial
  | .int _, _ => trivial
  | .str _, _ => trivial
  | .list xs, h => by
    have h' : 3 + wtAll xs ≤ 100000 := h
    have := wtAll_len xs
    exact ⟨by omega, narAll_wt (by omega)⟩
  | .tuple xs, h => by
    have h' : 3 + wtAll xs ≤ 100000 := h
    have := wtAll_len xs
    exact ⟨by omega, narAll_wt (by omega)⟩
  | .dict _, _ => trivial
theorem narAll_wt : ∀ {ds : List PyData}, wtAll ds ≤ 100000 → narrowAll ds
  | [], _ => trivial
  | d :: r, h => by
    have h' : wt d + 2 + wtAll r ≤ 100000 := h
    exact ⟨nar_wt (by omega), narAll_wt (by omega)⟩
end
theorem okD_fine {B m k : Nat} {d : PyData} (hB : B < 2 ^ 126) (h : okD B d) (hw : wt d ≤ m) (hm : m ≤ 100000) (hd : d.depth ≤ k) : Fine k m d :=
  ⟨okD_lay h, okD_show hB h, hd, nar_wt (by omega), Nat.le_trans (shown_wt hB h) hw⟩
/-! ### parts of lists of data -/
section
variable {K : PySem.W.Frag} {H : Hp}
theorem dpa_take : ∀ {vs : List V} {ds : List PyData} (i : Nat), DpAll K H vs ds → DpAll K H (vs.take i) (ds.take i)
  | _, _, 0, _ => .nil
  | _, _, _ + 1, .nil => .nil
  | _, _, i + 1, .cons h r => .cons h (dpa_take i r)
theorem dpa_drop : ∀ {vs : List V} {ds : List PyData} (i : Nat), DpAll K H vs ds → DpAll K H (vs.drop i) (ds.drop i)
  | _, _, 0, h => h
  | _, _, _ + 1, .nil => .nil
  | _, _, i + 1, .cons _ r => dpa_drop i r
theorem dpa_app : ∀ {vs us : List V} {ds es : List PyData}, DpAll K H vs ds → DpAll K H us es → DpAll K H (vs ++ us) (ds ++ es)
  | _, _, _, _, .nil, s => s
  | _, _, _, _, .cons h r, s => .cons h (dpa_app r s)
theorem dpa_set : ∀ {vs : List V} {ds : List PyData} (i : Nat) {v : V} {d : PyData}, DpAll K H vs ds → Dp K H v d → DpAll K H (vs.set i v) (ds.set i d)
  | _, _, _, _, _, .nil, _ => .nil
  | _, _, 0, _, _, .cons _ r, h => .cons h r
  | _, _, i + 1, _, _, .cons g r, h => .cons g (dpa_set i r h)
end
theorem cut_to (vs : List V) (i : Nat) : cutV vs none (some (i : Int)) = vs.take i := by
  unfold cutV
  rw [HT.sIx_none, HT.sIx_nat, List.drop_zero, Nat.sub_zero]
  by_cases h : i ≤ vs.length
  · rw [Nat.min_eq_left h]
  · rw [Nat.min_eq_right (by omega), List.take_of_length_le (Nat.le_refl _), List.take_of_length_le (by omega)]
theorem cut_from (vs : List V) (i : Nat) : cutV vs (some (i : Int)) none = vs.drop i := by
  unfold cutV
  rw [HT.sIx_none, HT.sIx_nat]
  by_cases h : i ≤ vs.length
  · rw [Nat.min_eq_left h, List.take_of_length_le (by rw [List.length_drop]; omega)]
  · rw [Nat.min_eq_right (by omega), List.drop_of_length_le (Nat.le_refl _), List.drop_of_length_le (by omega), List.take_nil]
end Pc
namespace Pc
open PySem PySem.Spec PyProof.Rows L2 RZ
def anyA : List PyData := [.none, .bool true, .bool false, .int 0, .int 1, .int (-1), .int (10 ^ 30), .str "", .str "1 0", .tuple [], .list [], .tuple [.int 0], .tuple [.int 1], .tuple [.int 1, .int 0], .list [.int 1, .int 0], .tuple [.bool true, .bool false], .tuple [.int 0, .int 1]]
def anyB : List PyData := [.tuple [.int 1, .int 0, .int 3, .int 2], .tuple [.int 1, .int 0, .int 2, .int 3], .tuple [.int (-1), .int (-2)], .tuple [.int 1, .str "0"], .tuple [.tuple [.int 1], .tuple [.int 0]], .tuple [.int 2, .int 3, .int 0, .int 1], .tuple [.int 2, .int 0, .int 1], .tuple [.int 1, .int 0, .int 3]]
theorem any_ok : okAll (2 ^ 100) (anyA ++ anyB) := by
  have h1 : PyData.strOk "" = true := by decide +kernel
  have h2 : PyData.strOk "1 0" = true := by decide +kernel
  have h3 : PyData.strOk "0" = true := by decide +kernel
  show okAll (2 ^ 100) [_, _, _, _, _, _, _, _, _, _, _, _, _, _, _, _, _, _, _, _, _, _, _, _, _]
  simp only [okAll, okD, h1, h2, h3, and_true, true_and]
  decide
theorem any_small : ∀ d ∈ anyA ++ anyB, d.depth ≤ 2 ∧ wt d ≤ 600 := by
  have h : (anyA ++ anyB).all (fun d => decide (d.depth ≤ 2) && decide (wt d ≤ 600)) = true := by decide +kernel
  intro d hd
  have := List.all_eq_true.mp h d hd
  rw [Bool.and_eq_true, decide_eq_true_iff, decide_eq_true_iff] at this
  exact this
section
variable {P : Program} {w : World} {K : PySem.W.Frag} {mg : Str → Option Value} {base : Heap}
/-! ### a value of any kind -/
def spAnything (K : PySem.W.Frag) : Sp := fun vs H Q _ => ∃ (b : Addr) (n : Nat) (S : Addr → Prop), vs = [.ref b] ∧ Box (n + 1) H b ∧ S b ∧ Has S H ∧
  ∀ (H' : Hp) (v : V) (d : PyData), Keep b H H' → Box n H' b → okD (2 ^ 100) d → d.depth ≤ 2 → wt d ≤ 600 → Dp K (off S H') v d → Q v H'
theorem ok_anything (T : Env K mg) : FnOk P w K mg base CX0 3 T.f_anything T.d_anything ["_law_box_here"] (spAnything K) := by
  have GO : FnOk P w K mg base CX0 2 T.f_of T.d_of ["_law_box_here", "_law_some"] (spOf K) := ok_of T
  refine T.F_anything.ok sc_anything (fun vs H Q E h => ?_) (fun cdv A outer s H vs Q E hr h => ?_)
  · obtain ⟨b, n, S, rfl, _⟩ := h
    rfl
  · obtain ⟨b, n, S, rfl, hB, hSb, hS, q⟩ := h
    refine ⟨_, pss_cons (ps_set (i := 1) sc_anything.nd rfl (.inl rfl) (pe_lst (t := tDs K S anyA) (pd_cons pd_non <| pd_cons pd_bl <| pd_cons pd_bl <| pd_cons pd_int <| pd_cons pd_int <| pd_cons (pd_of (pe_un un_neg pe_int) (fun _ _ _ q => ⟨_, rfl, q⟩) fun _ => .int (-1)) <|
        pd_cons (pd_of (pe_op op_pow pe_int pe_int) (fun _ _ _ q => ⟨_, _, rfl, rfl, ⟨by decide, by decide, by decide⟩, q⟩) fun _ => .int (10 ^ 30)) <| pd_cons pd_str <| pd_cons pd_str <| pd_cons (pd_tup pd_nil) <| pd_cons (pd_lst pd_nil) <| pd_cons (pd_tup (pd_cons pd_int pd_nil)) <| pd_cons (pd_tup (pd_cons pd_int pd_nil)) <|
        pd_cons (pd_tup (pd_cons pd_int (pd_cons pd_int pd_nil))) <| pd_cons (pd_lst (pd_cons pd_int (pd_cons pd_int pd_nil))) <| pd_cons (pd_tup (pd_cons pd_bl (pd_cons pd_bl pd_nil))) <| pd_cons (pd_tup (pd_cons pd_int (pd_cons pd_int pd_nil))) pd_nil))) <|
      pss_cons (ps_set (i := 1) sc_anything.nd rfl (.inl rfl) (pe_op op_cat (pv 1) (pe_lst (t := tDs K S anyB) (pd_cons (pd_tup (pd_cons pd_int <| pd_cons pd_int <| pd_cons pd_int <| pd_cons pd_int pd_nil)) <| pd_cons (pd_tup (pd_cons pd_int <| pd_cons pd_int <| pd_cons pd_int <| pd_cons pd_int pd_nil)) <|
        pd_cons (pd_tup (pd_cons (pd_of (pe_un un_neg pe_int) (fun _ _ _ q => ⟨_, rfl, q⟩) fun _ => .int (-1)) <| pd_cons (pd_of (pe_un un_neg pe_int) (fun _ _ _ q => ⟨_, rfl, q⟩) fun _ => .int (-2)) pd_nil)) <| pd_cons (pd_tup (pd_cons pd_int <| pd_cons pd_str pd_nil)) <|
        pd_cons (pd_tup (pd_cons (pd_tup (pd_cons pd_int pd_nil)) <| pd_cons (pd_tup (pd_cons pd_int pd_nil)) pd_nil)) <| pd_cons (pd_tup (pd_cons pd_int <| pd_cons pd_int <| pd_cons pd_int <| pd_cons pd_int pd_nil)) <|
        pd_cons (pd_tup (pd_cons pd_int <| pd_cons pd_int <| pd_cons pd_int pd_nil)) <| pd_cons (pd_tup (pd_cons pd_int <| pd_cons pd_int <| pd_cons pd_int pd_nil)) pd_nil)))) <|
      pss_one (ps_ret (pe_call GO hr (by rfl) T.g_of T.F_of.kp T.b_of .nil pass0 (pa_cons (pv 0) (pa_cons (pv 1) pa_nil)))), ?_⟩
    refine ⟨hS, fun vs1 H1 s1 d1 => ⟨by rw [dpa_len d1]; decide, fun l1 n1 => ?_⟩⟩
    have s2 := s1.trans (same_new (o := .lst vs1) n1)
    refine ⟨.ref l1, rfl, hS.same s2, fun vs2 H2 t1 d2 => ⟨by rw [dpa_len d2]; decide, fun l2 n2 => ?_⟩⟩
    have s3 := t1.trans (same_new (o := .lst vs2) n2)
    refine ⟨l1, l2, _, _, rfl, rfl, s3 _ _ upd_same, upd_same, by rw [dpa_len d1, dpa_len d2]; decide, fun l3 n3 => ?_⟩
    have s4 := same_new (o := .lst (vs1 ++ vs2)) n3
    have sL := s2.trans (s3.trans s4)
    have hB4 := hB.same sL
    have l3b : l3 ≠ b := fun z => (hS.same (s2.trans s3)).new n3 (z ▸ hSb)
    have d3 : DpAll K (off S (upd (upd H2 l2 (.lst vs2)) l3 (.lst (vs1 ++ vs2)))) (vs1 ++ vs2) (anyA ++ anyB) := dpa_app (dpa_same (off_same ((same_new n1).trans (s3.trans s4))) d1) (dpa_same (off_same ((same_new n2).trans s4)) d2)
    refine ⟨_, rfl, _, rfl, b, l3, n, _, rfl, hB4, l3b, upd_same, by rw [dpa_len d3]; decide, by rw [dpa_len d3]; decide, fun H5 i v hv k5 hB5 => ?_⟩
    obtain ⟨d, ed, hd⟩ := dpa_get d3 hv
    have hm := List.mem_of_getElem? ed
    obtain ⟨x1, x2⟩ := any_small d hm
    exact q H5 v d ((Keep.of_same sL).trans k5) hB5 (okAll_iff.mp any_ok d hm) x1 x2 (dp_same (off_keep hSb k5) hd)
end
end Pc
namespace Pc
open PySem PySem.Spec PyProof.Rows L2 RZ
theorem Has.keep {S : Addr → Prop} {b : Addr} {m : Nat} {H H' : Hp} (h : Has S H) (k : Keep b H H') (hB : Box m H' b) : Has S H' := fun a ha => by
  by_cases e : a = b
  · subst e
    obtain ⟨y, hy⟩ := hB.lst
    exact ⟨_, hy⟩
  · obtain ⟨o, eo⟩ := h a ha
    exact ⟨o, k a o e eo⟩
theorem dp_seq {K : PySem.W.Frag} {H : Hp} {v : V} {d : PyData} (h : Dp K H v d) (e : (isL d || isT d) = true) : ∃ (a : Addr) (xs : List V) (ds : List PyData), v = .ref a ∧ Sq K H a xs ∧ DpAll K H xs ds ∧ (d = .list ds ∨ d = .tuple ds) := by
  cases h with
  | lst hS hA => exact ⟨_, _, _, rfl, .inl hS, hA, .inl rfl⟩
  | tup hS hA => exact ⟨_, _, _, rfl, .inr hS, hA, .inr rfl⟩
  | non => exact absurd (show false = true from e) Bool.false_ne_true
  | bl => exact absurd (show false = true from e) Bool.false_ne_true
  | int => exact absurd (show false = true from e) Bool.false_ne_true
  | str => exact absurd (show false = true from e) Bool.false_ne_true
theorem wt_take (ds : List PyData) (i : Nat) : wtAll (ds.take i) ≤ wtAll ds := by
  have := wtAll_app (ds.take i) (ds.drop i)
  rw [List.take_append_drop] at this
  omega
theorem wt_drop (ds : List PyData) (i : Nat) : wtAll (ds.drop i) ≤ wtAll ds := by
  have := wtAll_app (ds.take i) (ds.drop i)
  rw [List.take_append_drop] at this
  omega
theorem depth_mem {ds : List PyData} {x : PyData} (h : x ∈ ds) : x.depth ≤ PyData.depthAll ds := by
  obtain ⟨i, hi, e⟩ := List.mem_iff_getElem.mp h
  exact depth_get (i := i) (by rw [List.getElem?_eq_getElem hi, e])
theorem mem_set {α : Type} {l : List α} {i : Nat} {a x : α} (h : x ∈ l.set i a) : x ∈ l ∨ x = a := List.mem_or_eq_of_mem_set h
section
variable {P : Program} {w : World} {K : PySem.W.Frag} {mg : Str → Option Value} {base : Heap}
/-! ### one thing changed -/
def spChanged (K : PySem.W.Frag) (k : Nat) : Sp := fun vs H Q _ => ∃ (b : Addr) (n : Nat) (S : Addr → Prop) (v : V) (d : PyData) (B : Nat), vs = [.ref b, v] ∧ Box (n + 3 * k + 5) H b ∧ S b ∧ Has S H ∧ Dp K (off S H) v d ∧ okD B d ∧ 2 ^ 100 ≤ B ∧ B < 2 ^ 125 ∧ d.depth < k ∧ wt d ≤ 20000 ∧
  ∀ (H' : Hp) (v' : V) (d' : PyData), Keep b H H' → Box n H' b → okD (B + 1) d' → d'.depth ≤ d.depth + 2 → wt d' ≤ 2 * wt d + 1100 → Dp K (off S H') v' d' → Q v' H'
theorem changed_step (T : Env K mg) (k : Nat) (G : FnOk P w K mg base CX0 (3 + k) T.f_changed T.d_changed ["_law_box_here", "_law_matter"] (spChanged K k)) : FnOk P w K mg base CX0 (3 + k + 1) T.f_changed T.d_changed ["_law_box_here", "_law_matter"] (spChanged K (k + 1)) := by
  have GT : FnOk P w K mg base CX0 1 T.f_take T.d_take ["_law_box_here", "_law_span"] spTake := ok_take T
  have GA : FnOk P w K mg base CX0 3 T.f_anything T.d_anything ["_law_box_here"] (spAnything K) := ok_anything T
  refine T.F_changed.ok sc_changed (fun vs H Q E h => ?_) (fun cdv A outer s H vs Q E hr h => ?_)
  · obtain ⟨b, n, S, v, d, B, rfl, _⟩ := h
    rfl
  · obtain ⟨b, n, S, v, d, B, rfl, hB, hSb, hS, hd, hok, hB1, hB2, hdp, hwt, q⟩ := h
    have h1 := hr.mono (show 1 ≤ 3 + k by omega)
    have h3 := hr.mono (show 3 ≤ 3 + k by omega)
    refine ⟨_, pss_cons (ps_set (i := 2) sc_changed.nd rfl (.inl rfl) (pe_call GT h1 (by rfl) T.g_take T.F_take.kp T.b_take .nil pass0 (pa_cons (pv 0) (pa_cons pe_int pa_nil)))) <|
      pss_cons (ps_if (PW.pt (pw_and (pt_val (pe_callB call_isi (by rfl) T.n_isinstance (by decide +kernel) (pa_cons (pv 1) (pa_cons (pe_bltn (v := .ty "int") (by rfl) T.n_int (by decide +kernel) rfl) pa_nil))))
          (pw_and (pt_not (pt_val (pe_callB call_isi (by rfl) T.n_isinstance (by decide +kernel) (pa_cons (pv 1) (pa_cons (pe_bltn (v := .ty "bool") (by rfl) T.n_bool (by decide +kernel) rfl) pa_nil))))) (pw_and1 (pt_cmpR op_lt (pv 2) pe_int (nomark _))))))
        (pss_one (ps_ret (pe_ix ix_list (pe_lst (pa_cons (pe_op op_add (pv 1) pe_int) (pa_cons (pe_op op_sub (pv 1) pe_int) (pa_cons (pe_op op_sub pe_int (pv 1)) (pa_cons (pe_cmpR op_eq (pv 1) pe_int (nomark _)) (pa_cons (pe_callTy call_str_int (by rfl) T.n_str (by decide +kernel) (pa_cons (pv 1) pa_nil)) pa_nil)))))) (pv 2) (fun _ _ => rfl)))) pss_nil) <|
      pss_cons (ps_if (PW.pt (pw_or (pt_not (pt_val (pe_callB call_isiT (by rfl) T.n_isinstance (by decide +kernel) (pa_cons (pv 1) (pa_cons (pe_tup (pa_cons (pe_bltn (v := .ty "list") (by rfl) T.n_list (by decide +kernel) rfl) (pa_cons (pe_bltn (v := .ty "tuple") (by rfl) T.n_tuple (by decide +kernel) rfl) pa_nil))) pa_nil)))))
          (pw_or (pt_cmpR op_eq (pe_callB call_len_seq (by rfl) T.n_len PySem.boot_len (pa_cons (pv 1) pa_nil)) pe_int (nomark _)) (pw_or1 (pt_cmpR op_eq (pv 2) pe_int (nomark _))))))
        (pss_one (ps_ret (pe_call GA h3 (by rfl) T.g_anything T.F_anything.kp T.b_anything .nil pass0 (pa_cons (pv 0) pa_nil)))) pss_nil) <|
      pss_cons (ps_par (by rfl) sc_changed.nd (i := 3) (j := 4) rfl rfl (by decide) rfl rfl (pa_cons (pe_callTy call_list_of (by rfl) T.n_list (by decide +kernel) (pa_cons (pv 1) pa_nil)) (pa_cons (pe_call GT h1 (by rfl) T.g_take T.F_take.kp T.b_take .nil pass0 (pa_cons (pv 0) (pa_cons (pe_callB call_len_seq (by rfl) T.n_len PySem.boot_len (pa_cons (pv 1) pa_nil)) pa_nil))) pa_nil)) (by rfl)) <|
      pss_cons (ps_if (pt_cmpR op_eq (pv 2) pe_int (nomark _)) (pss_one (ps_ret (pe_ifExp (pt_val (pe_callB call_isi (by rfl) T.n_isinstance (by decide +kernel) (pa_cons (pv 1) (pa_cons (pe_bltn (v := .ty "list") (by rfl) T.n_list (by decide +kernel) rfl) pa_nil)))) (pe_callTy call_tuple_of (by rfl) T.n_tuple (by decide +kernel) (pa_cons (pv 3) pa_nil)) (pv 3)))) pss_nil) <|
      pss_cons (ps_if (pt_cmpR op_eq (pv 2) pe_int (nomark _)) (pss_one (ps_set (i := 3) sc_changed.nd rfl (.inl rfl) (pe_op op_cat (pe_slice sl_list (pv 3) po_none (po_some (pv 4))) (pe_slice sl_list (pv 3) (po_some (pe_op op_add (pv 4) pe_int)) po_none))))
        (pss_one (ps_if (pt_cmpR op_eq (pv 2) pe_int (nomark _)) (pss_one (ps_set (i := 3) sc_changed.nd rfl (.inl rfl) (pe_op op_cat (pe_slice sl_list (pv 3) po_none (po_some (pe_op op_add (pv 4) pe_int))) (pe_slice sl_list (pv 3) (po_some (pv 4)) po_none))))
        (pss_one (ps_if (pt_cmpR op_eq (pv 2) pe_int (nomark _)) (pss_cons (ps_set (i := 5) sc_changed.nd rfl (.inl rfl) (pe_call GT h1 (by rfl) T.g_take T.F_take.kp T.b_take .nil pass0 (pa_cons (pv 0) (pa_cons (pe_callB call_len_seq (by rfl) T.n_len PySem.boot_len (pa_cons (pv 1) pa_nil)) pa_nil)))) <|
            pss_one (ps_asg (pe_tup (pa_cons (pe_ix ix_list (pv 3) (pv 5) (fun _ _ => rfl)) (pa_cons (pe_ix ix_list (pv 3) (pv 4) (fun _ _ => rfl)) pa_nil))) (pg_tup rfl (pgs_cons (pg_sub (pv 3) (pv 4) set_list) (pgs_cons (pg_sub (pv 3) (pv 5) set_list) pgs_nil)))))
          (pss_one (ps_asg (pe_call G hr (by rfl) T.g_changed T.F_changed.kp T.b_changed .nil pass0 (pa_cons (pv 0) (pa_cons (pe_ix ix_list (pv 3) (pv 4) (fun _ _ => rfl)) pa_nil))) (pg_sub (pv 3) (pv 4) set_list)))))))) <|
      pss_one (ps_ret (pe_ifExp (pt_val (pe_callB call_isi (by rfl) T.n_isinstance (by decide +kernel) (pa_cons (pv 1) (pa_cons (pe_bltn (v := .ty "tuple") (by rfl) T.n_tuple (by decide +kernel) rfl) pa_nil)))) (pe_callTy call_tuple_of (by rfl) T.n_tuple (by decide +kernel) (pa_cons (pv 3) pa_nil)) (pv 3))), ?_⟩
    refine ⟨.ref b, rfl, b, n + 3 * k + 7, 8, rfl, hB, by decide, by decide, fun r H1 r0 r1 hB1 k1 => ?_⟩
    have hd1 : Dp K (off S H1) v d := dp_same (off_keep hSb k1) hd
    have he1 : Dp K H1 v d := dp_same off_le hd1
    have hS1 : Has S H1 := hS.keep k1 hB1
    refine ⟨_, rfl, _, _, _, _, _, rfl, .ty _, dp_ty he1, k_int he1, _, rfl, ite2 (fun c => ?wA) (fun c => ?wT1)⟩
    case' wA =>
      refine ⟨_, rfl, _, _, _, _, _, rfl, .ty _, dp_ty he1, k_bool he1, _, rfl, ite2 (fun c' => ?wB) (fun c' => ?wT2)⟩
    case' wB =>
      refine ⟨_, rfl, _, _, rfl, rfl, _, rfl, ite2 (fun c2 => ?wI) (fun c2 => ?wT3)⟩
    case wI =>
      have r5 : r < 5 := of_decide_eq_true c2
      cases he1 with
      | int i =>
        have hi : i.natAbs ≤ B := hok
        refine ⟨_, rfl, _, _, rfl, rfl, _, rfl, _, _, rfl, rfl, _, rfl, _, _, rfl, rfl, _, rfl, rfl, _, rfl, i, rfl, Nat.lt_of_lt_of_le (log_lt (k := 125) (by omega) (by decide)) (by decide), by show 5 ≤ sizeLine; decide, fun l nl => ?_⟩
        have sl := same_new (o := .lst [.int (i + 1), .int (i - 1), .int (0 - i), .bl (decide (V.int i = V.int 1)), .str (toString i)]) nl
        have kl : Keep b H _ := k1.trans (Keep.of_same sl)
        have hBl := (hB1.same sl).mono (show n ≤ _ by omega)
        refine ⟨.int r, rfl, ?_⟩
        rcases (show r = 0 ∨ r = 1 ∨ r = 2 ∨ r = 3 ∨ r = 4 by omega) with z | z | z | z | z
        · subst z
          exact ⟨l, _, 0, _, rfl, rfl, .inl (.inl upd_same), atI_nat (j := 0) rfl, q _ _ (.int (i + 1)) kl hBl (show (i + 1).natAbs ≤ B + 1 by omega) (Nat.zero_le _) (by show 130 ≤ _; omega) (.int _)⟩
        · subst z
          exact ⟨l, _, 1, _, rfl, rfl, .inl (.inl upd_same), atI_nat (j := 1) rfl, q _ _ (.int (i - 1)) kl hBl (show (i - 1).natAbs ≤ B + 1 by omega) (Nat.zero_le _) (by show 130 ≤ _; omega) (.int _)⟩
        · subst z
          exact ⟨l, _, 2, _, rfl, rfl, .inl (.inl upd_same), atI_nat (j := 2) rfl, q _ _ (.int (0 - i)) kl hBl (show (0 - i).natAbs ≤ B + 1 by omega) (Nat.zero_le _) (by show 130 ≤ _; omega) (.int _)⟩
        · subst z
          exact ⟨l, _, 3, _, rfl, rfl, .inl (.inl upd_same), atI_nat (j := 3) rfl, q _ _ (.bool _) kl hBl trivial (Nat.zero_le _) (by show 5 ≤ _; omega) (.bl _)⟩
        · subst z
          refine ⟨l, _, 4, _, rfl, rfl, .inl (.inl upd_same), atI_nat (j := 4) rfl, q _ _ (.str _) kl hBl (strOk_of (toString i)) (Nat.zero_le _) ?_ (.str _)⟩
          have hlen : (Str.ofString (toString i)).length ≤ 126 := by
            rw [str_len]; exact int_text_length_le (k := 125) (by decide) (log_lt (by omega) (by decide))
          show 10 * (Str.ofString (toString i)).length + 2 ≤ 2 * 130 + 1100
          omega
      | non => exact absurd (show false = true from c) Bool.false_ne_true
      | bl => exact absurd (show false = true from c') Bool.false_ne_true
      | str => exact absurd (show false = true from c) Bool.false_ne_true
      | lst => exact absurd (show false = true from c) Bool.false_ne_true
      | tup => exact absurd (show false = true from c) Bool.false_ne_true
    case wT1 =>
      clear c
      refine ⟨_, rfl, by show 2 ≤ sizeLine; decide, fun t nt => ?_⟩
      have st : Same H1 _ := same_new (o := .tup [.ty "list", .ty "tuple"]) nt
      have et : (upd H1 t (.tup [.ty "list", .ty "tuple"])) t = some (.tup [.ty "list", .ty "tuple"]) := upd_same
      revert st et
      generalize upd H1 t (.tup [.ty "list", .ty "tuple"]) = H2
      intro st et
      have hd2 := dp_same (off_same (S := S) st) hd1
      have he2 := dp_same st he1
      have hS2 := hS1.same st
      have hB2' := hB1.same st
      have k2 : Keep b H H2 := k1.trans (Keep.of_same st)
      refine ⟨_, t, _, _, _, _, rfl, et, cls2 _ _, dp_ty he2, k_lt he2, _, rfl, ite2 (fun g => ?_) (fun g => ?_)⟩
      · exact ⟨.ref b, rfl, b, n, S, rfl, hB2'.mono (by omega), hSb, hS2, fun H' v' d' k' hB' o1 o2 o3 o4 => q H' v' d' (k2.trans k') hB' (okD_mono (by omega) o1) (by omega) (by omega) o4⟩
      have gs : (isL d || isT d) = true := by
        cases hh : (isL d || isT d) with
        | true => rfl
        | false => rw [hh] at g; exact absurd rfl g
      obtain ⟨a, xs, ds, rfl, hq, hA, hdd⟩ := dp_seq hd2 gs
      have hlx := dpa_len hA
      have dW : wt d = 3 + wtAll ds := by rcases hdd with z | z <;> rw [z] <;> rfl
      have dD : d.depth = PyData.depthAll ds + 1 := by rcases hdd with z | z <;> rw [z] <;> rfl
      have okds : okAll B ds := by rcases hdd with z | z <;> rw [z] at hok <;> exact hok
      have dlen := wtAll_len ds
      have hq2 : Sq K H2 a xs := hq.same off_le
      refine ⟨.ref a, rfl, a, _, rfl, hq2, rfl, _, rfl, ite2 (fun g2 => ?_) (fun g2 => ?_)⟩
      · exact ⟨.ref b, rfl, b, n, S, rfl, hB2'.mono (by omega), hSb, hS2, fun H' v' d' k' hB' o1 o2 o3 o4 => q H' v' d' (k2.trans k') hB' (okD_mono (by omega) o1) (by omega) (by omega) o4⟩
      refine ⟨_, rfl, rfl, _, rfl, ite2 (fun g3 => ?_) (fun g3 => ?_)⟩
      · exact ⟨.ref b, rfl, b, n, S, rfl, hB2'.mono (by omega), hSb, hS2, fun H' v' d' k' hB' o1 o2 o3 o4 => q H' v' d' (k2.trans k') hB' (okD_mono (by omega) o1) (by omega) (by omega) o4⟩
      have l0 : 0 < ds.length := by
        rcases Nat.eq_zero_or_pos ds.length with z | z
        · exact absurd (decide_eq_true (show V.int (xs.length : Int) = V.int 0 by rw [hlx, z]; rfl)) g2
        · exact z
      -- a copy, a place
      refine ⟨.ref a, rfl, a, _, rfl, hq2, fun l nl => ?_⟩
      have sl : Same H2 _ := same_new (o := .lst xs) nl
      have el : (upd H2 l (.lst xs)) l = some (.lst xs) := upd_same
      have lS : ¬ S l := hS2.new nl
      have lb : l ≠ b := fun z => lS (z ▸ hSb)
      revert sl el
      generalize upd H2 l (.lst xs) = H3
      intro sl el
      refine ⟨.ref b, rfl, .ref a, rfl, a, _, rfl, hq2.same sl, b, n + 3 * k + 6, (xs.length : Int), rfl, hB2'.same sl, by omega, by omega, fun r2 H4 r20 r21 hB4 k4 => ⟨_, _, rfl, ?_⟩⟩
      obtain ⟨j, rfl⟩ := Int.eq_ofNat_of_zero_le r20
      have hj : j < ds.length := by omega
      have el4 : H4 l = some (.lst xs) := k4 _ _ lb el
      have k24 : Keep b H2 H4 := (Keep.of_same sl).trans k4
      have k04 : Keep b H H4 := k2.trans k24
      have hA4 : DpAll K (off S H4) xs ds := dpa_same (off_keep hSb k24) hA
      have hd4 : Dp K (off S H4) (.ref a) d := dp_same (off_keep hSb k24) hd2
      have he4 : Dp K H4 (.ref a) d := dp_same off_le hd4
      have xsz : ∀ {m : Nat}, m ≤ 50000 → m ≤ sizeLine := fun h => Nat.le_of_lt (line_big (by omega))
      have okm : okAll (B + 1) ds := okAll_mono (by omega) okds
      refine ⟨_, rfl, rfl, _, rfl, ite2 (fun g4 => ?_) (fun g4 => ?_)⟩
      · refine ⟨_, rfl, _, _, _, _, _, rfl, .ty _, dp_ty he4, k_list he4, _, rfl, ite2 (fun g5 => ?_) (fun g5 => ?_)⟩
        · refine ⟨.ref l, rfl, l, _, rfl, .inl ⟨.inl (.inl el4), fun t2 nt2 => ?_⟩⟩
          have s5 := same_new (o := .tup xs) nt2
          exact q _ _ (.tuple ds) (k04.trans (Keep.of_same s5)) ((hB4.same s5).mono (by omega)) okm (by show PyData.depthAll ds + 1 ≤ _; omega) (by show 3 + wtAll ds ≤ _; omega) (.tup (.inl (.inl (off_get ((hS2.keep k24 hB4).new nt2) upd_same))) (dpa_same (off_same s5) hA4))
        · exact ⟨.ref l, rfl, q _ _ (.list ds) k04 (hB4.mono (by omega)) okm (by show PyData.depthAll ds + 1 ≤ _; omega) (by show 3 + wtAll ds ≤ _; omega) (.lst (.inl (.inl (off_get lS el4))) hA4)⟩
      -- four ways to change
      have hq4 : Sq K H4 a xs := (hq.same (off_keep hSb k24)).same off_le
      have toF : ∀ {Hf : Hp}, (∀ x o, x ≠ b → x ≠ l → H4 x = some o → Hf x = some o) → Same (off S H2) (off S Hf) := fun {Hf} hh x o hx => by
        have hx2 : H2 x = some o := off_le _ _ hx
        have nS : ¬ S x := fun z => by unfold off at hx; rw [if_pos z] at hx; cases hx
        have xb : x ≠ b := fun z => nS (z ▸ hSb)
        exact off_get nS (hh x o xb (ne_of_none hx2 nl) (k24 _ _ xb hx2))
      have toK : ∀ {Hf : Hp}, (∀ x o, x ≠ b → x ≠ l → H4 x = some o → Hf x = some o) → Keep b H Hf := fun {Hf} hh x o xb hx => hh x o xb (ne_of_none (k2 _ _ xb hx) nl) (k04 _ _ xb hx)
      obtain ⟨v1, e1⟩ := get_some (l := xs) (i := j) (by omega)
      obtain ⟨d1, f1, hd1'⟩ := dpa_get hA e1
      have m1 := List.mem_of_getElem? f1
      have w1 := wtAll_get f1
      have hin : ∀ {y : PyData}, y ∈ ds → okD (B + 1) y ∧ y.depth ≤ PyData.depthAll ds + 2 := fun hy => ⟨okAll_iff.mp okm _ hy, by have := depth_mem hy; omega⟩
      refine ⟨_, rfl, rfl, _, rfl, ite2 (fun g6 => ?xv1a) (fun g6 => ?xv2a)⟩
      case' xv2a => refine ⟨_, rfl, rfl, _, rfl, ite2 (fun g7 => ?xv3a) (fun g7 => ?xv4a)⟩
      case' xv4a => refine ⟨_, rfl, rfl, _, rfl, ite2 (fun g8 => ?xv5a) (fun g8 => ?xv6a)⟩
      case' xv1a =>
        refine ⟨.ref l, rfl, _, rfl, _, rfl, l, _, rfl, .inl (.inl el4), fun p1 np1 => ?_⟩
        rw [cut_to]
        refine ⟨.ref l, rfl, _, rfl, _, _, rfl, rfl, _, rfl, l, _, rfl, .inl (.inl (same_new np1 _ _ el4)), fun p2 np2 => ?_⟩
        rw [show ((j : Int) + 1) = ((j + 1 : Nat) : Int) by omega, cut_from]
        refine ⟨p1, p2, _, _, rfl, rfl, same_new np2 _ _ upd_same, upd_same, xsz (by rw [List.length_take, List.length_drop]; omega), fun lf np3 => ?_⟩
        have s6 := ((same_new (o := .lst (xs.take j)) np1).trans (same_new (o := .lst (xs.drop (j + 1))) np2)).trans (same_new (o := .lst (xs.take j ++ xs.drop (j + 1))) np3)
        have kf := k04.trans (Keep.of_same s6)
        have hBf : Box n _ b := (hB4.same s6).mono (by omega)
        have ef : (upd (upd (upd H4 p1 (.lst (xs.take j))) p2 (.lst (xs.drop (j + 1)))) lf (.lst (xs.take j ++ xs.drop (j + 1)))) lf = some (.lst (xs.take j ++ xs.drop (j + 1))) := upd_same
        have fS : ¬ S lf := ((hS2.keep k24 hB4).same ((same_new np1).trans (same_new np2))).new np3
        have Af := dpa_same (off_same (S := S) s6) (dpa_app (dpa_take j hA4) (dpa_drop (j + 1) hA4))
        have hef := dp_same s6 he4
        have df : ∀ y ∈ ds.take j ++ ds.drop (j + 1), okD (B + 1) y ∧ y.depth ≤ PyData.depthAll ds + 2 := fun y hy => hin (by
          rcases List.mem_append.mp hy with z | z
          · exact List.mem_of_mem_take z
          · exact List.mem_of_mem_drop z)
        have wf : wtAll (ds.take j ++ ds.drop (j + 1)) ≤ 2 * wtAll ds + 1100 := by
          rw [wtAll_app]
          have x1 := wt_take ds j
          have x2 := wt_drop ds (j + 1)
          omega
        revert kf hBf ef fS Af hef df wf
        clear s6 np3
        generalize upd (upd (upd H4 p1 (.lst (xs.take j))) p2 (.lst (xs.drop (j + 1)))) lf (.lst (xs.take j ++ xs.drop (j + 1))) = Hf
        generalize xs.take j ++ xs.drop (j + 1) = vsf
        generalize ds.take j ++ ds.drop (j + 1) = dsf
      case' xv3a =>
        refine ⟨.ref l, rfl, _, rfl, _, _, rfl, rfl, _, rfl, l, _, rfl, .inl (.inl el4), fun p1 np1 => ?_⟩
        rw [show ((j : Int) + 1) = ((j + 1 : Nat) : Int) by omega, cut_to]
        refine ⟨.ref l, rfl, _, rfl, _, rfl, l, _, rfl, .inl (.inl (same_new np1 _ _ el4)), fun p2 np2 => ?_⟩
        rw [cut_from]
        refine ⟨p1, p2, _, _, rfl, rfl, same_new np2 _ _ upd_same, upd_same, xsz (by rw [List.length_take, List.length_drop]; omega), fun lf np3 => ?_⟩
        have s6 := ((same_new (o := .lst (xs.take (j + 1))) np1).trans (same_new (o := .lst (xs.drop j)) np2)).trans (same_new (o := .lst (xs.take (j + 1) ++ xs.drop j)) np3)
        have kf := k04.trans (Keep.of_same s6)
        have hBf : Box n _ b := (hB4.same s6).mono (by omega)
        have ef : (upd (upd (upd H4 p1 (.lst (xs.take (j + 1)))) p2 (.lst (xs.drop j))) lf (.lst (xs.take (j + 1) ++ xs.drop j))) lf = some (.lst (xs.take (j + 1) ++ xs.drop j)) := upd_same
        have fS : ¬ S lf := ((hS2.keep k24 hB4).same ((same_new np1).trans (same_new np2))).new np3
        have Af := dpa_same (off_same (S := S) s6) (dpa_app (dpa_take (j + 1) hA4) (dpa_drop j hA4))
        have hef := dp_same s6 he4
        have df : ∀ y ∈ ds.take (j + 1) ++ ds.drop j, okD (B + 1) y ∧ y.depth ≤ PyData.depthAll ds + 2 := fun y hy => hin (by
          rcases List.mem_append.mp hy with z | z
          · exact List.mem_of_mem_take z
          · exact List.mem_of_mem_drop z)
        have wf : wtAll (ds.take (j + 1) ++ ds.drop j) ≤ 2 * wtAll ds + 1100 := by
          rw [wtAll_app]
          have x1 := wt_take ds (j + 1)
          have x2 := wt_drop ds j
          omega
        revert kf hBf ef fS Af hef df wf
        clear s6 np3
        generalize upd (upd (upd H4 p1 (.lst (xs.take (j + 1)))) p2 (.lst (xs.drop j))) lf (.lst (xs.take (j + 1) ++ xs.drop j)) = Hf
        generalize xs.take (j + 1) ++ xs.drop j = vsf
        generalize ds.take (j + 1) ++ ds.drop j = dsf
      case' xv5a =>
        refine ⟨.ref b, rfl, .ref a, rfl, a, _, rfl, hq4, b, n + 3 * k + 5, (xs.length : Int), rfl, hB4, by omega, by omega, fun r3 H5 r30 r31 hB5 k5 => ?_⟩
        obtain ⟨j3, rfl⟩ := Int.eq_ofNat_of_zero_le r30
        have el5 : H5 l = some (.lst xs) := k5 _ _ lb el4
        obtain ⟨v3, e3⟩ := get_some (l := xs) (i := j3) (by omega)
        obtain ⟨d3, f3, hd3⟩ := dpa_get hA e3
        have m3 := List.mem_of_getElem? f3
        refine ⟨.ref l, rfl, _, rfl, l, _, _, v3, rfl, rfl, .inl (.inl el5), atI_nat e3, .ref l, rfl, _, rfl, l, _, _, v1, rfl, rfl, .inl (.inl el5), atI_nat e1, by show 2 ≤ sizeLine; decide, fun tp ntp => ?_⟩
        have lt : l ≠ tp := ne_of_none el5 ntp
        refine ⟨tp, _, rfl, .inl (.inl upd_same), rfl, _, _, rfl, .ref l, rfl, _, rfl, l, _, _, j, rfl, rfl, same_new ntp _ _ el5, ixN_nat (by omega), _, _, rfl, .ref l, rfl, _, rfl, l, _, _, j3, rfl, rfl, upd_same, ixN_nat (by rw [List.length_set]; omega), rfl, ?_⟩
        have hh : ∀ x o, x ≠ b → x ≠ l → H4 x = some o → (upd (upd (upd H5 tp (.tup [v3, v1])) l (.lst (xs.set j v3))) l (.lst ((xs.set j v3).set j3 v1))) x = some o := fun x o xb xl hx => by
          rw [upd_ne xl, upd_ne xl]
          exact same_new ntp _ _ (k5 _ _ xb hx)
        have kf := toK hh
        have bl : b ≠ l := lb.symm
        have hBf : Box n (upd (upd (upd H5 tp (.tup [v3, v1])) l (.lst (xs.set j v3))) l (.lst ((xs.set j v3).set j3 v1))) b := (((hB5.same (same_new ntp)).keep (c := l) keep_upd bl).keep (c := l) keep_upd bl).mono (by omega)
        have ef : (upd (upd (upd H5 tp (.tup [v3, v1])) l (.lst (xs.set j v3))) l (.lst ((xs.set j v3).set j3 v1))) l = some (.lst ((xs.set j v3).set j3 v1)) := upd_same
        have fS : ¬ S l := lS
        have Af := dpa_set j3 (dpa_set j (dpa_same (toF hh) hA) (dp_same (toF hh) hd3)) (dp_same (toF hh) hd1')
        have hef : Dp K (upd (upd (upd H5 tp (.tup [v3, v1])) l (.lst (xs.set j v3))) l (.lst ((xs.set j v3).set j3 v1))) (.ref a) d := dp_same off_le (dp_same (toF hh) hd2)
        have df : ∀ y ∈ (ds.set j d3).set j3 d1, okD (B + 1) y ∧ y.depth ≤ PyData.depthAll ds + 2 := fun y hy => hin (by
          rcases mem_set hy with z | z
          · rcases mem_set z with z | z
            · exact z
            · rw [z]; exact m3
          · rw [z]; exact m1)
        have wf : wtAll ((ds.set j d3).set j3 d1) ≤ 2 * wtAll ds + 1100 := by
          have x1 := wtAll_set d3 f1
          have f3' : (ds.set j d3)[j3]? = some d3 := by
            by_cases z : j = j3
            · subst z; exact List.getElem?_set_self (by omega)
            · rw [List.getElem?_set_ne z]; exact f3
          have x2 := wtAll_set d1 f3'
          omega
        revert kf hBf ef fS Af hef df wf
        clear hh
        generalize upd (upd (upd H5 tp (.tup [v3, v1])) l (.lst (xs.set j v3))) l (.lst ((xs.set j v3).set j3 v1)) = Hf
        generalize (xs.set j v3).set j3 v1 = vsf
        generalize (ds.set j d3).set j3 d1 = dsf
        generalize l = lf
      case' xv6a =>
        have hS' : Has (fun x => S x ∨ x = l) H4 := fun x hx => by
          rcases hx with z | z
          · exact (hS2.keep k24 hB4) x z
          · rw [z]; exact ⟨_, el4⟩
        have dN : Dp K (off (fun x => S x ∨ x = l) H4) v1 d1 := dp_same (fun x o hx => by
          have hx2 : H2 x = some o := off_le _ _ hx
          have nS : ¬ S x := fun z => by unfold off at hx; rw [if_pos z] at hx; cases hx
          exact off_get (fun z => z.elim nS (ne_of_none hx2 nl)) (k24 _ _ (fun z => nS (z ▸ hSb)) hx2)) hd1'
        have dd1 := depth_mem m1
        refine ⟨.ref b, rfl, .ref l, rfl, _, rfl, l, _, _, v1, rfl, rfl, .inl (.inl el4), atI_nat e1, b, n, (fun x => S x ∨ x = l), v1, d1, B, rfl, hB4.mono (by omega), .inl hSb, hS', dN, okAll_iff.mp okds _ m1, by omega, by omega, by omega, by omega, fun H5 v' d' k5 hB5 o1 o2 o3 o4 => ?_⟩
        have el5 : H5 l = some (.lst xs) := k5 _ _ lb el4
        refine ⟨.ref l, rfl, _, rfl, l, _, _, j, rfl, rfl, el5, ixN_nat (by omega), ?_⟩
        have hh : ∀ x o, x ≠ b → x ≠ l → H4 x = some o → (upd H5 l (.lst (xs.set j v'))) x = some o := fun x o xb xl hx => by
          rw [upd_ne xl]
          exact k5 _ _ xb hx
        have kf := toK hh
        have hBf : Box n (upd H5 l (.lst (xs.set j v'))) b := hB5.keep (c := l) keep_upd lb.symm
        have ef : (upd H5 l (.lst (xs.set j v'))) l = some (.lst (xs.set j v')) := upd_same
        have fS : ¬ S l := lS
        have dv : Dp K (off S (upd H5 l (.lst (xs.set j v')))) v' d' := dp_same (fun x o hx => by
          have hx2 : H5 x = some o := off_le _ _ hx
          have nS : ¬ (S x ∨ x = l) := fun z => by unfold off at hx; rw [if_pos z] at hx; cases hx
          exact off_get (fun z => nS (.inl z)) (by rw [upd_ne (fun z => nS (.inr z))]; exact hx2)) o4
        have Af := dpa_set j (dpa_same (toF hh) hA) dv
        have hef : Dp K (upd H5 l (.lst (xs.set j v'))) (.ref a) d := dp_same off_le (dp_same (toF hh) hd2)
        have df : ∀ y ∈ ds.set j d', okD (B + 1) y ∧ y.depth ≤ PyData.depthAll ds + 2 := fun y hy => by
          rcases mem_set hy with z | z
          · exact hin z
          · rw [z]; exact ⟨o1, by omega⟩
        have wf : wtAll (ds.set j d') ≤ 2 * wtAll ds + 1100 := by
          have x1 := wtAll_set d' f1
          omega
        revert kf hBf ef fS Af hef df wf
        clear hh dv
        generalize upd H5 l (.lst (xs.set j v')) = Hf
        generalize xs.set j v' = vsf
        generalize ds.set j d' = dsf
        generalize l = lf
      all_goals
        intro kf hBf ef fS Af hef df wf
        have okf : okAll (B + 1) dsf := okAll_iff.mpr fun y hy => (df y hy).1
        have dpf : PyData.depthAll dsf ≤ PyData.depthAll ds + 2 := all_depth fun y hy => (df y hy).2
        refine ⟨_, rfl, _, _, _, _, _, rfl, .ty _, dp_ty hef, k_tuple hef, _, rfl, ite2 (fun g9 => ?_) (fun g9 => ?_)⟩
        · refine ⟨.ref lf, rfl, lf, _, rfl, .inl ⟨.inl (.inl ef), fun t2 nt2 => ?_⟩⟩
          have s5 := same_new (o := .tup vsf) nt2
          exact q _ _ (.tuple dsf) (kf.trans (Keep.of_same s5)) (hBf.same s5) okf (by show PyData.depthAll dsf + 1 ≤ _; omega) (by show 3 + wtAll dsf ≤ _; omega) (.tup (.inl (.inl (off_get ((hS.keep kf hBf).new nt2) upd_same))) (dpa_same (off_same s5) Af))
        · exact ⟨.ref lf, rfl, q _ _ (.list dsf) kf hBf okf (by show PyData.depthAll dsf + 1 ≤ _; omega) (by show 3 + wtAll dsf ≤ _; omega) (.lst (.inl (.inl (off_get fS ef))) Af)⟩
    case wT2 =>
      clear c
      refine ⟨_, rfl, by show 2 ≤ sizeLine; decide, fun t nt => ?_⟩
      have st : Same H1 _ := same_new (o := .tup [.ty "list", .ty "tuple"]) nt
      have et : (upd H1 t (.tup [.ty "list", .ty "tuple"])) t = some (.tup [.ty "list", .ty "tuple"]) := upd_same
      revert st et
      generalize upd H1 t (.tup [.ty "list", .ty "tuple"]) = H2
      intro st et
      have hd2 := dp_same (off_same (S := S) st) hd1
      have he2 := dp_same st he1
      have hS2 := hS1.same st
      have hB2' := hB1.same st
      have k2 : Keep b H H2 := k1.trans (Keep.of_same st)
      refine ⟨_, t, _, _, _, _, rfl, et, cls2 _ _, dp_ty he2, k_lt he2, _, rfl, ite2 (fun g => ?_) (fun g => ?_)⟩
      · exact ⟨.ref b, rfl, b, n, S, rfl, hB2'.mono (by omega), hSb, hS2, fun H' v' d' k' hB' o1 o2 o3 o4 => q H' v' d' (k2.trans k') hB' (okD_mono (by omega) o1) (by omega) (by omega) o4⟩
      have gs : (isL d || isT d) = true := by
        cases hh : (isL d || isT d) with
        | true => rfl
        | false => rw [hh] at g; exact absurd rfl g
      obtain ⟨a, xs, ds, rfl, hq, hA, hdd⟩ := dp_seq hd2 gs
      have hlx := dpa_len hA
      have dW : wt d = 3 + wtAll ds := by rcases hdd with z | z <;> rw [z] <;> rfl
      have dD : d.depth = PyData.depthAll ds + 1 := by rcases hdd with z | z <;> rw [z] <;> rfl
      have okds : okAll B ds := by rcases hdd with z | z <;> rw [z] at hok <;> exact hok
      have dlen := wtAll_len ds
      have hq2 : Sq K H2 a xs := hq.same off_le
      refine ⟨.ref a, rfl, a, _, rfl, hq2, rfl, _, rfl, ite2 (fun g2 => ?_) (fun g2 => ?_)⟩
      · exact ⟨.ref b, rfl, b, n, S, rfl, hB2'.mono (by omega), hSb, hS2, fun H' v' d' k' hB' o1 o2 o3 o4 => q H' v' d' (k2.trans k') hB' (okD_mono (by omega) o1) (by omega) (by omega) o4⟩
      refine ⟨_, rfl, rfl, _, rfl, ite2 (fun g3 => ?_) (fun g3 => ?_)⟩
      · exact ⟨.ref b, rfl, b, n, S, rfl, hB2'.mono (by omega), hSb, hS2, fun H' v' d' k' hB' o1 o2 o3 o4 => q H' v' d' (k2.trans k') hB' (okD_mono (by omega) o1) (by omega) (by omega) o4⟩
      have l0 : 0 < ds.length := by
        rcases Nat.eq_zero_or_pos ds.length with z | z
        · exact absurd (decide_eq_true (show V.int (xs.length : Int) = V.int 0 by rw [hlx, z]; rfl)) g2
        · exact z
      -- a copy, a place
      refine ⟨.ref a, rfl, a, _, rfl, hq2, fun l nl => ?_⟩
      have sl : Same H2 _ := same_new (o := .lst xs) nl
      have el : (upd H2 l (.lst xs)) l = some (.lst xs) := upd_same
      have lS : ¬ S l := hS2.new nl
      have lb : l ≠ b := fun z => lS (z ▸ hSb)
      revert sl el
      generalize upd H2 l (.lst xs) = H3
      intro sl el
      refine ⟨.ref b, rfl, .ref a, rfl, a, _, rfl, hq2.same sl, b, n + 3 * k + 6, (xs.length : Int), rfl, hB2'.same sl, by omega, by omega, fun r2 H4 r20 r21 hB4 k4 => ⟨_, _, rfl, ?_⟩⟩
      obtain ⟨j, rfl⟩ := Int.eq_ofNat_of_zero_le r20
      have hj : j < ds.length := by omega
      have el4 : H4 l = some (.lst xs) := k4 _ _ lb el
      have k24 : Keep b H2 H4 := (Keep.of_same sl).trans k4
      have k04 : Keep b H H4 := k2.trans k24
      have hA4 : DpAll K (off S H4) xs ds := dpa_same (off_keep hSb k24) hA
      have hd4 : Dp K (off S H4) (.ref a) d := dp_same (off_keep hSb k24) hd2
      have he4 : Dp K H4 (.ref a) d := dp_same off_le hd4
      have xsz : ∀ {m : Nat}, m ≤ 50000 → m ≤ sizeLine := fun h => Nat.le_of_lt (line_big (by omega))
      have okm : okAll (B + 1) ds := okAll_mono (by omega) okds
      refine ⟨_, rfl, rfl, _, rfl, ite2 (fun g4 => ?_) (fun g4 => ?_)⟩
      · refine ⟨_, rfl, _, _, _, _, _, rfl, .ty _, dp_ty he4, k_list he4, _, rfl, ite2 (fun g5 => ?_) (fun g5 => ?_)⟩
        · refine ⟨.ref l, rfl, l, _, rfl, .inl ⟨.inl (.inl el4), fun t2 nt2 => ?_⟩⟩
          have s5 := same_new (o := .tup xs) nt2
          exact q _ _ (.tuple ds) (k04.trans (Keep.of_same s5)) ((hB4.same s5).mono (by omega)) okm (by show PyData.depthAll ds + 1 ≤ _; omega) (by show 3 + wtAll ds ≤ _; omega) (.tup (.inl (.inl (off_get ((hS2.keep k24 hB4).new nt2) upd_same))) (dpa_same (off_same s5) hA4))
        · exact ⟨.ref l, rfl, q _ _ (.list ds) k04 (hB4.mono (by omega)) okm (by show PyData.depthAll ds + 1 ≤ _; omega) (by show 3 + wtAll ds ≤ _; omega) (.lst (.inl (.inl (off_get lS el4))) hA4)⟩
      -- four ways to change
      have hq4 : Sq K H4 a xs := (hq.same (off_keep hSb k24)).same off_le
      have toF : ∀ {Hf : Hp}, (∀ x o, x ≠ b → x ≠ l → H4 x = some o → Hf x = some o) → Same (off S H2) (off S Hf) := fun {Hf} hh x o hx => by
        have hx2 : H2 x = some o := off_le _ _ hx
        have nS : ¬ S x := fun z => by unfold off at hx; rw [if_pos z] at hx; cases hx
        have xb : x ≠ b := fun z => nS (z ▸ hSb)
        exact off_get nS (hh x o xb (ne_of_none hx2 nl) (k24 _ _ xb hx2))
      have toK : ∀ {Hf : Hp}, (∀ x o, x ≠ b → x ≠ l → H4 x = some o → Hf x = some o) → Keep b H Hf := fun {Hf} hh x o xb hx => hh x o xb (ne_of_none (k2 _ _ xb hx) nl) (k04 _ _ xb hx)
      obtain ⟨v1, e1⟩ := get_some (l := xs) (i := j) (by omega)
      obtain ⟨d1, f1, hd1'⟩ := dpa_get hA e1
      have m1 := List.mem_of_getElem? f1
      have w1 := wtAll_get f1
      have hin : ∀ {y : PyData}, y ∈ ds → okD (B + 1) y ∧ y.depth ≤ PyData.depthAll ds + 2 := fun hy => ⟨okAll_iff.mp okm _ hy, by have := depth_mem hy; omega⟩
      refine ⟨_, rfl, rfl, _, rfl, ite2 (fun g6 => ?xv1b) (fun g6 => ?xv2b)⟩
      case' xv2b => refine ⟨_, rfl, rfl, _, rfl, ite2 (fun g7 => ?xv3b) (fun g7 => ?xv4b)⟩
      case' xv4b => refine ⟨_, rfl, rfl, _, rfl, ite2 (fun g8 => ?xv5b) (fun g8 => ?xv6b)⟩
      case' xv1b =>
        refine ⟨.ref l, rfl, _, rfl, _, rfl, l, _, rfl, .inl (.inl el4), fun p1 np1 => ?_⟩
        rw [cut_to]
        refine ⟨.ref l, rfl, _, rfl, _, _, rfl, rfl, _, rfl, l, _, rfl, .inl (.inl (same_new np1 _ _ el4)), fun p2 np2 => ?_⟩
        rw [show ((j : Int) + 1) = ((j + 1 : Nat) : Int) by omega, cut_from]
        refine ⟨p1, p2, _, _, rfl, rfl, same_new np2 _ _ upd_same, upd_same, xsz (by rw [List.length_take, List.length_drop]; omega), fun lf np3 => ?_⟩
        have s6 := ((same_new (o := .lst (xs.take j)) np1).trans (same_new (o := .lst (xs.drop (j + 1))) np2)).trans (same_new (o := .lst (xs.take j ++ xs.drop (j + 1))) np3)
        have kf := k04.trans (Keep.of_same s6)
        have hBf : Box n _ b := (hB4.same s6).mono (by omega)
        have ef : (upd (upd (upd H4 p1 (.lst (xs.take j))) p2 (.lst (xs.drop (j + 1)))) lf (.lst (xs.take j ++ xs.drop (j + 1)))) lf = some (.lst (xs.take j ++ xs.drop (j + 1))) := upd_same
        have fS : ¬ S lf := ((hS2.keep k24 hB4).same ((same_new np1).trans (same_new np2))).new np3
        have Af := dpa_same (off_same (S := S) s6) (dpa_app (dpa_take j hA4) (dpa_drop (j + 1) hA4))
        have hef := dp_same s6 he4
        have df : ∀ y ∈ ds.take j ++ ds.drop (j + 1), okD (B + 1) y ∧ y.depth ≤ PyData.depthAll ds + 2 := fun y hy => hin (by
          rcases List.mem_append.mp hy with z | z
          · exact List.mem_of_mem_take z
          · exact List.mem_of_mem_drop z)
        have wf : wtAll (ds.take j ++ ds.drop (j + 1)) ≤ 2 * wtAll ds + 1100 := by
          rw [wtAll_app]
          have x1 := wt_take ds j
          have x2 := wt_drop ds (j + 1)
          omega
        revert kf hBf ef fS Af hef df wf
        clear s6 np3
        generalize upd (upd (upd H4 p1 (.lst (xs.take j))) p2 (.lst (xs.drop (j + 1)))) lf (.lst (xs.take j ++ xs.drop (j + 1))) = Hf
        generalize xs.take j ++ xs.drop (j + 1) = vsf
        generalize ds.take j ++ ds.drop (j + 1) = dsf
      case' xv3b =>
        refine ⟨.ref l, rfl, _, rfl, _, _, rfl, rfl, _, rfl, l, _, rfl, .inl (.inl el4), fun p1 np1 => ?_⟩
        rw [show ((j : Int) + 1) = ((j + 1 : Nat) : Int) by omega, cut_to]
        refine ⟨.ref l, rfl, _, rfl, _, rfl, l, _, rfl, .inl (.inl (same_new np1 _ _ el4)), fun p2 np2 => ?_⟩
        rw [cut_from]
        refine ⟨p1, p2, _, _, rfl, rfl, same_new np2 _ _ upd_same, upd_same, xsz (by rw [List.length_take, List.length_drop]; omega), fun lf np3 => ?_⟩
        have s6 := ((same_new (o := .lst (xs.take (j + 1))) np1).trans (same_new (o := .lst (xs.drop j)) np2)).trans (same_new (o := .lst (xs.take (j + 1) ++ xs.drop j)) np3)
        have kf := k04.trans (Keep.of_same s6)
        have hBf : Box n _ b := (hB4.same s6).mono (by omega)
        have ef : (upd (upd (upd H4 p1 (.lst (xs.take (j + 1)))) p2 (.lst (xs.drop j))) lf (.lst (xs.take (j + 1) ++ xs.drop j))) lf = some (.lst (xs.take (j + 1) ++ xs.drop j)) := upd_same
        have fS : ¬ S lf := ((hS2.keep k24 hB4).same ((same_new np1).trans (same_new np2))).new np3
        have Af := dpa_same (off_same (S := S) s6) (dpa_app (dpa_take (j + 1) hA4) (dpa_drop j hA4))
        have hef := dp_same s6 he4
        have df : ∀ y ∈ ds.take (j + 1) ++ ds.drop j, okD (B + 1) y ∧ y.depth ≤ PyData.depthAll ds + 2 := fun y hy => hin (by
          rcases List.mem_append.mp hy with z | z
          · exact List.mem_of_mem_take z
          · exact List.mem_of_mem_drop z)
        have wf : wtAll (ds.take (j + 1) ++ ds.drop j) ≤ 2 * wtAll ds + 1100 := by
          rw [wtAll_app]
          have x1 := wt_take ds (j + 1)
          have x2 := wt_drop ds j
          omega
        revert kf hBf ef fS Af hef df wf
        clear s6 np3
        generalize upd (upd (upd H4 p1 (.lst (xs.take (j + 1)))) p2 (.lst (xs.drop j))) lf (.lst (xs.take (j + 1) ++ xs.drop j)) = Hf
        generalize xs.take (j + 1) ++ xs.drop j = vsf
        generalize ds.take (j + 1) ++ ds.drop j = dsf
      case' xv5b =>
        refine ⟨.ref b, rfl, .ref a, rfl, a, _, rfl, hq4, b, n + 3 * k + 5, (xs.length : Int), rfl, hB4, by omega, by omega, fun r3 H5 r30 r31 hB5 k5 => ?_⟩
        obtain ⟨j3, rfl⟩ := Int.eq_ofNat_of_zero_le r30
        have el5 : H5 l = some (.lst xs) := k5 _ _ lb el4
        obtain ⟨v3, e3⟩ := get_some (l := xs) (i := j3) (by omega)
        obtain ⟨d3, f3, hd3⟩ := dpa_get hA e3
        have m3 := List.mem_of_getElem? f3
        refine ⟨.ref l, rfl, _, rfl, l, _, _, v3, rfl, rfl, .inl (.inl el5), atI_nat e3, .ref l, rfl, _, rfl, l, _, _, v1, rfl, rfl, .inl (.inl el5), atI_nat e1, by show 2 ≤ sizeLine; decide, fun tp ntp => ?_⟩
        have lt : l ≠ tp := ne_of_none el5 ntp
        refine ⟨tp, _, rfl, .inl (.inl upd_same), rfl, _, _, rfl, .ref l, rfl, _, rfl, l, _, _, j, rfl, rfl, same_new ntp _ _ el5, ixN_nat (by omega), _, _, rfl, .ref l, rfl, _, rfl, l, _, _, j3, rfl, rfl, upd_same, ixN_nat (by rw [List.length_set]; omega), rfl, ?_⟩
        have hh : ∀ x o, x ≠ b → x ≠ l → H4 x = some o → (upd (upd (upd H5 tp (.tup [v3, v1])) l (.lst (xs.set j v3))) l (.lst ((xs.set j v3).set j3 v1))) x = some o := fun x o xb xl hx => by
          rw [upd_ne xl, upd_ne xl]
          exact same_new ntp _ _ (k5 _ _ xb hx)
        have kf := toK hh
        have bl : b ≠ l := lb.symm
        have hBf : Box n (upd (upd (upd H5 tp (.tup [v3, v1])) l (.lst (xs.set j v3))) l (.lst ((xs.set j v3).set j3 v1))) b := (((hB5.same (same_new ntp)).keep (c := l) keep_upd bl).keep (c := l) keep_upd bl).mono (by omega)
        have ef : (upd (upd (upd H5 tp (.tup [v3, v1])) l (.lst (xs.set j v3))) l (.lst ((xs.set j v3).set j3 v1))) l = some (.lst ((xs.set j v3).set j3 v1)) := upd_same
        have fS : ¬ S l := lS
        have Af := dpa_set j3 (dpa_set j (dpa_same (toF hh) hA) (dp_same (toF hh) hd3)) (dp_same (toF hh) hd1')
        have hef : Dp K (upd (upd (upd H5 tp (.tup [v3, v1])) l (.lst (xs.set j v3))) l (.lst ((xs.set j v3).set j3 v1))) (.ref a) d := dp_same off_le (dp_same (toF hh) hd2)
        have df : ∀ y ∈ (ds.set j d3).set j3 d1, okD (B + 1) y ∧ y.depth ≤ PyData.depthAll ds + 2 := fun y hy => hin (by
          rcases mem_set hy with z | z
          · rcases mem_set z with z | z
            · exact z
            · rw [z]; exact m3
          · rw [z]; exact m1)
        have wf : wtAll ((ds.set j d3).set j3 d1) ≤ 2 * wtAll ds + 1100 := by
          have x1 := wtAll_set d3 f1
          have f3' : (ds.set j d3)[j3]? = some d3 := by
            by_cases z : j = j3
            · subst z; exact List.getElem?_set_self (by omega)
            · rw [List.getElem?_set_ne z]; exact f3
          have x2 := wtAll_set d1 f3'
          omega
        revert kf hBf ef fS Af hef df wf
        clear hh
        generalize upd (upd (upd H5 tp (.tup [v3, v1])) l (.lst (xs.set j v3))) l (.lst ((xs.set j v3).set j3 v1)) = Hf
        generalize (xs.set j v3).set j3 v1 = vsf
        generalize (ds.set j d3).set j3 d1 = dsf
        generalize l = lf
      case' xv6b =>
        have hS' : Has (fun x => S x ∨ x = l) H4 := fun x hx => by
          rcases hx with z | z
          · exact (hS2.keep k24 hB4) x z
          · rw [z]; exact ⟨_, el4⟩
        have dN : Dp K (off (fun x => S x ∨ x = l) H4) v1 d1 := dp_same (fun x o hx => by
          have hx2 : H2 x = some o := off_le _ _ hx
          have nS : ¬ S x := fun z => by unfold off at hx; rw [if_pos z] at hx; cases hx
          exact off_get (fun z => z.elim nS (ne_of_none hx2 nl)) (k24 _ _ (fun z => nS (z ▸ hSb)) hx2)) hd1'
        have dd1 := depth_mem m1
        refine ⟨.ref b, rfl, .ref l, rfl, _, rfl, l, _, _, v1, rfl, rfl, .inl (.inl el4), atI_nat e1, b, n, (fun x => S x ∨ x = l), v1, d1, B, rfl, hB4.mono (by omega), .inl hSb, hS', dN, okAll_iff.mp okds _ m1, by omega, by omega, by omega, by omega, fun H5 v' d' k5 hB5 o1 o2 o3 o4 => ?_⟩
        have el5 : H5 l = some (.lst xs) := k5 _ _ lb el4
        refine ⟨.ref l, rfl, _, rfl, l, _, _, j, rfl, rfl, el5, ixN_nat (by omega), ?_⟩
        have hh : ∀ x o, x ≠ b → x ≠ l → H4 x = some o → (upd H5 l (.lst (xs.set j v'))) x = some o := fun x o xb xl hx => by
          rw [upd_ne xl]
          exact k5 _ _ xb hx
        have kf := toK hh
        have hBf : Box n (upd H5 l (.lst (xs.set j v'))) b := hB5.keep (c := l) keep_upd lb.symm
        have ef : (upd H5 l (.lst (xs.set j v'))) l = some (.lst (xs.set j v')) := upd_same
        have fS : ¬ S l := lS
        have dv : Dp K (off S (upd H5 l (.lst (xs.set j v')))) v' d' := dp_same (fun x o hx => by
          have hx2 : H5 x = some o := off_le _ _ hx
          have nS : ¬ (S x ∨ x = l) := fun z => by unfold off at hx; rw [if_pos z] at hx; cases hx
          exact off_get (fun z => nS (.inl z)) (by rw [upd_ne (fun z => nS (.inr z))]; exact hx2)) o4
        have Af := dpa_set j (dpa_same (toF hh) hA) dv
        have hef : Dp K (upd H5 l (.lst (xs.set j v'))) (.ref a) d := dp_same off_le (dp_same (toF hh) hd2)
        have df : ∀ y ∈ ds.set j d', okD (B + 1) y ∧ y.depth ≤ PyData.depthAll ds + 2 := fun y hy => by
          rcases mem_set hy with z | z
          · exact hin z
          · rw [z]; exact ⟨o1, by omega⟩
        have wf : wtAll (ds.set j d') ≤ 2 * wtAll ds + 1100 := by
          have x1 := wtAll_set d' f1
          omega
        revert kf hBf ef fS Af hef df wf
        clear hh dv
        generalize upd H5 l (.lst (xs.set j v')) = Hf
        generalize xs.set j v' = vsf
        generalize ds.set j d' = dsf
        generalize l = lf
      all_goals
        intro kf hBf ef fS Af hef df wf
        have okf : okAll (B + 1) dsf := okAll_iff.mpr fun y hy => (df y hy).1
        have dpf : PyData.depthAll dsf ≤ PyData.depthAll ds + 2 := all_depth fun y hy => (df y hy).2
        refine ⟨_, rfl, _, _, _, _, _, rfl, .ty _, dp_ty hef, k_tuple hef, _, rfl, ite2 (fun g9 => ?_) (fun g9 => ?_)⟩
        · refine ⟨.ref lf, rfl, lf, _, rfl, .inl ⟨.inl (.inl ef), fun t2 nt2 => ?_⟩⟩
          have s5 := same_new (o := .tup vsf) nt2
          exact q _ _ (.tuple dsf) (kf.trans (Keep.of_same s5)) (hBf.same s5) okf (by show PyData.depthAll dsf + 1 ≤ _; omega) (by show 3 + wtAll dsf ≤ _; omega) (.tup (.inl (.inl (off_get ((hS.keep kf hBf).new nt2) upd_same))) (dpa_same (off_same s5) Af))
        · exact ⟨.ref lf, rfl, q _ _ (.list dsf) kf hBf okf (by show PyData.depthAll dsf + 1 ≤ _; omega) (by show 3 + wtAll dsf ≤ _; omega) (.lst (.inl (.inl (off_get fS ef))) Af)⟩
    case wT3 =>
      clear c
      refine ⟨_, rfl, by show 2 ≤ sizeLine; decide, fun t nt => ?_⟩
      have st : Same H1 _ := same_new (o := .tup [.ty "list", .ty "tuple"]) nt
      have et : (upd H1 t (.tup [.ty "list", .ty "tuple"])) t = some (.tup [.ty "list", .ty "tuple"]) := upd_same
      revert st et
      generalize upd H1 t (.tup [.ty "list", .ty "tuple"]) = H2
      intro st et
      have hd2 := dp_same (off_same (S := S) st) hd1
      have he2 := dp_same st he1
      have hS2 := hS1.same st
      have hB2' := hB1.same st
      have k2 : Keep b H H2 := k1.trans (Keep.of_same st)
      refine ⟨_, t, _, _, _, _, rfl, et, cls2 _ _, dp_ty he2, k_lt he2, _, rfl, ite2 (fun g => ?_) (fun g => ?_)⟩
      · exact ⟨.ref b, rfl, b, n, S, rfl, hB2'.mono (by omega), hSb, hS2, fun H' v' d' k' hB' o1 o2 o3 o4 => q H' v' d' (k2.trans k') hB' (okD_mono (by omega) o1) (by omega) (by omega) o4⟩
      have gs : (isL d || isT d) = true := by
        cases hh : (isL d || isT d) with
        | true => rfl
        | false => rw [hh] at g; exact absurd rfl g
      obtain ⟨a, xs, ds, rfl, hq, hA, hdd⟩ := dp_seq hd2 gs
      have hlx := dpa_len hA
      have dW : wt d = 3 + wtAll ds := by rcases hdd with z | z <;> rw [z] <;> rfl
      have dD : d.depth = PyData.depthAll ds + 1 := by rcases hdd with z | z <;> rw [z] <;> rfl
      have okds : okAll B ds := by rcases hdd with z | z <;> rw [z] at hok <;> exact hok
      have dlen := wtAll_len ds
      have hq2 : Sq K H2 a xs := hq.same off_le
      refine ⟨.ref a, rfl, a, _, rfl, hq2, rfl, _, rfl, ite2 (fun g2 => ?_) (fun g2 => ?_)⟩
      · exact ⟨.ref b, rfl, b, n, S, rfl, hB2'.mono (by omega), hSb, hS2, fun H' v' d' k' hB' o1 o2 o3 o4 => q H' v' d' (k2.trans k') hB' (okD_mono (by omega) o1) (by omega) (by omega) o4⟩
      refine ⟨_, rfl, rfl, _, rfl, ite2 (fun g3 => ?_) (fun g3 => ?_)⟩
      · exact ⟨.ref b, rfl, b, n, S, rfl, hB2'.mono (by omega), hSb, hS2, fun H' v' d' k' hB' o1 o2 o3 o4 => q H' v' d' (k2.trans k') hB' (okD_mono (by omega) o1) (by omega) (by omega) o4⟩
      have l0 : 0 < ds.length := by
        rcases Nat.eq_zero_or_pos ds.length with z | z
        · exact absurd (decide_eq_true (show V.int (xs.length : Int) = V.int 0 by rw [hlx, z]; rfl)) g2
        · exact z
      -- a copy, a place
      refine ⟨.ref a, rfl, a, _, rfl, hq2, fun l nl => ?_⟩
      have sl : Same H2 _ := same_new (o := .lst xs) nl
      have el : (upd H2 l (.lst xs)) l = some (.lst xs) := upd_same
      have lS : ¬ S l := hS2.new nl
      have lb : l ≠ b := fun z => lS (z ▸ hSb)
      revert sl el
      generalize upd H2 l (.lst xs) = H3
      intro sl el
      refine ⟨.ref b, rfl, .ref a, rfl, a, _, rfl, hq2.same sl, b, n + 3 * k + 6, (xs.length : Int), rfl, hB2'.same sl, by omega, by omega, fun r2 H4 r20 r21 hB4 k4 => ⟨_, _, rfl, ?_⟩⟩
      obtain ⟨j, rfl⟩ := Int.eq_ofNat_of_zero_le r20
      have hj : j < ds.length := by omega
      have el4 : H4 l = some (.lst xs) := k4 _ _ lb el
      have k24 : Keep b H2 H4 := (Keep.of_same sl).trans k4
      have k04 : Keep b H H4 := k2.trans k24
      have hA4 : DpAll K (off S H4) xs ds := dpa_same (off_keep hSb k24) hA
      have hd4 : Dp K (off S H4) (.ref a) d := dp_same (off_keep hSb k24) hd2
      have he4 : Dp K H4 (.ref a) d := dp_same off_le hd4
      have xsz : ∀ {m : Nat}, m ≤ 50000 → m ≤ sizeLine := fun h => Nat.le_of_lt (line_big (by omega))
      have okm : okAll (B + 1) ds := okAll_mono (by omega) okds
      refine ⟨_, rfl, rfl, _, rfl, ite2 (fun g4 => ?_) (fun g4 => ?_)⟩
      · refine ⟨_, rfl, _, _, _, _, _, rfl, .ty _, dp_ty he4, k_list he4, _, rfl, ite2 (fun g5 => ?_) (fun g5 => ?_)⟩
        · refine ⟨.ref l, rfl, l, _, rfl, .inl ⟨.inl (.inl el4), fun t2 nt2 => ?_⟩⟩
          have s5 := same_new (o := .tup xs) nt2
          exact q _ _ (.tuple ds) (k04.trans (Keep.of_same s5)) ((hB4.same s5).mono (by omega)) okm (by show PyData.depthAll ds + 1 ≤ _; omega) (by show 3 + wtAll ds ≤ _; omega) (.tup (.inl (.inl (off_get ((hS2.keep k24 hB4).new nt2) upd_same))) (dpa_same (off_same s5) hA4))
        · exact ⟨.ref l, rfl, q _ _ (.list ds) k04 (hB4.mono (by omega)) okm (by show PyData.depthAll ds + 1 ≤ _; omega) (by show 3 + wtAll ds ≤ _; omega) (.lst (.inl (.inl (off_get lS el4))) hA4)⟩
      -- four ways to change
      have hq4 : Sq K H4 a xs := (hq.same (off_keep hSb k24)).same off_le
      have toF : ∀ {Hf : Hp}, (∀ x o, x ≠ b → x ≠ l → H4 x = some o → Hf x = some o) → Same (off S H2) (off S Hf) := fun {Hf} hh x o hx => by
        have hx2 : H2 x = some o := off_le _ _ hx
        have nS : ¬ S x := fun z => by unfold off at hx; rw [if_pos z] at hx; cases hx
        have xb : x ≠ b := fun z => nS (z ▸ hSb)
        exact off_get nS (hh x o xb (ne_of_none hx2 nl) (k24 _ _ xb hx2))
      have toK : ∀ {Hf : Hp}, (∀ x o, x ≠ b → x ≠ l → H4 x = some o → Hf x = some o) → Keep b H Hf := fun {Hf} hh x o xb hx => hh x o xb (ne_of_none (k2 _ _ xb hx) nl) (k04 _ _ xb hx)
      obtain ⟨v1, e1⟩ := get_some (l := xs) (i := j) (by omega)
      obtain ⟨d1, f1, hd1'⟩ := dpa_get hA e1
      have m1 := List.mem_of_getElem? f1
      have w1 := wtAll_get f1
      have hin : ∀ {y : PyData}, y ∈ ds → okD (B + 1) y ∧ y.depth ≤ PyData.depthAll ds + 2 := fun hy => ⟨okAll_iff.mp okm _ hy, by have := depth_mem hy; omega⟩
      refine ⟨_, rfl, rfl, _, rfl, ite2 (fun g6 => ?xv1c) (fun g6 => ?xv2c)⟩
      case' xv2c => refine ⟨_, rfl, rfl, _, rfl, ite2 (fun g7 => ?xv3c) (fun g7 => ?xv4c)⟩
      case' xv4c => refine ⟨_, rfl, rfl, _, rfl, ite2 (fun g8 => ?xv5c) (fun g8 => ?xv6c)⟩
      case' xv1c =>
        refine ⟨.ref l, rfl, _, rfl, _, rfl, l, _, rfl, .inl (.inl el4), fun p1 np1 => ?_⟩
        rw [cut_to]
        refine ⟨.ref l, rfl, _, rfl, _, _, rfl, rfl, _, rfl, l, _, rfl, .inl (.inl (same_new np1 _ _ el4)), fun p2 np2 => ?_⟩
        rw [show ((j : Int) + 1) = ((j + 1 : Nat) : Int) by omega, cut_from]
        refine ⟨p1, p2, _, _, rfl, rfl, same_new np2 _ _ upd_same, upd_same, xsz (by rw [List.length_take, List.length_drop]; omega), fun lf np3 => ?_⟩
        have s6 := ((same_new (o := .lst (xs.take j)) np1).trans (same_new (o := .lst (xs.drop (j + 1))) np2)).trans (same_new (o := .lst (xs.take j ++ xs.drop (j + 1))) np3)
        have kf := k04.trans (Keep.of_same s6)
        have hBf : Box n _ b := (hB4.same s6).mono (by omega)
        have ef : (upd (upd (upd H4 p1 (.lst (xs.take j))) p2 (.lst (xs.drop (j + 1)))) lf (.lst (xs.take j ++ xs.drop (j + 1)))) lf = some (.lst (xs.take j ++ xs.drop (j + 1))) := upd_same
        have fS : ¬ S lf := ((hS2.keep k24 hB4).same ((same_new np1).trans (same_new np2))).new np3
        have Af := dpa_same (off_same (S := S) s6) (dpa_app (dpa_take j hA4) (dpa_drop (j + 1) hA4))
        have hef := dp_same s6 he4
        have df : ∀ y ∈ ds.take j ++ ds.drop (j + 1), okD (B + 1) y ∧ y.depth ≤ PyData.depthAll ds + 2 := fun y hy => hin (by
          rcases List.mem_append.mp hy with z | z
          · exact List.mem_of_mem_take z
          · exact List.mem_of_mem_drop z)
        have wf : wtAll (ds.take j ++ ds.drop (j + 1)) ≤ 2 * wtAll ds + 1100 := by
          rw [wtAll_app]
          have x1 := wt_take ds j
          have x2 := wt_drop ds (j + 1)
          omega
        revert kf hBf ef fS Af hef df wf
        clear s6 np3
        generalize upd (upd (upd H4 p1 (.lst (xs.take j))) p2 (.lst (xs.drop (j + 1)))) lf (.lst (xs.take j ++ xs.drop (j + 1))) = Hf
        generalize xs.take j ++ xs.drop (j + 1) = vsf
        generalize ds.take j ++ ds.drop (j + 1) = dsf
      case' xv3c =>
        refine ⟨.ref l, rfl, _, rfl, _, _, rfl, rfl, _, rfl, l, _, rfl, .inl (.inl el4), fun p1 np1 => ?_⟩
        rw [show ((j : Int) + 1) = ((j + 1 : Nat) : Int) by omega, cut_to]
        refine ⟨.ref l, rfl, _, rfl, _, rfl, l, _, rfl, .inl (.inl (same_new np1 _ _ el4)), fun p2 np2 => ?_⟩
        rw [cut_from]
        refine ⟨p1, p2, _, _, rfl, rfl, same_new np2 _ _ upd_same, upd_same, xsz (by rw [List.length_take, List.length_drop]; omega), fun lf np3 => ?_⟩
        have s6 := ((same_new (o := .lst (xs.take (j + 1))) np1).trans (same_new (o := .lst (xs.drop j)) np2)).trans (same_new (o := .lst (xs.take (j + 1) ++ xs.drop j)) np3)
        have kf := k04.trans (Keep.of_same s6)
        have hBf : Box n _ b := (hB4.same s6).mono (by omega)
        have ef : (upd (upd (upd H4 p1 (.lst (xs.take (j + 1)))) p2 (.lst (xs.drop j))) lf (.lst (xs.take (j + 1) ++ xs.drop j))) lf = some (.lst (xs.take (j + 1) ++ xs.drop j)) := upd_same
        have fS : ¬ S lf := ((hS2.keep k24 hB4).same ((same_new np1).trans (same_new np2))).new np3
        have Af := dpa_same (off_same (S := S) s6) (dpa_app (dpa_take (j + 1) hA4) (dpa_drop j hA4))
        have hef := dp_same s6 he4
        have df : ∀ y ∈ ds.take (j + 1) ++ ds.drop j, okD (B + 1) y ∧ y.depth ≤ PyData.depthAll ds + 2 := fun y hy => hin (by
          rcases List.mem_append.mp hy with z | z
          · exact List.mem_of_mem_take z
          · exact List.mem_of_mem_drop z)
        have wf : wtAll (ds.take (j + 1) ++ ds.drop j) ≤ 2 * wtAll ds + 1100 := by
          rw [wtAll_app]
          have x1 := wt_take ds (j + 1)
          have x2 := wt_drop ds j
          omega
        revert kf hBf ef fS Af hef df wf
        clear s6 np3
        generalize upd (upd (upd H4 p1 (.lst (xs.take (j + 1)))) p2 (.lst (xs.drop j))) lf (.lst (xs.take (j + 1) ++ xs.drop j)) = Hf
        generalize xs.take (j + 1) ++ xs.drop j = vsf
        generalize ds.take (j + 1) ++ ds.drop j = dsf
      case' xv5c =>
        refine ⟨.ref b, rfl, .ref a, rfl, a, _, rfl, hq4, b, n + 3 * k + 5, (xs.length : Int), rfl, hB4, by omega, by omega, fun r3 H5 r30 r31 hB5 k5 => ?_⟩
        obtain ⟨j3, rfl⟩ := Int.eq_ofNat_of_zero_le r30
        have el5 : H5 l = some (.lst xs) := k5 _ _ lb el4
        obtain ⟨v3, e3⟩ := get_some (l := xs) (i := j3) (by omega)
        obtain ⟨d3, f3, hd3⟩ := dpa_get hA e3
        have m3 := List.mem_of_getElem? f3
        refine ⟨.ref l, rfl, _, rfl, l, _, _, v3, rfl, rfl, .inl (.inl el5), atI_nat e3, .ref l, rfl, _, rfl, l, _, _, v1, rfl, rfl, .inl (.inl el5), atI_nat e1, by show 2 ≤ sizeLine; decide, fun tp ntp => ?_⟩
        have lt : l ≠ tp := ne_of_none el5 ntp
        refine ⟨tp, _, rfl, .inl (.inl upd_same), rfl, _, _, rfl, .ref l, rfl, _, rfl, l, _, _, j, rfl, rfl, same_new ntp _ _ el5, ixN_nat (by omega), _, _, rfl, .ref l, rfl, _, rfl, l, _, _, j3, rfl, rfl, upd_same, ixN_nat (by rw [List.length_set]; omega), rfl, ?_⟩
        have hh : ∀ x o, x ≠ b → x ≠ l → H4 x = some o → (upd (upd (upd H5 tp (.tup [v3, v1])) l (.lst (xs.set j v3))) l (.lst ((xs.set j v3).set j3 v1))) x = some o := fun x o xb xl hx => by
          rw [upd_ne xl, upd_ne xl]
          exact same_new ntp _ _ (k5 _ _ xb hx)
        have kf := toK hh
        have bl : b ≠ l := lb.symm
        have hBf : Box n (upd (upd (upd H5 tp (.tup [v3, v1])) l (.lst (xs.set j v3))) l (.lst ((xs.set j v3).set j3 v1))) b := (((hB5.same (same_new ntp)).keep (c := l) keep_upd bl).keep (c := l) keep_upd bl).mono (by omega)
        have ef : (upd (upd (upd H5 tp (.tup [v3, v1])) l (.lst (xs.set j v3))) l (.lst ((xs.set j v3).set j3 v1))) l = some (.lst ((xs.set j v3).set j3 v1)) := upd_same
        have fS : ¬ S l := lS
        have Af := dpa_set j3 (dpa_set j (dpa_same (toF hh) hA) (dp_same (toF hh) hd3)) (dp_same (toF hh) hd1')
        have hef : Dp K (upd (upd (upd H5 tp (.tup [v3, v1])) l (.lst (xs.set j v3))) l (.lst ((xs.set j v3).set j3 v1))) (.ref a) d := dp_same off_le (dp_same (toF hh) hd2)
        have df : ∀ y ∈ (ds.set j d3).set j3 d1, okD (B + 1) y ∧ y.depth ≤ PyData.depthAll ds + 2 := fun y hy => hin (by
          rcases mem_set hy with z | z
          · rcases mem_set z with z | z
            · exact z
            · rw [z]; exact m3
          · rw [z]; exact m1)
        have wf : wtAll ((ds.set j d3).set j3 d1) ≤ 2 * wtAll ds + 1100 := by
          have x1 := wtAll_set d3 f1
          have f3' : (ds.set j d3)[j3]? = some d3 := by
            by_cases z : j = j3
            · subst z; exact List.getElem?_set_self (by omega)
            · rw [List.getElem?_set_ne z]; exact f3
          have x2 := wtAll_set d1 f3'
          omega
        revert kf hBf ef fS Af hef df wf
        clear hh
        generalize upd (upd (upd H5 tp (.tup [v3, v1])) l (.lst (xs.set j v3))) l (.lst ((xs.set j v3).set j3 v1)) = Hf
        generalize (xs.set j v3).set j3 v1 = vsf
        generalize (ds.set j d3).set j3 d1 = dsf
        generalize l = lf
      case' xv6c =>
        have hS' : Has (fun x => S x ∨ x = l) H4 := fun x hx => by
          rcases hx with z | z
          · exact (hS2.keep k24 hB4) x z
          · rw [z]; exact ⟨_, el4⟩
        have dN : Dp K (off (fun x => S x ∨ x = l) H4) v1 d1 := dp_same (fun x o hx => by
          have hx2 : H2 x = some o := off_le _ _ hx
          have nS : ¬ S x := fun z => by unfold off at hx; rw [if_pos z] at hx; cases hx
          exact off_get (fun z => z.elim nS (ne_of_none hx2 nl)) (k24 _ _ (fun z => nS (z ▸ hSb)) hx2)) hd1'
        have dd1 := depth_mem m1
        refine ⟨.ref b, rfl, .ref l, rfl, _, rfl, l, _, _, v1, rfl, rfl, .inl (.inl el4), atI_nat e1, b, n, (fun x => S x ∨ x = l), v1, d1, B, rfl, hB4.mono (by omega), .inl hSb, hS', dN, okAll_iff.mp okds _ m1, by omega, by omega, by omega, by omega, fun H5 v' d' k5 hB5 o1 o2 o3 o4 => ?_⟩
        have el5 : H5 l = some (.lst xs) := k5 _ _ lb el4
        refine ⟨.ref l, rfl, _, rfl, l, _, _, j, rfl, rfl, el5, ixN_nat (by omega), ?_⟩
        have hh : ∀ x o, x ≠ b → x ≠ l → H4 x = some o → (upd H5 l (.lst (xs.set j v'))) x = some o := fun x o xb xl hx => by
          rw [upd_ne xl]
          exact k5 _ _ xb hx
        have kf := toK hh
        have hBf : Box n (upd H5 l (.lst (xs.set j v'))) b := hB5.keep (c := l) keep_upd lb.symm
        have ef : (upd H5 l (.lst (xs.set j v'))) l = some (.lst (xs.set j v')) := upd_same
        have fS : ¬ S l := lS
        have dv : Dp K (off S (upd H5 l (.lst (xs.set j v')))) v' d' := dp_same (fun x o hx => by
          have hx2 : H5 x = some o := off_le _ _ hx
          have nS : ¬ (S x ∨ x = l) := fun z => by unfold off at hx; rw [if_pos z] at hx; cases hx
          exact off_get (fun z => nS (.inl z)) (by rw [upd_ne (fun z => nS (.inr z))]; exact hx2)) o4
        have Af := dpa_set j (dpa_same (toF hh) hA) dv
        have hef : Dp K (upd H5 l (.lst (xs.set j v'))) (.ref a) d := dp_same off_le (dp_same (toF hh) hd2)
        have df : ∀ y ∈ ds.set j d', okD (B + 1) y ∧ y.depth ≤ PyData.depthAll ds + 2 := fun y hy => by
          rcases mem_set hy with z | z
          · exact hin z
          · rw [z]; exact ⟨o1, by omega⟩
        have wf : wtAll (ds.set j d') ≤ 2 * wtAll ds + 1100 := by
          have x1 := wtAll_set d' f1
          omega
        revert kf hBf ef fS Af hef df wf
        clear hh dv
        generalize upd H5 l (.lst (xs.set j v')) = Hf
        generalize xs.set j v' = vsf
        generalize ds.set j d' = dsf
        generalize l = lf
      all_goals
        intro kf hBf ef fS Af hef df wf
        have okf : okAll (B + 1) dsf := okAll_iff.mpr fun y hy => (df y hy).1
        have dpf : PyData.depthAll dsf ≤ PyData.depthAll ds + 2 := all_depth fun y hy => (df y hy).2
        refine ⟨_, rfl, _, _, _, _, _, rfl, .ty _, dp_ty hef, k_tuple hef, _, rfl, ite2 (fun g9 => ?_) (fun g9 => ?_)⟩
        · refine ⟨.ref lf, rfl, lf, _, rfl, .inl ⟨.inl (.inl ef), fun t2 nt2 => ?_⟩⟩
          have s5 := same_new (o := .tup vsf) nt2
          exact q _ _ (.tuple dsf) (kf.trans (Keep.of_same s5)) (hBf.same s5) okf (by show PyData.depthAll dsf + 1 ≤ _; omega) (by show 3 + wtAll dsf ≤ _; omega) (.tup (.inl (.inl (off_get ((hS.keep kf hBf).new nt2) upd_same))) (dpa_same (off_same s5) Af))
        · exact ⟨.ref lf, rfl, q _ _ (.list dsf) kf hBf okf (by show PyData.depthAll dsf + 1 ≤ _; omega) (by show 3 + wtAll dsf ≤ _; omega) (.lst (.inl (.inl (off_get fS ef))) Af)⟩
theorem ok_changed (T : Env K mg) : ∀ k : Nat, FnOk P w K mg base CX0 (3 + k) T.f_changed T.d_changed ["_law_box_here", "_law_matter"] (spChanged K k)
  | 0 => fn_never fun vs H Q E h => by
    obtain ⟨b, n, S, v, d, B, _, _, _, _, _, _, _, _, hd, _⟩ := h
    exact absurd hd (Nat.not_lt_zero _)
  | k + 1 => changed_step T k (ok_changed T k)
end
end Pc
namespace Pc
open PySem PySem.Spec PyProof.Rows L2 RZ
/-! ### tuple(range(i, j, c)) -/
def rgC (i c : Int) (n : Nat) : List V := (List.range n).map fun k => V.int (i + (k : Nat) * c)
def rgCD (i c : Int) (n : Nat) : List PyData := (List.range n).map fun k => PyData.int (i + (k : Nat) * c)
theorem dpa_map {K : PySem.W.Frag} {H : Hp} (g : Nat → Int) : ∀ l : List Nat, DpAll K H (l.map fun k => V.int (g k)) (l.map fun k => PyData.int (g k))
  | [] => .nil
  | _ :: r => .cons (.int _) (dpa_map g r)
theorem dpa_rgC {K : PySem.W.Frag} {H : Hp} (i c : Int) (n : Nat) : DpAll K H (rgC i c n) (rgCD i c n) := dpa_map (fun k => i + (k : Nat) * c) _
theorem wt_ints (g : Nat → Int) : ∀ l : List Nat, wtAll (l.map fun k => PyData.int (g k)) = 132 * l.length
  | [] => rfl
  | x :: r => by show 130 + 2 + wtAll (r.map fun k => PyData.int (g k)) = 132 * (r.length + 1); rw [wt_ints g r]; omega
theorem wt_rgCD (i c : Int) (n : Nat) : wtAll (rgCD i c n) = 132 * n := by unfold rgCD; rw [wt_ints, List.length_range]
theorem depth_rgCD (i c : Int) (n : Nat) : PyData.depthAll (rgCD i c n) ≤ 0 := all_depth fun d hd => by
  obtain ⟨k, _, rfl⟩ := List.mem_map.mp hd
  exact Nat.le_refl _
def tTupRgC (ta : TA) : TE := fun σ H Q => ta σ H fun vs H1 => ∃ (i j c : Int) (n : Nat), vs = [.int i, .int j, .int c] ∧ RgC i j c n ∧ n ≤ 2 ^ 20 ∧ ∀ q, H1 q = none → Q (.ref q) (upd H1 q (.tup (rgC i c n)))
theorem vals_rgC {i c : Int} {n : Nat} {acc : Array Value} (h : ItemsOf (fun k v => ∃ t, v = .int (i + k * c) t) acc n) : Vals (rgC i c n) acc.toList := by
  have e : acc.toList.length = n := by rw [Array.length_toList]; exact h.1
  unfold rgC
  rw [← e]
  refine vals_of_get acc.toList _ fun j u hj => ?_
  obtain ⟨t, rfl⟩ := h.2 j u (by rw [← hj, Array.getElem?_toList])
  exact ⟨t, rfl⟩
theorem pe_tupRgC {X : Cx} {a b c : Expr} {ta : TA} {p pos p2 pos2 : Pos} (hc : X.calm = true) (hg : Gl X "tuple") (hm : X.mg "tuple" = none) (hg2 : Gl X "range") (hm2 : X.mg "range" = none) (ha : PA X [a, b, c] ta)
    (na : starEach [.Call (.Name "range" p2) [a, b, c] [] pos2] X.env = (false, eval (.Call (.Name "range" p2) [a, b, c] [] pos2) X.env) :: starEach [] X.env := by rfl)
    (hs : starEach [a, b, c] X.env = (false, eval a X.env) :: starEach [b, c] X.env := by rfl) (hpl : (backTo pos2 (starEach [b, c] X.env)).any (·.1) = false := by rfl) :
    PE X (.Call (.Name "tuple" p) [.Call (.Name "range" p2) [a, b, c] [] pos2] [] pos) (tTupRgC ta) := by
  refine ⟨fun pins s σ H Q I h => ?_⟩
  refine Call_ (ld_blt I hg hm boot_tuple (PyProof.Rows.callWith_type1 (args_cons ?_ na) na))
  refine Call_ (ld_blt I hg2 hm2 boot_range (PyProof.Rows.callWith_type1 (thn (ha.run pos2 pins s σ H _ I h) fun us s1 ⟨vs, H1, I1, r1, q1⟩ => ?_) hs hpl))
  obtain ⟨i, j, k, n, e, ⟨c0, c1, c2, c3⟩, hn, q⟩ := q1
  subst e
  cases r1 with
  | cons r rr =>
    cases rr with
    | cons r' rr =>
      cases rr with
      | cons r'' rr =>
        cases rr
        obtain ⟨t, rfl⟩ := r
        obtain ⟨t', rfl⟩ := r'
        obtain ⟨t'', rfl⟩ := r''
        refine call_range_3 c0 ?_ (.inl (PyProof.noPylong_small c1))
        refine args_nil ?_
        have I2 : Inv X pins σ H1 { s1 with heap := s1.heap.push { cls := .type "range", data := .fields #[.int i t, .int j t', .int k t''] } } := I1.kept (t' := s1.toks) fun b o e => Heap.get?_push_of_some _ e
        refine call_tuple_range (n := n) (I2.ok.hd hc) (IsRange.new ..) c2 c3 (Nat.le_trans hn (by decide)) fun h' tk acc hk hi => ?_
        have I3 := I2.kept (t' := tk) hk
        refine ⟨.ref h'.objs.size, upd H1 h'.objs.size (.tup (rgC i k n)), I3.laid (t' := tk) (fun c o e => Heap.get?_push_of_some _ e) (Nat.le_refl _) (show ObjOk X.prog X.w _ _ _ (.tup (rgC i k n)) from ⟨?_, acc.toList, vals_rgC hi, ?_⟩), rfl, q _ (I3.hok.fresh (Nat.le_refl _))⟩
        · unfold rgC; rw [List.length_map, List.length_range, sizeLine_eq]; omega
        · rw [Array.toArray_toList]; exact IsTup.new _ _
/-! ### repr of any data -/
theorem call_reprV {X : Cx} (hgd : X.A.guards = some []) (hu : X.A.units + 64 < cLine) : CallR X (.builtin "repr") (fun xs H Q => ∃ (v : V) (d : PyData), xs = [v] ∧ Dp X.K H v d ∧ d.canLay0 = true ∧ d.showable = true ∧ d.depth ≤ 60 ∧ d.shown.length ≤ sizeLine ∧ Q (.str d.shown) H) := by
  intro pins s σ H xs us Q I r h
  obtain ⟨v, d, rfl, hd, hl, hs, hdp, hz, q⟩ := h
  obtain ⟨u, rfl, ru⟩ := vals1 r
  cases hd with
  | non => cases ru; exact PySem.P.repr_of_none ⟨.str _, H, I.tok _, ⟨_, rfl⟩, q⟩
  | bl b => cases ru; exact PySem.P.repr_of_bool ⟨.str _, H, I.tok _, ⟨_, rfl⟩, q⟩
  | int i =>
    obtain ⟨t, rfl⟩ := ru
    exact PySem.P.repr_of_int (of_decide_eq_true hs) ⟨.str _, H, I.tok _, ⟨_, rfl⟩, q⟩
  | str x =>
    obtain ⟨t, rfl⟩ := ru
    exact PySem.P.repr_of_str ⟨.str _, H, I.tok _, ⟨_, rfl⟩, q⟩ hz
  | lst hS hA =>
    exact call_reprD hgd hu pins s σ H _ _ Q I r ⟨_, _, rfl, .lst hS hA, hl, hs, hdp, hz, q⟩
  | tup hS hA =>
    exact call_reprD hgd hu pins s σ H _ _ Q I r ⟨_, _, rfl, .tup hS hA, hl, hs, hdp, hz, q⟩
end Pc
namespace Pc
open PySem PySem.Spec PyProof.Rows L2 RZ
/-- data as it is drawn here -/
structure Nice (d : PyData) : Prop where
  ok : okD (2 ^ 100 + 2) d
  dep : d.depth ≤ 5
  wt_ : wt d ≤ 20000
theorem Nice.fine {d : PyData} (h : Nice d) : Fine 5 20000 d := okD_fine (by decide) h.ok h.wt_ (by decide) h.dep
def NiceAll (K : PySem.W.Frag) (S : Addr → Prop) (H : Hp) (vs : List V) : Prop := ∀ v ∈ vs, ∃ d, Dp K (off S H) v d ∧ Nice d
theorem NiceAll.mono {K : PySem.W.Frag} {S : Addr → Prop} {H H' : Hp} {vs : List V} (h : NiceAll K S H vs) (s : Same (off S H) (off S H')) : NiceAll K S H' vs := fun v hv => by
  obtain ⟨d, h1, h2⟩ := h v hv
  exact ⟨d, dp_same s h1, h2⟩
theorem NiceAll.snoc {K : PySem.W.Frag} {S : Addr → Prop} {H : Hp} {vs : List V} {v : V} {d : PyData} (h : NiceAll K S H vs) (hd : Dp K (off S H) v d) (hn : Nice d) : NiceAll K S H (vs ++ [v]) := fun x hx => by
  rcases List.mem_append.mp hx with z | z
  · exact h x z
  · rw [List.mem_singleton.mp z]; exact ⟨d, hd, hn⟩
theorem nice_nd {l : List Nat} {n : Nat} (h : ∀ i ∈ l, i < n) (hl : l.length ≤ 100) (hn : n ≤ 1000) : okAll (2 ^ 100 + 2) (nd l) ∧ PyData.depthAll (nd l) ≤ 0 ∧ wtAll (nd l) ≤ 13200 := by
  refine ⟨okAll_iff.mpr fun x hx => ?_, all_depth fun d hd => ?_, ?_⟩
  · obtain ⟨i, hi, rfl⟩ := List.mem_map.mp hx
    have := h i hi
    show ((i : Int)).natAbs ≤ 2 ^ 100 + 2
    have e : ((i : Int)).natAbs = i := Int.natAbs_natCast i
    have : (1000 : Nat) ≤ 2 ^ 100 := by decide
    omega
  · obtain ⟨i, _, rfl⟩ := List.mem_map.mp hd
    exact Nat.le_refl _
  · rw [wtAll_nd]; omega
theorem nice_rg {i c : Int} {n : Nat} (h : ∀ k : Nat, k < n → (i + (k : Nat) * c).natAbs ≤ 100) (hn : n ≤ 60) : Nice (.tuple (rgCD i c n)) := by
  refine ⟨?_, ?_, ?_⟩
  · show okAll (2 ^ 100 + 2) (rgCD i c n)
    refine okAll_iff.mpr fun x hx => ?_
    obtain ⟨k, hk, rfl⟩ := List.mem_map.mp hx
    have := h k (List.mem_range.mp hk)
    exact Nat.le_trans this (by decide)
  · have := depth_rgCD i c n
    show PyData.depthAll (rgCD i c n) + 1 ≤ 5
    omega
  · show 3 + wtAll (rgCD i c n) ≤ 20000
    rw [wt_rgCD]; omega
section
variable {P : Program} {w : World} {K : PySem.W.Frag} {mg : Str → Option Value} {base : Heap}
/-! ### values of every kind -/
def spRight : Sp := fun vs H Q _ => ∃ (b : Addr) (n : Nat), vs = [.ref b] ∧ Box (n + 1000) H b ∧ ∀ H', Keep b H H' → Box n H' b → Q (.bl true) H'
theorem kw_is_pairing (T : Env K mg) : ∀ (s : Shared) (ws : List Value), ws.length = (["value"] : List Str).length → BindsTo s T.d_p_is_pairing ⟨[], (["value"] : List Str).zip ws⟩ ((["value"] : List Str).zip (id ws)) :=
  kw_to T.F_p_is_pairing fun _ _ _ _ _ _ ws hl => match ws, hl with | [_], _ => rfl
theorem ok_right (T : Env K mg) : FnG P w K mg base CX0 8 T.f_right T.d_right ["_law_box_here"] spRight := by
  have GT : FnOk P w K mg base CX0 1 T.f_take T.d_take ["_law_box_here", "_law_span"] spTake := ok_take T
  have GR : FnOk P w K mg base CX0 3 T.f_random T.d_random ["_law_box_here", "_law_count"] spRandom := ok_random T
  have GA : FnOk P w K mg base CX0 3 T.f_anything T.d_anything ["_law_box_here"] (spAnything K) := ok_anything T
  have GC : FnOk P w K mg base CX0 7 T.f_changed T.d_changed ["_law_box_here", "_law_matter"] (spChanged K 4) := ok_changed T 4
  have GD : FnOk P w K mg base CX0 1 T.f_is_due T.d_is_due ["_law_matter"] (spIsPairing K) := ok_is_due T
  have GP : FnOk P w K mg base CX0 3 T.f_p_is_pairing T.d_p_is_pairing ["value"] (spIsPairing K) := ok_p_is_pairing T
  have GE : FnOk P w K mg base CX0 2 T.f_same T.d_same ["_law_found", "_law_due"] (spSame K 2) := ok_same T 2
  refine fun_g T.F_right sc_right (fun vs H Q E h => ?_) (fun cdv A outer s H vs Q E hr hgd h => ?_)
  · obtain ⟨b, n, rfl, _⟩ := h
    rfl
  · obtain ⟨b, n, rfl, hB, q⟩ := h
    have h1 := hr.mono (show 1 ≤ 7 by decide)
    have h2 := hr.mono (show 2 ≤ 7 by decide)
    have h3 := hr.mono (show 3 ≤ 7 by decide)
    refine ⟨_, pss_cons (ps_set (i := 1) sc_right.nd rfl (.inl rfl) (pe_call GR h3 (by rfl) T.g_random T.F_random.kp T.b_random .nil pass0 (pa_cons (pv 0) (pa_cons (pe_op op_add pe_int (pe_op op_mul pe_int (pe_call GT h1 (by rfl) T.g_take T.F_take.kp T.b_take .nil pass0 (pa_cons (pv 0) (pa_cons pe_int pa_nil))))) pa_nil)))) <|
      pss_cons (ps_set (i := 2) sc_right.nd rfl (.inl rfl) (pe_lst (pa_cons (pe_tup pa_nil) (pa_cons (pv 1) (pa_cons (pe_callTy call_list_of (by rfl) T.n_list (by decide +kernel) (pa_cons (pv 1) pa_nil))
        (pa_cons (pe_tupRgC rfl (by rfl) T.n_tuple (by rfl) T.n_range (pa_cons pe_int (pa_cons (pe_un un_neg pe_int) (pa_cons (pe_un un_neg pe_int) pa_nil))))
        (pa_cons (pe_tupRgC rfl (by rfl) T.n_tuple (by rfl) T.n_range (pa_cons pe_int (pa_cons (pe_un un_neg pe_int) (pa_cons (pe_un un_neg pe_int) pa_nil))))
        (pa_cons (pe_tupRg rfl (by rfl) T.n_tuple (prg_1 (by rfl) T.n_range pe_int)) pa_nil)))))))) <|
      pss_cons (ps_set (i := 2) sc_right.nd rfl (.inl rfl) (pe_op op_cat (pv 2) (pe_lc (own := [("_law_turn", 3)]) (g := gName 3) (tt := tYes) (te := tCall (spAnything K) [] E0 (tCons (tVar 0) tNil)) rfl sc_right.nd (pi_range1 (by rfl) T.n_range (pa_cons pe_int pa_nil)) (blkOk_by (N := N_right) (sc := defScope s_right) (by decide +kernel))
        (fun _ _ _ _ _ => pg_name (i := 3) sc_right.nd rfl (.inl rfl)) (fun _ _ _ _ _ => pts_nil) (fun _ _ _ _ _ => pe_call GA h3 (by rfl) T.g_anything T.F_anything.kp T.b_anything .nil pass0 (pa_cons (pv 0) pa_nil))))) <|
      pss_cons (ps_for PassesOwn.never rfl (pi_range1 (by rfl) T.n_range (pa_cons pe_int pa_nil)) (pg_name (i := 3) sc_right.nd rfl (.inl rfl))
        (pss_cons (ps_set (i := 4) sc_right.nd rfl (.inl rfl) (pe_call GC hr (by rfl) T.g_changed T.F_changed.kp T.b_changed .nil pass0 (pa_cons (pv 0) (pa_cons (pv 1) pa_nil)))) <|
        pss_one (ps_expr (pe_bm PySem.F.plainAttrs_list PySem.F.slot_list_append PySem.F.type_list_append mt_append (pv 2) (pa_cons
          (pe_ifExp (pt_cmpR op_eq (pe_call GT h1 (by rfl) T.g_take T.F_take.kp T.b_take .nil pass0 (pa_cons (pv 0) (pa_cons pe_int pa_nil))) pe_int (nomark _)) (pe_call GC hr (by rfl) T.g_changed T.F_changed.kp T.b_changed .nil pass0 (pa_cons (pv 0) (pa_cons (pv 4) pa_nil))) (pv 4)) pa_nil))))) <|
      pss_cons (ps_for PassesOwn.never rfl (pi_list (pv 2)) (pg_name (i := 5) sc_right.nd rfl (.inl rfl))
        (pss_cons (ps_par (by rfl) sc_right.nd (i := 6) (j := 7) rfl rfl (by decide) rfl rfl (pa_cons (pe_callB (call_reprV hgd hr.units) (by rfl) T.n_repr (by decide +kernel) (pa_cons (pv 5) pa_nil)) (pa_cons (pe_call GD h1 (by rfl) T.g_is_due T.F_is_due.kp T.b_is_due .nil pass0 (pa_cons (pv 5) pa_nil)) pa_nil)) (by rfl)) <|
        pss_one (ps_if (PW.pt (pw_or (pt_not (pt_val (pe_call GE h2 (by rfl) T.g_same T.F_same.kp T.b_same .nil pass0 (pa_cons (pe_lst (pa_cons (pe_call GP h3 (by rfl) T.g_p_is_pairing T.F_p_is_pairing.kp T.b_p_is_pairing .nil pass0 (pa_cons (pv 5) pa_nil))
            (pa_cons (pe_kw (gV := id) GP h3 (by rfl) T.g_p_is_pairing T.F_p_is_pairing.kp (kw_is_pairing T) (fun _ r => r) pass0 (pk_cons (pv 5) pk_nil)) pa_nil))) (pa_cons (pe_lst (pa_cons (pv 7) (pa_cons (pv 7) pa_nil))) pa_nil)))))
          (pw_or1 (pt_cmpR op_ne (pe_callB (call_reprV hgd hr.units) (by rfl) T.n_repr (by decide +kernel) (pa_cons (pv 5) pa_nil)) (pv 6) (nomark _))))) (pss_one (ps_ret pe_bl)) pss_nil))) <|
      pss_one (ps_ret pe_bl), ?_⟩
    refine ⟨.ref b, rfl, .ref b, rfl, b, n + 999, 8, rfl, hB, by decide, by decide, fun r Ha r0 r1 hBa ka => ?_⟩
    refine ⟨2, r, rfl, rfl, .inl ⟨by decide, by decide⟩, 2, _, rfl, rfl, ?_⟩
    have eN : (2 + 2 * r : Int) = ((2 + 2 * r.toNat : Nat) : Int) := by omega
    have hn : 2 + 2 * r.toNat ≤ 16 := by omega
    have hn2 : 2 ≤ 2 + 2 * r.toNat := by omega
    have hev : (2 + 2 * r.toNat) % 2 = 0 := by omega
    rw [show (fun i j => V.int (i + j)) 2 ((fun i j => i * j) 2 r) = V.int ((2 + 2 * r.toNat : Nat) : Int) from congrArg V.int eN]
    revert hn hn2 hev
    generalize 2 + 2 * r.toNat = N
    intro hn hn2 hev
    refine ⟨b, n + 900, N, rfl, hBa.mono (by omega), hev, by omega, fun Hc c ps hP kc hBc nc ec => ?_⟩
    have kHc : Keep b H Hc := ka.trans kc
    have cb : c ≠ b := hBc.ne_tup ec
    -- the first six
    refine ⟨by show 0 ≤ sizeLine; decide, fun t0 nt0 => ?_⟩
    have s1 : Same Hc _ := same_new (o := .tup []) nt0
    have t0b : t0 ≠ b := (hBc.ne_new nt0).symm
    refine ⟨.ref c, rfl, .ref c, rfl, c, _, rfl, .inr (.inl (.inl (s1 _ _ ec))), fun lc nlc => ?_⟩
    have s2 := s1.trans (same_new (o := .lst (nv ps)) nlc)
    have lcb : lc ≠ b := ((hBc.same s1).ne_new nlc).symm
    refine ⟨1, rfl, 1, rfl, 21, -1, -1, 22, rfl, RgC.neg (by decide) (by decide) (by decide) (by decide), by decide, fun t1 nt1 => ?_⟩
    have s3 := s2.trans (same_new (o := .tup (rgC 21 (-1) 22)) nt1)
    have t1b : t1 ≠ b := ((hBc.same s2).ne_new nt1).symm
    refine ⟨1, rfl, 1, rfl, 59, -1, -1, 60, rfl, RgC.neg (by decide) (by decide) (by decide) (by decide), by decide, fun t2 nt2 => ?_⟩
    have s4 := s3.trans (same_new (o := .tup (rgC 59 (-1) 60)) nt2)
    have t2b : t2 ≠ b := ((hBc.same s3).ne_new nt2).symm
    refine ⟨60, rfl, RgOk.of_le (by decide) (by decide) (by decide) (by decide), fun t3 nt3 => ?_⟩
    have s5 := s4.trans (same_new (o := .tup (rgV 0 60)) nt3)
    have t3b : t3 ≠ b := ((hBc.same s4).ne_new nt3).symm
    refine ⟨by show 6 ≤ sizeLine; decide, fun l1 nl1 => ?_⟩
    have s6 := s5.trans (same_new (o := .lst [.ref t0, .ref c, .ref lc, .ref t1, .ref t2, .ref t3]) nl1)
    have l1b : l1 ≠ b := ((hBc.same s5).ne_new nl1).symm
    have z5 := same_new (o := .lst [.ref t0, .ref c, .ref lc, .ref t1, .ref t2, .ref t3]) nl1
    have z4 := (same_new (o := .tup (rgV 0 60)) nt3).trans z5
    have z3 := (same_new (o := .tup (rgC 59 (-1) 60)) nt2).trans z4
    have z2 := (same_new (o := .tup (rgC 21 (-1) 22)) nt1).trans z3
    have z1 := (same_new (o := .lst (nv ps)) nlc).trans z2
    have w0 := z1 _ _ (upd_same (H := Hc) (a := t0) (o := .tup []))
    have wc := s6 _ _ ec
    have wl := z2 _ _ (upd_same (a := lc) (o := .lst (nv ps)))
    have w1 := z3 _ _ (upd_same (a := t1) (o := .tup (rgC 21 (-1) 22)))
    have w2 := z4 _ _ (upd_same (a := t2) (o := .tup (rgC 59 (-1) 60)))
    have w3 := z5 _ _ (upd_same (a := t3) (o := .tup (rgV 0 60)))
    have e1 : (upd (upd (upd (upd (upd (upd Hc t0 (.tup [])) lc (.lst (nv ps))) t1 (.tup (rgC 21 (-1) 22))) t2 (.tup (rgC 59 (-1) 60))) t3 (.tup (rgV 0 60))) l1 (.lst [.ref t0, .ref c, .ref lc, .ref t1, .ref t2, .ref t3])) l1 = some (.lst [.ref t0, .ref c, .ref lc, .ref t1, .ref t2, .ref t3]) := upd_same
    revert s6 w0 wc wl w1 w2 w3 e1
    clear z1 z2 z3 z4 z5 s5 s4 s3 s2
    generalize upd (upd (upd (upd (upd (upd Hc t0 (.tup [])) lc (.lst (nv ps))) t1 (.tup (rgC 21 (-1) 22))) t2 (.tup (rgC 59 (-1) 60))) t3 (.tup (rgV 0 60))) l1 (.lst [.ref t0, .ref c, .ref lc, .ref t1, .ref t2, .ref t3]) = Hd
    intro s6 w0 wc wl w1 w2 w3 e1
    obtain ⟨n1, n2, n3⟩ := nice_nd (fun i hi => hP.lt i hi) (by rw [hP.len]; omega) (show N ≤ 1000 by omega)
    have hN6 : NiceAll K (fun x => x = b) Hd [.ref t0, .ref c, .ref lc, .ref t1, .ref t2, .ref t3] := fun v hv => by
      have g : ∀ {a : Addr} {o : HO}, a ≠ b → Hd a = some o → off (fun x => x = b) Hd a = some o := fun h e => off_get h e
      simp only [List.mem_cons, List.not_mem_nil, or_false] at hv
      rcases hv with z | z | z | z | z | z
      · rw [z]; exact ⟨.tuple [], .tup (.inl (.inl (g t0b w0))) .nil, ⟨trivial, by decide, by decide⟩⟩
      · rw [z]; exact ⟨.tuple (nd ps), .tup (.inl (.inl (g cb wc))) (dp_nats ps), ⟨n1, by show PyData.depthAll (nd ps) + 1 ≤ 5; omega, by show 3 + wtAll (nd ps) ≤ 20000; omega⟩⟩
      · rw [z]; exact ⟨.list (nd ps), .lst (.inl (.inl (g lcb wl))) (dp_nats ps), ⟨n1, by show PyData.depthAll (nd ps) + 1 ≤ 5; omega, by show 3 + wtAll (nd ps) ≤ 20000; omega⟩⟩
      · rw [z]; exact ⟨.tuple (rgCD 21 (-1) 22), .tup (.inl (.inl (g t1b w1))) (dpa_rgC _ _ _), nice_rg (fun k hk => by omega) (by decide)⟩
      · rw [z]; exact ⟨.tuple (rgCD 59 (-1) 60), .tup (.inl (.inl (g t2b w2))) (dpa_rgC _ _ _), nice_rg (fun k hk => by omega) (by decide)⟩
      · rw [z]
        obtain ⟨m1, m2, m3⟩ := nice_nd (l := List.range 60) (n := 60) (fun i hi => List.mem_range.mp hi) (by decide) (by decide)
        refine ⟨.tuple (nd (List.range 60)), .tup (.inl (.inl (g t3b w3))) (by rw [show (60 : Int) = ((60 : Nat) : Int) from rfl, rg_nv]; exact dp_nats _), ⟨m1, by show PyData.depthAll (nd (List.range 60)) + 1 ≤ 5; omega, by show 3 + wtAll (nd (List.range 60)) ≤ 20000; omega⟩⟩
    have kHd : Keep b H Hd := kHc.trans (Keep.of_same s6)
    have hBd := hBc.same s6
    -- six of any kind
    refine ⟨.ref l1, rfl, 6, rfl, by decide, by decide, fun D nD => ?_⟩
    have Db : D ≠ b := (hBd.ne_new nD).symm
    refine lc_range (n := 6) (fun j H' => Keep b Hd H' ∧ Box (n + 850 + (6 - j)) H' b ∧ ∃ vs : List V, H' D = some (.lst vs) ∧ vs.length = j ∧ NiceAll K (fun x => x = b ∨ x = D) H' vs)
      ⟨Keep.of_same (same_new nD), (hBd.same (same_new nD)).mono (by omega), [], upd_same, rfl, fun v hv => by simp at hv⟩ (fun j H1 hj hPv => ?_) (fun He hPv => ?_)
    · obtain ⟨k1, hB1, vs, eD, hl, hN⟩ := hPv
      refine ⟨rfl, yes_if ⟨_, rfl, b, n + 850 + (6 - (j + 1)), (fun x => x = b ∨ x = D), rfl, hB1.mono (by omega), .inl rfl, fun x hx => ?_, fun H2 v d k2 hB2 o1 o2 o3 o4 => ?_⟩⟩
      · rcases hx with z | z
        · rw [z]; obtain ⟨y, hy⟩ := hB1.lst; exact ⟨_, hy⟩
        · rw [z]; exact ⟨_, eD⟩
      have so : Same (off (fun x => x = b ∨ x = D) H2) (off (fun x => x = b ∨ x = D) (upd H2 D (.lst (vs ++ [v])))) := fun x o hx => by
        have hx2 := off_le _ _ hx
        have nS : ¬ (x = b ∨ x = D) := fun z => by unfold off at hx; rw [if_pos z] at hx; cases hx
        exact off_get nS (by rw [upd_ne (fun z => nS (.inr z))]; exact hx2)
      refine ⟨_, k2 _ _ Db eD, small1000 (by omega), fun x o xb hx => ?_, hB2.keep (c := D) keep_upd Db.symm, vs ++ [v], upd_same, by rw [List.length_append, hl]; rfl, ?_⟩
      · rw [upd_ne (ne_of_none hx nD)]; exact k2 _ _ xb (k1 _ _ xb hx)
      · exact ((hN.mono (off_keep (.inl rfl) k2)).snoc o4 ⟨okD_mono (by decide) o1, by omega, by omega⟩).mono so
    obtain ⟨k1, hBe, vsA, eD, hlA, hNA⟩ := hPv
    refine ⟨l1, D, _, _, rfl, rfl, k1 _ _ l1b e1, eD, Nat.le_of_lt (small1000 (by rw [hlA]; show 6 + 6 ≤ 1000; decide)), fun l3 nl3 => ?_⟩
    have l3b : l3 ≠ b := (hBe.ne_new nl3).symm
    have l3H : H l3 = none := by
      cases e : H l3 with
      | none => rfl
      | some o => rw [(kHd.trans k1) _ _ l3b e] at nl3; cases nl3
    have ce : He c = some (.tup (nv ps)) := k1 _ _ cb wc
    have cl3 : c ≠ l3 := ne_of_none ce nl3
    have toS : ∀ {S : Addr → Prop} {Hx : Hp}, S b → (∀ x o, x ≠ b → Hx x = some o → He x = some o) → Same (off S Hx) (off (fun x => x = b ∨ x = l3) (upd He l3 (.lst ([.ref t0, .ref c, .ref lc, .ref t1, .ref t2, .ref t3] ++ vsA)))) := fun {S Hx} hSb hh x o hx => by
      have hx2 := off_le _ _ hx
      have nS : ¬ S x := fun z => by unfold off at hx; rw [if_pos z] at hx; cases hx
      have xb : x ≠ b := fun z => nS (z ▸ hSb)
      have hx3 := hh x o xb hx2
      have xl := ne_of_none hx3 nl3
      exact off_get (fun z => z.elim xb xl) (by rw [upd_ne xl]; exact hx3)
    have hN12 : NiceAll K (fun x => x = b ∨ x = l3) (upd He l3 (.lst ([.ref t0, .ref c, .ref lc, .ref t1, .ref t2, .ref t3] ++ vsA))) ([.ref t0, .ref c, .ref lc, .ref t1, .ref t2, .ref t3] ++ vsA) := fun v hv => by
      rcases List.mem_append.mp hv with z | z
      · obtain ⟨d, g1, g2⟩ := hN6 v z
        exact ⟨d, dp_same (toS (S := fun x => x = b) rfl fun x o xb hx => k1 _ _ xb hx) g1, g2⟩
      · obtain ⟨d, g1, g2⟩ := hNA v z
        exact ⟨d, dp_same (toS (S := fun x => x = b ∨ x = D) (.inl rfl) fun x o xb hx => hx) g1, g2⟩
    have kf : Keep b H (upd He l3 (.lst ([.ref t0, .ref c, .ref lc, .ref t1, .ref t2, .ref t3] ++ vsA))) := (kHd.trans k1).trans (Keep.of_same (same_new nl3))
    have hBf := hBe.same (same_new (o := .lst ([.ref t0, .ref c, .ref lc, .ref t1, .ref t2, .ref t3] ++ vsA)) nl3)
    have ef : (upd He l3 (.lst ([.ref t0, .ref c, .ref lc, .ref t1, .ref t2, .ref t3] ++ vsA))) l3 = some (.lst ([.ref t0, .ref c, .ref lc, .ref t1, .ref t2, .ref t3] ++ vsA)) := upd_same
    have cf : (upd He l3 (.lst ([.ref t0, .ref c, .ref lc, .ref t1, .ref t2, .ref t3] ++ vsA))) c = some (.tup (nv ps)) := by rw [upd_ne cl3]; exact ce
    have lf : ([V.ref t0, .ref c, .ref lc, .ref t1, .ref t2, .ref t3] ++ vsA).length = 12 := by rw [List.length_append, hlA]; rfl
    revert hN12 kf hBf ef cf lf
    clear toS hNA eD
    generalize upd He l3 (.lst ([.ref t0, .ref c, .ref lc, .ref t1, .ref t2, .ref t3] ++ vsA)) = Hf
    generalize [V.ref t0, .ref c, .ref lc, .ref t1, .ref t2, .ref t3] ++ vsA = vs0
    intro hN12 kf hBf ef cf lf
    -- twelve that are changed
    refine ⟨12, rfl, by decide, by decide, ?_⟩
    refine for_range (n := 12) (fun i σ H' => Keep b H H' ∧ Box (n + 60 * (12 - i)) H' b ∧ H' c = some (.tup (nv ps)) ∧ ∃ (vs : List V) (y3 y4 : Option V), σ = [some (.ref b), some (.ref c), some (.ref l3), y3, y4, none, none, none] ∧ H' l3 = some (.lst vs) ∧ vs.length = 12 + i ∧ NiceAll K (fun x => x = b ∨ x = l3) H' vs)
      ⟨kf, hBf.mono (by omega), cf, vs0, none, none, rfl, ef, lf, hN12⟩ (fun i σ H1 hi hPv => ?_) (fun σ Hg hPv => ?_)
    · obtain ⟨k1', hB1, c1, vs, y3, y4, rfl, el, hl, hN⟩ := hPv
      have has : ∀ {H' : Hp} {m : Nat}, Keep b H1 H' → Box m H' b → Has (fun x => x = b ∨ x = l3) H' := fun {H' m} k hB' x hx => by
        rcases hx with z | z
        · rw [z]; obtain ⟨y, hy⟩ := hB'.lst; exact ⟨_, hy⟩
        · rw [z]; exact ⟨_, k _ _ l3b el⟩
      have app : ∀ {H5 : Hp} {v' : V} {d' : PyData} {y3' y4' : Option V}, Keep b H1 H5 → Box (n + 60 * (12 - (i + 1))) H5 b → Dp K (off (fun x => x = b ∨ x = l3) H5) v' d' → Nice d' →
          ∃ (a : Addr) (xs : List V) (v : V), V.ref l3 = .ref a ∧ [v'] = [v] ∧ H5 a = some (.lst xs) ∧ xs.length < sizeLine ∧ (Keep b H (upd H5 a (.lst (xs ++ [v]))) ∧ Box (n + 60 * (12 - (i + 1))) (upd H5 a (.lst (xs ++ [v]))) b ∧ (upd H5 a (.lst (xs ++ [v]))) c = some (.tup (nv ps)) ∧ ∃ (vs : List V) (y3 y4 : Option V), [some (.ref b), some (.ref c), some (.ref l3), y3', y4', none, none, none] = [some (V.ref b), some (.ref c), some (.ref l3), y3, y4, none, none, none] ∧ (upd H5 a (.lst (xs ++ [v]))) l3 = some (.lst vs) ∧ vs.length = 12 + (i + 1) ∧ NiceAll K (fun x => x = b ∨ x = l3) (upd H5 a (.lst (xs ++ [v]))) vs) := fun {H5 v' d' y3' y4'} k5 hB5 hd' hn' => by
        have el5 := k5 _ _ l3b el
        have so : Same (off (fun x => x = b ∨ x = l3) H5) (off (fun x => x = b ∨ x = l3) (upd H5 l3 (.lst (vs ++ [v'])))) := fun x o hx => by
          have hx2 := off_le _ _ hx
          have nS : ¬ (x = b ∨ x = l3) := fun z => by unfold off at hx; rw [if_pos z] at hx; cases hx
          exact off_get nS (by rw [upd_ne (fun z => nS (.inr z))]; exact hx2)
        refine ⟨l3, vs, v', rfl, rfl, el5, small1000 (by omega), fun x o xb hx => ?_, hB5.keep (c := l3) keep_upd l3b.symm, ?_, vs ++ [v'], y3', y4', rfl, upd_same, by rw [List.length_append, hl]; rfl, ((hN.mono (off_keep (.inl rfl) k5)).snoc hd' hn').mono so⟩
        · rw [upd_ne (ne_of_none hx l3H)]; exact k5 _ _ xb (k1' _ _ xb hx)
        · rw [upd_ne cl3]; exact k5 _ _ cb c1
      have wd : wt (.tuple (nd ps)) ≤ 2115 := by show 3 + wtAll (nd ps) ≤ 2115; rw [wtAll_nd, hP.len]; omega
      have dd : (PyData.tuple (nd ps)).depth ≤ 1 := by show PyData.depthAll (nd ps) + 1 ≤ 1; omega
      refine ⟨.ref b, rfl, .ref c, rfl, b, n + 60 * (12 - (i + 1)) + 30, (fun x => x = b ∨ x = l3), .ref c, .tuple (nd ps), 2 ^ 100, rfl, hB1.mono (by omega), .inl rfl, has (Keep.refl b H1) hB1, .tup (.inl (.inl (off_get (fun z => z.elim cb cl3) c1))) (dp_nats ps), ?_, Nat.le_refl _, by decide, by omega, by omega, fun H2 v d k2 hB2 o1 o2 o3 o4 => ?_⟩
      · show okAll (2 ^ 100) (nd ps)
        refine okAll_iff.mpr fun x hx => ?_
        obtain ⟨j, hj, rfl⟩ := List.mem_map.mp hx
        have := hP.lt j hj
        show ((j : Int)).natAbs ≤ 2 ^ 100
        have e : ((j : Int)).natAbs = j := Int.natAbs_natCast j
        have : (1000 : Nat) ≤ 2 ^ 100 := by decide
        omega
      refine ⟨.ref l3, rfl, .inl ⟨rfl, _, .inl (.inl (k2 _ _ l3b el))⟩, .ref b, rfl, b, n + 60 * (12 - (i + 1)) + 29, 3, rfl, hB2, by decide, by decide, fun r3 H3 r30 r31 hB3 k3 => ⟨rfl, _, rfl, ite2 (fun g => ?_) (fun g => ?_)⟩⟩
      · refine ⟨.ref b, rfl, _, rfl, b, n + 60 * (12 - (i + 1)), (fun x => x = b ∨ x = l3), v, d, 2 ^ 100 + 1, rfl, hB3.mono (by omega), .inl rfl, has (k2.trans k3) hB3, dp_same (off_keep (.inl rfl) k3) o4, o1, by decide, by decide, by omega, by omega, fun H4 v' d' k4 hB4 p1 p2 p3 p4 => ?_⟩
        exact app (k2.trans (k3.trans k4)) hB4 p4 ⟨p1, by omega, by omega⟩
      · exact ⟨_, rfl, app (k2.trans k3) (hB3.mono (by omega)) (dp_same (off_keep (.inl rfl) k3) o4) ⟨okD_mono (by decide) o1, by omega, by omega⟩⟩
    -- all of them
    obtain ⟨kg, hBg, _, vs, y3, y4, rfl, el, hl, hN⟩ := hPv
    refine ⟨.ref l3, rfl, l3, rfl, ⟨_, .inl (.inl el)⟩, ?_⟩
    refine for_list (xs := vs) (fun i σ H' => Same Hg H' ∧ ∃ (y5 y6 y7 : Option V), σ = [some (.ref b), some (.ref c), some (.ref l3), y3, y4, y5, y6, y7]) ⟨fun _ _ h => h, none, none, none, rfl⟩ (fun i σ H' _ h => .inl (.inl (h.1 _ _ el))) (fun i x σ H1 hx h => ?_) (fun σ Hh h => ?_)
    · obtain ⟨sm, y5, y6, y7, rfl⟩ := h
      obtain ⟨d, hd0, hnice⟩ := hN x (List.mem_of_getElem? hx)
      have hd : ∀ {H' : Hp}, Same H1 H' → Dp K H' x d := fun s' => dp_same s' (dp_same sm (dp_same off_le hd0))
      have fd := hnice.fine
      have fz : d.shown.length ≤ sizeLine := Nat.le_trans fd.len (by decide)
      have f60 : d.depth ≤ 60 := Nat.le_trans fd.depth (by decide)
      refine ⟨x, rfl, x, d, rfl, hd (fun _ _ h => h), fd.lay, fd.show_, f60, fz, x, rfl, x, d, rfl, hd (fun _ _ h => h), fd.nar, fun H2 s2 => ⟨_, _, rfl, ?_⟩⟩
      refine ⟨x, rfl, x, d, rfl, hd s2, fd.nar, fun H3 s3 => ⟨x, rfl, rfl, x, d, rfl, hd (s2.trans s3), fd.nar, fun H4 s4 => ⟨by show 2 ≤ sizeLine; decide, fun a1 n1' => ⟨_, rfl, _, rfl, by show 2 ≤ sizeLine; decide, fun a2 n2' => ?_⟩⟩⟩⟩
      have u1 := same_new (o := .lst [.bl (isPairB d), .bl (isPairB d)]) n1'
      have u2 := same_new (o := .lst [.bl (isPairB d), .bl (isPairB d)]) n2'
      have sa := s2.trans (s3.trans (s4.trans (u1.trans u2)))
      refine ⟨.ref a1, .ref a2, .list [.bool (isPairB d), .bool (isPairB d)], rfl, .lst (.inl (.inl (u2 _ _ upd_same))) (.cons (.bl _) (.cons (.bl _) .nil)), .lst (.inl (.inl upd_same)) (.cons (.bl _) (.cons (.bl _) .nil)), by show 1 < 2; decide, ⟨by show 2 ≤ 100000; decide, trivial, trivial, trivial⟩, fun H5 s5' => ⟨true, rfl, iteN ?_⟩⟩
      have sb := sa.trans s5'
      refine ⟨x, rfl, x, d, rfl, hd sb, fd.lay, fd.show_, f60, fz, _, rfl, rfl, _, rfl, iteNS rfl ⟨sm.trans sb, _, _, _, rfl⟩⟩
    · obtain ⟨sm, y5, y6, y7, rfl⟩ := h
      exact q _ (kg.trans (Keep.of_same sm)) ((hBg.same sm).mono (by omega))
end
end Pc
namespace Pc
open PySem PySem.Spec PyProof.Rows L2 RZ
section
variable {P : Program} {w : World} {K : PySem.W.Frag} {mg : Str → Option Value} {base : Heap}
/-! ### the law -/
def spLaw (K : PySem.W.Frag) : Sp := fun vs H Q _ => ∃ (a : Addr) (ns : List Int), vs = [.ref a] ∧ SqL K H a (ns.map V.int) ∧ ns.length ≤ 63 ∧ ∀ H', Q (.bl true) H'
theorem ok_law (T : Env K mg) {f : Addr} {fd : FuncData} (F : Fun K "law" "law" s_law f fd) : FnG P w K mg base CX0 9 f fd ["_law_script"] (spLaw K) := by
  have GC : FnOk P w K mg base CX0 1 T.f_cells T.d_cells ["_law_script", "_law_most"] (spCells K) := ok_cells T
  have GB : FnOk P w K mg base CX0 1 T.f_box T.d_box ["_law_script", "_law_k"] (spBox K) := ok_box T
  have GR : FnG P w K mg base CX0 8 T.f_right T.d_right ["_law_box_here"] spRight := ok_right T
  refine fun_g F sc_law (fun vs H Q E h => ?_) (fun cdv A outer s H vs Q E hr hgd h => ?_)
  · obtain ⟨a, ns, rfl, _⟩ := h
    rfl
  · obtain ⟨a, ns, rfl, hS, hn, q⟩ := h
    have h1 := hr.mono (show 1 ≤ 8 by decide)
    refine ⟨_, pss_cons (ps_set (i := 1) sc_law.nd rfl (.inl rfl) (pe_call GC h1 (by rfl) T.g_cells T.F_cells.kp T.b_cells .nil pass0 (pa_cons (pv 0) (pa_cons pe_int pa_nil)))) <|
      pss_cons (ps_for PassesOwn.never rfl (pi_range1 (by rfl) T.n_range (pa_cons (pe_callB call_len_seq (by rfl) T.n_len PySem.boot_len (pa_cons (pv 1) pa_nil)) pa_nil)) (pg_name (i := 2) sc_law.nd rfl (.inl rfl))
        (pss_cons (ps_set (i := 3) sc_law.nd rfl (.inr rfl) (pe_call GB h1 (by rfl) T.g_box T.F_box.kp T.b_box .nil pass0 (pa_cons (pv 1) (pa_cons (pv 2) pa_nil))))
        (pss_one (ps_if (pt_not (pt_val (pe_callB (cr_all rfl) (by rfl) T.n_all (by decide +kernel) (pa_cons
          (pe_lc (own := [("_law_turn", 4)]) (g := gName 4) (tt := tYes) rfl sc_law.nd (pi_range1 (by rfl) T.n_range (pa_cons pe_int pa_nil)) (blkOk_by (N := N_law) (sc := defScope s_law) (by decide +kernel))
            (fun _ _ _ _ _ => pg_name (i := 4) sc_law.nd rfl (.inl rfl)) (fun _ _ _ _ _ => pts_nil)
            (fun _ _ _ _ _ => pe_callG GR hr hgd (by rfl) T.g_right T.F_right.kp T.b_right .nil pass0 (pa_cons (pv 3) pa_nil))) pa_nil)))) (pss_one (ps_ret pe_bl)) pss_nil)))) <|
      pss_one (ps_ret pe_bl), ?_⟩
    refine ⟨.ref a, rfl, a, ns, 3, rfl, hS, hn, by decide, by decide, fun Hc p cs sc np ep hc1 hc2 => ?_⟩
    have hlen : (cs.map V.int).length = cs.length := List.length_map _
    refine ⟨.ref p, rfl, p, _, rfl, .inl (.inl (.inl ep)), _, rfl, by omega, by omega, ?_⟩
    have hj : ((cs.map V.int).length : Int).toNat = cs.length := by rw [hlen]; rfl
    rw [hj]
    refine for_range (fun i σ H' => H' p = some (.lst (cs.map V.int)) ∧ ∃ (y2 y3 y4 : Option V), σ = [some (.ref a), some (.ref p), y2, y3, y4]) ⟨ep, none, none, none, rfl⟩ (fun i σ H1 hi hPv => ?_) (fun σ H' hPv => q _)
    obtain ⟨ep1, y2, y3, y4, rfl⟩ := hPv
    refine ⟨.ref p, rfl, _, rfl, p, cs, i, ?_, .inl (.inl ep1), by omega, fun Hb b sb nb hBb => ?_⟩
    · show [V.ref p, V.int ((0 : Int) + (i : Nat))] = _
      rw [Int.zero_add]
    have epb := sb _ _ ep1
    have pb : p ≠ b := ne_of_none ep1 nb
    refine ⟨3, rfl, by decide, by decide, fun D nD => ?_⟩
    have bD : b ≠ D := hBb.ne_new nD
    have pD : p ≠ D := ne_of_none epb nD
    refine lc_range (n := 3) (fun j H' => H' p = some (.lst (cs.map V.int)) ∧ Box (1000 * (3 - j)) H' b ∧ H' D = some (.lst (List.replicate j (.bl true))))
      ⟨same_new nD _ _ epb, (hBb.same (same_new nD)).mono (by decide), upd_same⟩ (fun j H' hj hPv => ?_) (fun H' hPv => ?_)
    · obtain ⟨ep', hB', eD⟩ := hPv
      refine ⟨rfl, yes_if ⟨_, rfl, b, 1000 * (3 - (j + 1)), rfl, hB'.mono (by omega), fun H2 k2 hB2 => ⟨_, k2 _ _ bD.symm eD, ?_, ?_, ?_, ?_⟩⟩⟩
      · rw [List.length_replicate]; exact small1000 (by omega)
      · rw [upd_ne pD]; exact k2 _ _ pb ep'
      · exact hB2.keep (c := D) keep_upd bD
      · rw [upd_same, List.replicate_succ']
    · obtain ⟨ep', hB', eD⟩ := hPv
      refine ⟨D, List.replicate 3 true, rfl, by rw [List.map_replicate]; exact .inl (.inl eD), _, rfl, ?_⟩
      rw [all_rep]
      exact iteN ⟨ep', _, _, _, rfl⟩
end
end Pc
namespace Pc
open PySem PySem.Spec PyProof.Rows L2 RZ
theorem all_mk {l : PySem.W.OpenLaw} {w : World} {K : PySem.W.Frag} {h : Heap} {mg : Str → Option Value} {fa f_p_is_integer_below f_p_joins_in_pairs f_p_is_pairing f_box f_take f_cells f_of f_strewn f_same f_paired f_random f_changed f_anything f_is_due f_right f_law : Addr} (X : K.In h) (G : h.Ns mainGlobals mg) (hfa : mg "law" = some (.ref fa))
    {od_p_is_integer_below an_p_is_integer_below : Option Addr} {sl_p_is_integer_below : Array (Option Value)} {oc_p_is_integer_below kV_p_is_integer_below dc_p_is_integer_below pm_p_is_integer_below cd_p_is_integer_below ct_p_is_integer_below : Value}
    {od_p_joins_in_pairs an_p_joins_in_pairs : Option Addr} {sl_p_joins_in_pairs : Array (Option Value)} {oc_p_joins_in_pairs kV_p_joins_in_pairs dc_p_joins_in_pairs pm_p_joins_in_pairs cd_p_joins_in_pairs ct_p_joins_in_pairs : Value}
    {od_p_is_pairing an_p_is_pairing : Option Addr} {sl_p_is_pairing : Array (Option Value)} {oc_p_is_pairing kV_p_is_pairing dc_p_is_pairing pm_p_is_pairing cd_p_is_pairing ct_p_is_pairing : Value}
    {od_box an_box : Option Addr} {sl_box : Array (Option Value)} {oc_box kV_box dc_box pm_box cd_box ct_box : Value}
    {od_take an_take : Option Addr} {sl_take : Array (Option Value)} {oc_take kV_take dc_take pm_take cd_take ct_take : Value}
    {od_cells an_cells : Option Addr} {sl_cells : Array (Option Value)} {oc_cells kV_cells dc_cells pm_cells cd_cells ct_cells : Value}
    {od_of an_of : Option Addr} {sl_of : Array (Option Value)} {oc_of kV_of dc_of pm_of cd_of ct_of : Value}
    {od_strewn an_strewn : Option Addr} {sl_strewn : Array (Option Value)} {oc_strewn kV_strewn dc_strewn pm_strewn cd_strewn ct_strewn : Value}
    {od_same an_same : Option Addr} {sl_same : Array (Option Value)} {oc_same kV_same dc_same pm_same cd_same ct_same : Value}
    {od_paired an_paired : Option Addr} {sl_paired : Array (Option Value)} {oc_paired kV_paired dc_paired pm_paired cd_paired ct_paired : Value}
    {od_random an_random : Option Addr} {sl_random : Array (Option Value)} {oc_random kV_random dc_random pm_random cd_random ct_random : Value}
    {od_changed an_changed : Option Addr} {sl_changed : Array (Option Value)} {oc_changed kV_changed dc_changed pm_changed cd_changed ct_changed : Value}
    {od_anything an_anything : Option Addr} {sl_anything : Array (Option Value)} {oc_anything kV_anything dc_anything pm_anything cd_anything ct_anything : Value}
    {od_is_due an_is_due : Option Addr} {sl_is_due : Array (Option Value)} {oc_is_due kV_is_due dc_is_due pm_is_due cd_is_due ct_is_due : Value}
    {od_right an_right : Option Addr} {sl_right : Array (Option Value)} {oc_right kV_right dc_right pm_right cd_right ct_right : Value}
    {od_law an_law : Option Addr} {sl_law : Array (Option Value)} {oc_law kV_law dc_law pm_law cd_law ct_law : Value}
    (a_p_is_integer_below : PySem.W.nsIn K mainGlobals "is_integer_below" = some (some (.ref f_p_is_integer_below))) (l_p_is_integer_below : K.lookup f_p_is_integer_below = some ⟨oc_p_is_integer_below, od_p_is_integer_below, .func (PySem.W.fnOf "is_integer_below" "is_integer_below" (defArgs s_p_is_integer_below) (defBody s_p_is_integer_below) (defScope s_p_is_integer_below) .none kV_p_is_integer_below dc_p_is_integer_below pm_p_is_integer_below an_p_is_integer_below cd_p_is_integer_below ct_p_is_integer_below), sl_p_is_integer_below⟩) (c_p_is_integer_below : PySem.W.codeIn K cd_p_is_integer_below "is_integer_below" = true) (k_p_is_integer_below : PySem.W.keepIn K (.ref f_p_is_integer_below) = true)
    (a_p_joins_in_pairs : PySem.W.nsIn K mainGlobals "joins_in_pairs" = some (some (.ref f_p_joins_in_pairs))) (l_p_joins_in_pairs : K.lookup f_p_joins_in_pairs = some ⟨oc_p_joins_in_pairs, od_p_joins_in_pairs, .func (PySem.W.fnOf "joins_in_pairs" "joins_in_pairs" (defArgs s_p_joins_in_pairs) (defBody s_p_joins_in_pairs) (defScope s_p_joins_in_pairs) .none kV_p_joins_in_pairs dc_p_joins_in_pairs pm_p_joins_in_pairs an_p_joins_in_pairs cd_p_joins_in_pairs ct_p_joins_in_pairs), sl_p_joins_in_pairs⟩) (c_p_joins_in_pairs : PySem.W.codeIn K cd_p_joins_in_pairs "joins_in_pairs" = true) (k_p_joins_in_pairs : PySem.W.keepIn K (.ref f_p_joins_in_pairs) = true)
    (a_p_is_pairing : PySem.W.nsIn K mainGlobals "is_pairing" = some (some (.ref f_p_is_pairing))) (l_p_is_pairing : K.lookup f_p_is_pairing = some ⟨oc_p_is_pairing, od_p_is_pairing, .func (PySem.W.fnOf "is_pairing" "is_pairing" (defArgs s_p_is_pairing) (defBody s_p_is_pairing) (defScope s_p_is_pairing) .none kV_p_is_pairing dc_p_is_pairing pm_p_is_pairing an_p_is_pairing cd_p_is_pairing ct_p_is_pairing), sl_p_is_pairing⟩) (c_p_is_pairing : PySem.W.codeIn K cd_p_is_pairing "is_pairing" = true) (k_p_is_pairing : PySem.W.keepIn K (.ref f_p_is_pairing) = true)
    (a_box : PySem.W.nsIn K mainGlobals "_law_box" = some (some (.ref f_box))) (l_box : K.lookup f_box = some ⟨oc_box, od_box, .func (PySem.W.fnOf "_law_box" "_law_box" (defArgs s_box) (defBody s_box) (defScope s_box) .none kV_box dc_box pm_box an_box cd_box ct_box), sl_box⟩) (c_box : PySem.W.codeIn K cd_box "_law_box" = true) (k_box : PySem.W.keepIn K (.ref f_box) = true)
    (a_take : PySem.W.nsIn K mainGlobals "_law_take" = some (some (.ref f_take))) (l_take : K.lookup f_take = some ⟨oc_take, od_take, .func (PySem.W.fnOf "_law_take" "_law_take" (defArgs s_take) (defBody s_take) (defScope s_take) .none kV_take dc_take pm_take an_take cd_take ct_take), sl_take⟩) (c_take : PySem.W.codeIn K cd_take "_law_take" = true) (k_take : PySem.W.keepIn K (.ref f_take) = true)
    (a_cells : PySem.W.nsIn K mainGlobals "_law_cells" = some (some (.ref f_cells))) (l_cells : K.lookup f_cells = some ⟨oc_cells, od_cells, .func (PySem.W.fnOf "_law_cells" "_law_cells" (defArgs s_cells) (defBody s_cells) (defScope s_cells) .none kV_cells dc_cells pm_cells an_cells cd_cells ct_cells), sl_cells⟩) (c_cells : PySem.W.codeIn K cd_cells "_law_cells" = true) (k_cells : PySem.W.keepIn K (.ref f_cells) = true)
    (a_of : PySem.W.nsIn K mainGlobals "_law_of" = some (some (.ref f_of))) (l_of : K.lookup f_of = some ⟨oc_of, od_of, .func (PySem.W.fnOf "_law_of" "_law_of" (defArgs s_of) (defBody s_of) (defScope s_of) .none kV_of dc_of pm_of an_of cd_of ct_of), sl_of⟩) (c_of : PySem.W.codeIn K cd_of "_law_of" = true) (k_of : PySem.W.keepIn K (.ref f_of) = true)
    (a_strewn : PySem.W.nsIn K mainGlobals "_law_strewn" = some (some (.ref f_strewn))) (l_strewn : K.lookup f_strewn = some ⟨oc_strewn, od_strewn, .func (PySem.W.fnOf "_law_strewn" "_law_strewn" (defArgs s_strewn) (defBody s_strewn) (defScope s_strewn) .none kV_strewn dc_strewn pm_strewn an_strewn cd_strewn ct_strewn), sl_strewn⟩) (c_strewn : PySem.W.codeIn K cd_strewn "_law_strewn" = true) (k_strewn : PySem.W.keepIn K (.ref f_strewn) = true)
    (a_same : PySem.W.nsIn K mainGlobals "_law_same" = some (some (.ref f_same))) (l_same : K.lookup f_same = some ⟨oc_same, od_same, .func (PySem.W.fnOf "_law_same" "_law_same" (defArgs s_same) (defBody s_same) (defScope s_same) .none kV_same dc_same pm_same an_same cd_same ct_same), sl_same⟩) (c_same : PySem.W.codeIn K cd_same "_law_same" = true) (k_same : PySem.W.keepIn K (.ref f_same) = true)
    (a_paired : PySem.W.nsIn K mainGlobals "_law_paired" = some (some (.ref f_paired))) (l_paired : K.lookup f_paired = some ⟨oc_paired, od_paired, .func (PySem.W.fnOf "_law_paired" "_law_paired" (defArgs s_paired) (defBody s_paired) (defScope s_paired) .none kV_paired dc_paired pm_paired an_paired cd_paired ct_paired), sl_paired⟩) (c_paired : PySem.W.codeIn K cd_paired "_law_paired" = true) (k_paired : PySem.W.keepIn K (.ref f_paired) = true)
    (a_random : PySem.W.nsIn K mainGlobals "_law_random" = some (some (.ref f_random))) (l_random : K.lookup f_random = some ⟨oc_random, od_random, .func (PySem.W.fnOf "_law_random" "_law_random" (defArgs s_random) (defBody s_random) (defScope s_random) .none kV_random dc_random pm_random an_random cd_random ct_random), sl_random⟩) (c_random : PySem.W.codeIn K cd_random "_law_random" = true) (k_random : PySem.W.keepIn K (.ref f_random) = true)
    (a_changed : PySem.W.nsIn K mainGlobals "_law_changed" = some (some (.ref f_changed))) (l_changed : K.lookup f_changed = some ⟨oc_changed, od_changed, .func (PySem.W.fnOf "_law_changed" "_law_changed" (defArgs s_changed) (defBody s_changed) (defScope s_changed) .none kV_changed dc_changed pm_changed an_changed cd_changed ct_changed), sl_changed⟩) (c_changed : PySem.W.codeIn K cd_changed "_law_changed" = true) (k_changed : PySem.W.keepIn K (.ref f_changed) = true)
    (a_anything : PySem.W.nsIn K mainGlobals "_law_anything" = some (some (.ref f_anything))) (l_anything : K.lookup f_anything = some ⟨oc_anything, od_anything, .func (PySem.W.fnOf "_law_anything" "_law_anything" (defArgs s_anything) (defBody s_anything) (defScope s_anything) .none kV_anything dc_anything pm_anything an_anything cd_anything ct_anything), sl_anything⟩) (c_anything : PySem.W.codeIn K cd_anything "_law_anything" = true) (k_anything : PySem.W.keepIn K (.ref f_anything) = true)
    (a_is_due : PySem.W.nsIn K mainGlobals "_law_is_due" = some (some (.ref f_is_due))) (l_is_due : K.lookup f_is_due = some ⟨oc_is_due, od_is_due, .func (PySem.W.fnOf "_law_is_due" "_law_is_due" (defArgs s_is_due) (defBody s_is_due) (defScope s_is_due) .none kV_is_due dc_is_due pm_is_due an_is_due cd_is_due ct_is_due), sl_is_due⟩) (c_is_due : PySem.W.codeIn K cd_is_due "_law_is_due" = true) (k_is_due : PySem.W.keepIn K (.ref f_is_due) = true)
    (a_right : PySem.W.nsIn K mainGlobals "_law_right" = some (some (.ref f_right))) (l_right : K.lookup f_right = some ⟨oc_right, od_right, .func (PySem.W.fnOf "_law_right" "_law_right" (defArgs s_right) (defBody s_right) (defScope s_right) .none kV_right dc_right pm_right an_right cd_right ct_right), sl_right⟩) (c_right : PySem.W.codeIn K cd_right "_law_right" = true) (k_right : PySem.W.keepIn K (.ref f_right) = true)
    (a_law : PySem.W.nsIn K mainGlobals "law" = some (some (.ref f_law))) (l_law : K.lookup f_law = some ⟨oc_law, od_law, .func (PySem.W.fnOf "law" "law" (defArgs s_law) (defBody s_law) (defScope s_law) .none kV_law dc_law pm_law an_law cd_law ct_law), sl_law⟩) (c_law : PySem.W.codeIn K cd_law "law" = true) (k_law : PySem.W.keepIn K (.ref f_law) = true)
    (z_isinstance : PySem.W.nsIn K mainGlobals "isinstance" = some none) (z_int : PySem.W.nsIn K mainGlobals "int" = some none) (z_bool : PySem.W.nsIn K mainGlobals "bool" = some none) (z_len : PySem.W.nsIn K mainGlobals "len" = some none) (z_tuple : PySem.W.nsIn K mainGlobals "tuple" = some none) (z_all : PySem.W.nsIn K mainGlobals "all" = some none) (z_enumerate : PySem.W.nsIn K mainGlobals "enumerate" = some none) (z_abs : PySem.W.nsIn K mainGlobals "abs" = some none) (z_list : PySem.W.nsIn K mainGlobals "list" = some none) (z_zip : PySem.W.nsIn K mainGlobals "zip" = some none) (z_str : PySem.W.nsIn K mainGlobals "str" = some none) (z_range : PySem.W.nsIn K mainGlobals "range" = some none) (z_repr : PySem.W.nsIn K mainGlobals "repr" = some none) :
    ∃ fd : FuncData, (∀ (s : Shared) (v : Value), BindsTo s fd ⟨[v], []⟩ [("_law_script", v)]) ∧ ∀ base : Heap, K.In base → base.Ns mainGlobals mg → FnG l.prog w K mg base CX0 9 fa fd ["_law_script"] (spLaw K) := by
  have e := hfa.symm.trans (PySem.W.mg_of X G a_law)
  cases e
  let T : Env K mg := {
    n_isinstance := PySem.W.mg_none_of X G z_isinstance,
    n_int := PySem.W.mg_none_of X G z_int,
    n_bool := PySem.W.mg_none_of X G z_bool,
    n_len := PySem.W.mg_none_of X G z_len,
    n_tuple := PySem.W.mg_none_of X G z_tuple,
    n_all := PySem.W.mg_none_of X G z_all,
    n_enumerate := PySem.W.mg_none_of X G z_enumerate,
    n_abs := PySem.W.mg_none_of X G z_abs,
    n_list := PySem.W.mg_none_of X G z_list,
    n_zip := PySem.W.mg_none_of X G z_zip,
    n_str := PySem.W.mg_none_of X G z_str,
    n_range := PySem.W.mg_none_of X G z_range,
    n_repr := PySem.W.mg_none_of X G z_repr,
    f_p_is_integer_below := f_p_is_integer_below, d_p_is_integer_below := _, F_p_is_integer_below := fun_mk (st := s_p_is_integer_below) l_p_is_integer_below c_p_is_integer_below k_p_is_integer_below, g_p_is_integer_below := PySem.W.mg_of X G a_p_is_integer_below,
    f_p_joins_in_pairs := f_p_joins_in_pairs, d_p_joins_in_pairs := _, F_p_joins_in_pairs := fun_mk (st := s_p_joins_in_pairs) l_p_joins_in_pairs c_p_joins_in_pairs k_p_joins_in_pairs, g_p_joins_in_pairs := PySem.W.mg_of X G a_p_joins_in_pairs,
    f_p_is_pairing := f_p_is_pairing, d_p_is_pairing := _, F_p_is_pairing := fun_mk (st := s_p_is_pairing) l_p_is_pairing c_p_is_pairing k_p_is_pairing, g_p_is_pairing := PySem.W.mg_of X G a_p_is_pairing,
    f_box := f_box, d_box := _, F_box := fun_mk (st := s_box) l_box c_box k_box, g_box := PySem.W.mg_of X G a_box,
    f_take := f_take, d_take := _, F_take := fun_mk (st := s_take) l_take c_take k_take, g_take := PySem.W.mg_of X G a_take,
    f_cells := f_cells, d_cells := _, F_cells := fun_mk (st := s_cells) l_cells c_cells k_cells, g_cells := PySem.W.mg_of X G a_cells,
    f_of := f_of, d_of := _, F_of := fun_mk (st := s_of) l_of c_of k_of, g_of := PySem.W.mg_of X G a_of,
    f_strewn := f_strewn, d_strewn := _, F_strewn := fun_mk (st := s_strewn) l_strewn c_strewn k_strewn, g_strewn := PySem.W.mg_of X G a_strewn,
    f_same := f_same, d_same := _, F_same := fun_mk (st := s_same) l_same c_same k_same, g_same := PySem.W.mg_of X G a_same,
    f_paired := f_paired, d_paired := _, F_paired := fun_mk (st := s_paired) l_paired c_paired k_paired, g_paired := PySem.W.mg_of X G a_paired,
    f_random := f_random, d_random := _, F_random := fun_mk (st := s_random) l_random c_random k_random, g_random := PySem.W.mg_of X G a_random,
    f_changed := f_changed, d_changed := _, F_changed := fun_mk (st := s_changed) l_changed c_changed k_changed, g_changed := PySem.W.mg_of X G a_changed,
    f_anything := f_anything, d_anything := _, F_anything := fun_mk (st := s_anything) l_anything c_anything k_anything, g_anything := PySem.W.mg_of X G a_anything,
    f_is_due := f_is_due, d_is_due := _, F_is_due := fun_mk (st := s_is_due) l_is_due c_is_due k_is_due, g_is_due := PySem.W.mg_of X G a_is_due,
    f_right := f_right, d_right := _, F_right := fun_mk (st := s_right) l_right c_right k_right, g_right := PySem.W.mg_of X G a_right }
  exact ⟨PySem.W.fnOf "law" "law" (defArgs s_law) (defBody s_law) (defScope s_law) .none kV_law dc_law pm_law an_law cd_law ct_law, fun s v => .of_eq rfl, fun base _ _ => ok_law T (fun_mk (st := s_law) l_law c_law k_law)⟩
end Pc
open PySem PySem.W PyProof.Rows
set_option maxHeartbeats 0 in
theorem PySem.Challenge.cw_partnercall_k00_pairings_or_not_holds : PySem.Challenge.rw_partnercall_k00_pairings_or_not.Holds := by
  w_on; o_law; k_head; (case hw => w_witness2)
  k_fill
  refine Pc.walk_g (l := PySem.Challenge.rw_partnercall_k00_pairings_or_not) (n := 63) (k := 9) (x := "_law_script") (sp := fun w => Pc.spLaw _) rfl (by decide) rfl ⟨rfl, by decide, by decide⟩ (fun w h Y => PySem.W.kIn_of Y) ?F (fun _ _ a ns hl hS => ⟨a, ns, rfl, hS, hl, fun _ => rfl⟩)
  case F =>
    intro w mg fa h KX G hmg
    refine' Pc.all_mk KX G hmg ?a_p_is_integer_below ?l_p_is_integer_below ?c_p_is_integer_below ?k_p_is_integer_below ?a_p_joins_in_pairs ?l_p_joins_in_pairs ?c_p_joins_in_pairs ?k_p_joins_in_pairs ?a_p_is_pairing ?l_p_is_pairing ?c_p_is_pairing ?k_p_is_pairing ?a_box ?l_box ?c_box ?k_box ?a_take ?l_take ?c_take ?k_take ?a_cells ?l_cells ?c_cells ?k_cells ?a_of ?l_of ?c_of ?k_of ?a_strewn ?l_strewn ?c_strewn ?k_strewn ?a_same ?l_same ?c_same ?k_same ?a_paired ?l_paired ?c_paired ?k_paired ?a_random ?l_random ?c_random ?k_random ?a_changed ?l_changed ?c_changed ?k_changed ?a_anything ?l_anything ?c_anything ?k_anything ?a_is_due ?l_is_due ?c_is_due ?k_is_due ?a_right ?l_right ?c_right ?k_right ?a_law ?l_law ?c_law ?k_law ?z_isinstance ?z_int ?z_bool ?z_len ?z_tuple ?z_all ?z_enumerate ?z_abs ?z_list ?z_zip ?z_str ?z_range ?z_repr
    (case a_p_is_integer_below => k_is); (case l_p_is_integer_below => k_is); (case c_p_is_integer_below => k_is); (case k_p_is_integer_below => k_is); (case a_p_joins_in_pairs => k_is); (case l_p_joins_in_pairs => k_is); (case c_p_joins_in_pairs => k_is); (case k_p_joins_in_pairs => k_is); (case a_p_is_pairing => k_is); (case l_p_is_pairing => k_is); (case c_p_is_pairing => k_is); (case k_p_is_pairing => k_is); (case a_box => k_is); (case l_box => k_is); (case c_box => k_is); (case k_box => k_is); (case a_take => k_is); (case l_take => k_is); (case c_take => k_is); (case k_take => k_is); (case a_cells => k_is); (case l_cells => k_is); (case c_cells => k_is); (case k_cells => k_is); (case a_of => k_is); (case l_of => k_is); (case c_of => k_is); (case k_of => k_is); (case a_strewn => k_is); (case l_strewn => k_is); (case c_strewn => k_is); (case k_strewn => k_is); (case a_same => k_is); (case l_same => k_is); (case c_same => k_is); (case k_same => k_is); (case a_paired => k_is); (case l_paired => k_is); (case c_paired => k_is); (case k_paired => k_is); (case a_random => k_is); (case l_random => k_is); (case c_random => k_is); (case k_random => k_is); (case a_changed => k_is); (case l_changed => k_is); (case c_changed => k_is); (case k_changed => k_is); (case a_anything => k_is); (case l_anything => k_is); (case c_anything => k_is); (case k_anything => k_is); (case a_is_due => k_is); (case l_is_due => k_is); (case c_is_due => k_is); (case k_is_due => k_is); (case a_right => k_is); (case l_right => k_is); (case c_right => k_is); (case k_right => k_is); (case a_law => k_is); (case l_law => k_is); (case c_law => k_is); (case k_law => k_is); (case z_isinstance => k_is); (case z_int => k_is); (case z_bool => k_is); (case z_len => k_is); (case z_tuple => k_is); (case z_all => k_is); (case z_enumerate => k_is); (case z_abs => k_is); (case z_list => k_is); (case z_zip => k_is); (case z_str => k_is); (case z_range => k_is); (case z_repr => k_is)
