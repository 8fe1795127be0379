import PyProof.Rows.All
import Wide.All
import OpenK.AllK
import Wide.FinOn
import HandS.ForMost
import HandS.Style
import HandS.IsInst
import HandS.Defaults
import HandS.MakeKwOnly
import HandS.SortKw
import HandS.Walk
import KE.KSortKeySt
import KE.GoesEnum
import KE.DatumOrd
import KE.KRevSl
import HandS.Star
import KE.KTupSum
import KE.GoesMore
import KE.GoesZip
import HandS.DictComp
import HandS.RevRange
import HandS.Strs
import HandS.Zip
import HandS.OwnEq
import HandS.SlotsOwn
import HandS.IterVal
import KE.KOwnIter
import KE.KOpsOwn
import KE.KEqDict
import HandS.NamedTupSort
import HandS.SortRule
import HandS.Gcd
import HandS.Conv
import HandS.Wide
import HandS.TupAny
import PyProof.WalkInts
import KE.KDictZip
import KE.KDictSum
import HandS.Deep
import PyProof.WalksMore
import PyProof.CollectIter
import PyProof.ListNew
import HandS.ExcInit
import HandS.ExcSuper
import HandS.Nested
import KE.KSuper
import KE.KSuperObj
import KE.KExcSuper
import HandS.ExcField
import HandS.ExcOwn
import HandS.ExcIs
import KE.KTryMore
import HandS.WordsExc
import PySem.Challenge.RW_turnsandkeys_k22_chain_weights
set_option Elab.async false
set_option linter.all false
set_option maxRecDepth 100000
set_option maxHeartbeats 8000000
namespace TK
open PySem PySem.Spec PyProof.Rows L2
/-! ### a def that keeps its promise, as callers see it -/
structure Def (P : Program) (w : World) (K : PySem.W.Frag) (mg : Str → Option Value) (base : Heap) (x : Str) (k : Nat) (ps : List Str) (sp : Sp) : Prop where
  ex : ∃ (f : Addr) (fd : FuncData), FnOk P w K mg base CX0 k f fd ps sp ∧ mg x = some (.ref f) ∧ PySem.W.keepIn K (.ref f) = true ∧ Binds K fd ps []
section
variable {X : Cx} {x : Str} {k : Nat} {ps : List Str} {sp : Sp} {e : Expr} {es : List Expr} {t : TA} {p pos : Pos}
theorem pe_callD (D : Def X.prog X.w X.K X.mg X.base x k ps sp) (hr : Room k X.A) (hg : Gl X x) (ha : PA X (e :: es) t) (hdb : (x == ("__debug__" : Str)) = false := by decide)
    (he : starEach (e :: es) X.env = (false, eval e X.env) :: starEach es X.env := by rfl) (hpl : (backTo pos (starEach es X.env)).any (·.1) = false := by rfl) :
    PE X (.Call (.Name x p) (e :: es) [] pos) (tCall sp [] E0 t) := by
  obtain ⟨f, fd, F, g, kp, b⟩ := D.ex
  exact pe_call F hr hg g kp b .nil pass0 ha hdb he hpl
end
section
variable {X : Cx}
/-- x is True, x is False: x of any kind -/
def rIsT : R2 := fun x y H Q => ∃ b : Bool, y = .bl b ∧ Q (.bl (decide (x = .bl b))) H
theorem op_isT : OpR X (compareOp .Is) rIsT := by
  intro pins s σ H x y v u Q I rx ry h
  obtain ⟨b, rfl, q⟩ := h
  cases (show u = Value.bool b from ry)
  cases x with
  | bl a =>
    cases (show v = Value.bool a from rx)
    by_cases e : a = b
    · subst e
      exact wpAny_is_self rfl ⟨.bl true, H, I, rfl, by simpa using q⟩
    · exact wpAny_is_other rfl (fun z => e (Value.bool.inj z)) ⟨.bl false, H, I, rfl, by simpa [e] using q⟩
  | non => cases (show v = Value.none from rx); exact wpAny_is_other rfl (fun z => nomatch z) ⟨.bl false, H, I, rfl, by simpa using q⟩
  | int i => obtain ⟨t, rfl⟩ := (show ∃ t, v = Value.int i t from rx); exact wpAny_is_other rfl (fun z => nomatch z) ⟨.bl false, H, I, rfl, by simpa using q⟩
  | str i => obtain ⟨t, rfl⟩ := (show ∃ t, v = Value.str i t from rx); exact wpAny_is_other rfl (fun z => nomatch z) ⟨.bl false, H, I, rfl, by simpa using q⟩
  | byt i => obtain ⟨t, rfl⟩ := (show ∃ t, v = Value.bytes i t from rx); exact wpAny_is_other rfl (fun z => nomatch z) ⟨.bl false, H, I, rfl, by simpa using q⟩
  | flt i => obtain ⟨t, rfl⟩ := (show ∃ t, v = Value.float i t from rx); exact wpAny_is_other rfl (fun z => nomatch z) ⟨.bl false, H, I, rfl, by simpa using q⟩
  | ref a => cases (show v = Value.ref a from rx); exact wpAny_is_other rfl (fun z => nomatch z) ⟨.bl false, H, I, rfl, by simpa using q⟩
  | ty n => cases (show v = Value.type n from rx); exact wpAny_is_other rfl (fun z => nomatch z) ⟨.bl false, H, I, rfl, by simpa using q⟩
end
/-! ### rules within a comprehension: K by name -/
section
variable {X : Cx} {K : PySem.W.Frag}
theorem ix_listK (h : X.K = K) : IxR X (rIxL K) := h ▸ ix_list
theorem ix_tupK (h : X.K = K) : IxR X (rIxT K) := h ▸ ix_tup
theorem pg_tupK (h : X.K = K) {elts : List Expr} {kk : Nat} {pos : Pos} {n : Nat} {t : TGs} (hc : X.calm = true) (hp : PGs X elts t) (hn : (assignEach elts X.env).length = n := by rfl) (hst : (assignEach elts X.env).findIdx? (·.1) = none := by rfl) : PG X (.Tuple elts kk pos) (gTup K n t) := h ▸ pg_tup hc hp hn hst
theorem op_in_seqK (h : X.K = K) : OpR X (compareOp .In) (rIn K false) := h ▸ op_in_seq
theorem op_notIn_seqK (h : X.K = K) : OpR X (compareOp .NotIn) (rIn K true) := h ▸ op_notIn_seq
theorem call_len_seqK (h : X.K = K) : CallR X (.builtin "len") (fun xs H Q => ∃ p ys, xs = [.ref p] ∧ (SqL K H p ys ∨ SqT K H p ys) ∧ Q (.int ys.length) H) := h ▸ call_len_seq
end
/-! ### heaps -/
theorem same_upd {H : Hp} {p : Addr} {o : HO} (h : H p = none) : Same H (upd H p o) := fun b x e => by
  rw [upd_ne (ne_of_none e h)]
  exact e
theorem same_at {H H' : Hp} {p : Addr} {o : HO} (s : Same H H') (h : H p = none) : Same H (upd H' p o) := fun b x e => by
  rw [upd_ne (ne_of_none e h)]
  exact s b x e
theorem same_tup {K : PySem.W.Frag} {H H' : Hp} {a : Addr} {xs : List V} (e : Same H H') (h : SqT K H a xs) : SqT K H' a xs := by
  rcases h with (h | ⟨o, h⟩) | h
  · exact .inl (.inl (e _ _ h))
  · exact .inl (.inr ⟨o, e _ _ h⟩)
  · exact .inr h
theorem lstAt {K : PySem.W.Frag} {H : Hp} {a : Addr} {xs : List V} (h : H a = some (.lst xs)) : SqL K H a xs := .inl (.inl h)
theorem tupAt {K : PySem.W.Frag} {H : Hp} {a : Addr} {xs : List V} (h : H a = some (.tup xs)) : SqT K H a xs := .inl (.inl h)
theorem atI_in {α : Type} {xs : List α} {i : Int} {v : α} (h0 : 0 ≤ i) (h : xs[i.toNat]? = some v) : atI xs i = some v := by
  obtain ⟨n, rfl⟩ : ∃ n : Nat, i = (n : Int) := ⟨i.toNat, by omega⟩
  exact atI_nat h
theorem yesT {σ : L2.St} {H : Hp} {A B : Hp → Prop} (h : A H) : tYes σ H (fun b H3 => if b = true then A H3 else B H3) := by
  show if true = true then A H else B H
  rw [if_pos rfl]
  exact h
end TK

namespace TK
open PySem PySem.Spec PyProof.Rows L2
def topS (i : Nat) : Stmt := PySem.Challenge.pw_turnsandkeys_k22_chain_weights.main.body.getD i (.Pass ⟨0, 0, 0, 0⟩)
abbrev s_top : Stmt := topS 1
theorem sc_top : FnScope ["ballot", "remaining", "option"] ["ballot", "remaining"] (defScope s_top) := ⟨rfl, rfl, rfl, by decide +kernel, rfl, by decide +kernel, by decide +kernel⟩
abbrev s_votes_for : Stmt := topS 2
theorem sc_votes_for : FnScope ["roll", "remaining", "tops", "ballot", "many", "option", "first"] ["roll", "remaining"] (defScope s_votes_for) := ⟨rfl, rfl, rfl, by decide +kernel, rfl, by decide +kernel, by decide +kernel⟩
abbrev s_is_name : Stmt := topS 14
theorem sc_is_name : FnScope ["word", "sign"] ["word"] (defScope s_is_name) := ⟨rfl, rfl, rfl, by decide +kernel, rfl, by decide +kernel, by decide +kernel⟩
abbrev s_check_size : Stmt := topS 15
theorem sc_check_size : FnScope ["size", "low", "high"] ["size", "low", "high"] (defScope s_check_size) := ⟨rfl, rfl, rfl, by decide +kernel, rfl, by decide +kernel, by decide +kernel⟩
abbrev s_check_range : Stmt := topS 16
theorem sc_check_range : FnScope ["number", "low", "high"] ["number", "low", "high"] (defScope s_check_range) := ⟨rfl, rfl, rfl, by decide +kernel, rfl, by decide +kernel, by decide +kernel⟩
abbrev s_check_names : Stmt := topS 17
theorem sc_check_names : FnScope ["names", "most", "hook", "at", "name"] ["names", "most", "hook"] (defScope s_check_names) := ⟨rfl, rfl, rfl, by decide +kernel, rfl, by decide +kernel, by decide +kernel⟩
abbrev s_check_picks : Stmt := topS 18
theorem sc_check_picks : FnScope ["picks", "known", "at", "pick"] ["picks", "known"] (defScope s_check_picks) := ⟨rfl, rfl, rfl, by decide +kernel, rfl, by decide +kernel, by decide +kernel⟩
abbrev s_lead : Stmt := topS 20
theorem sc_lead : FnScope ["options", "leaver", "other"] ["options", "leaver", "other"] (defScope s_lead) := ⟨rfl, rfl, rfl, by decide +kernel, rfl, by decide +kernel, by decide +kernel⟩
abbrev s_check_order : Stmt := topS 21
theorem sc_check_order : FnScope ["options", "order"] ["options", "order"] (defScope s_check_order) := ⟨rfl, rfl, rfl, by decide +kernel, rfl, by decide +kernel, by decide +kernel⟩
abbrev s_lack_rows : Stmt := topS 22
theorem sc_lack_rows : FnScope ["roll", "order", "rows", "before", "at", "leaver", "remaining", "option"] ["roll", "order"] (defScope s_lack_rows) := ⟨rfl, rfl, rfl, by decide +kernel, rfl, by decide +kernel, by decide +kernel⟩
abbrev s_next_lacks : Stmt := topS 23
theorem sc_next_lacks : FnScope ["roll", "remaining", "leaver", "before", "votes", "reached", "lacks", "option", "need"] ["roll", "remaining", "leaver", "before"] (defScope s_next_lacks) := ⟨rfl, rfl, rfl, by decide +kernel, rfl, by decide +kernel, by decide +kernel⟩
abbrev s_chain_weights : Stmt := topS 25
theorem sc_chain_weights : FnScope ["roll", "order", "at", "rows", "chains", "option", "chain", "row"] ["roll", "order", "at"] (defScope s_chain_weights) := ⟨rfl, rfl, rfl, by decide +kernel, rfl, by decide +kernel, by decide +kernel⟩
abbrev s_chain : Stmt := topS 26
theorem sc_chain : FnScope ["rows", "order", "option", "at", "chain", "amount", "row"] ["rows", "order", "option", "at"] (defScope s_chain) := ⟨rfl, rfl, rfl, by decide +kernel, rfl, by decide +kernel, by decide +kernel⟩
abbrev s_checked_pairs : Stmt := topS 29
theorem sc_checked_pairs : FnScope ["options", "rows", "ballot", "many"] ["options", "rows"] (defScope s_checked_pairs) := ⟨rfl, rfl, rfl, by decide +kernel, rfl, by decide +kernel, by decide +kernel⟩
abbrev s_ballot : Stmt := topS 30
theorem sc_ballot : FnScope ["options", "places", "place"] ["options", "places"] (defScope s_ballot) := ⟨rfl, rfl, rfl, by decide +kernel, rfl, by decide +kernel, by decide +kernel⟩
abbrev s_added_up : Stmt := topS 31
theorem sc_added_up : FnScope ["options", "pairs", "counts", "ballot", "many", "places", "option", "key"] ["options", "pairs"] (defScope s_added_up) := ⟨rfl, rfl, rfl, by decide +kernel, rfl, by decide +kernel, by decide +kernel⟩
abbrev s_L_cell : Stmt := topS 34
theorem sc_L_cell : FnScope ["_law_script", "_law_k", "_law_far", "_law_j"] ["_law_script", "_law_k"] (defScope s_L_cell) := ⟨rfl, rfl, rfl, by decide +kernel, rfl, by decide +kernel, by decide +kernel⟩
abbrev s_L_mixed : Stmt := topS 35
theorem sc_L_mixed : FnScope ["_law_cell_here", "_law_k", "_law_x"] ["_law_cell_here", "_law_k"] (defScope s_L_mixed) := ⟨rfl, rfl, rfl, by decide +kernel, rfl, by decide +kernel, by decide +kernel⟩
abbrev s_L_pool : Stmt := topS 36
theorem sc_L_pool : FnScope ["_law_cell_here", "_law_number", "_law_rest", "_law_deep", "_law_pool_here", "_law_k"] ["_law_cell_here", "_law_number"] (defScope s_L_pool) := ⟨rfl, rfl, rfl, by decide +kernel, rfl, by decide +kernel, by decide +kernel⟩
abbrev s_L_part : Stmt := topS 37
theorem sc_L_part : FnScope ["_law_pool_here", "_law_spot", "_law_under", "_law_size"] ["_law_pool_here", "_law_spot", "_law_under", "_law_size"] (defScope s_L_part) := ⟨rfl, rfl, rfl, by decide +kernel, rfl, by decide +kernel, by decide +kernel⟩
abbrev s_L_names : Stmt := topS 38
theorem sc_L_names : FnScope ["_law_pool_here", "_law_spot", "_law_number", "_law_letters", "_law_stem", "_law_k", "_law_turn", "_law_cut", "_law_first", "_law_short", "_law_tail", "_law_names_here", "_law_mark"] ["_law_pool_here", "_law_spot", "_law_number"] (defScope s_L_names) := ⟨rfl, rfl, rfl, by decide +kernel, rfl, by decide +kernel, by decide +kernel⟩
abbrev s_L_big : Stmt := topS 39
theorem sc_L_big : FnScope ["_law_pool_here", "_law_spot", "_law_least", "_law_crest", "_law_far"] ["_law_pool_here", "_law_spot", "_law_least", "_law_crest"] (defScope s_L_big) := ⟨rfl, rfl, rfl, by decide +kernel, rfl, by decide +kernel, by decide +kernel⟩
abbrev s_L_ballots : Stmt := topS 40
theorem sc_L_ballots : FnScope ["_law_pool_here", "_law_spot", "_law_options", "_law_number", "_law_rows", "_law_k", "_law_left", "_law_ballot", "_law_j", "_law_times"] ["_law_pool_here", "_law_spot", "_law_options", "_law_number"] (defScope s_L_ballots) := ⟨rfl, rfl, rfl, by decide +kernel, rfl, by decide +kernel, by decide +kernel⟩
abbrev s_L_integer : Stmt := topS 41
theorem sc_L_integer : FnScope ["_law_got"] ["_law_got"] (defScope s_L_integer) := ⟨rfl, rfl, rfl, by decide +kernel, rfl, by decide +kernel, by decide +kernel⟩
abbrev s_L_same : Stmt := topS 42
theorem sc_L_same : FnScope ["_law_got", "_law_wanted", "_law_k"] ["_law_got", "_law_wanted"] (defScope s_L_same) := ⟨rfl, rfl, rfl, by decide +kernel, rfl, by decide +kernel, by decide +kernel⟩
abbrev s_L_votes : Stmt := topS 43
theorem sc_L_votes : FnScope ["_law_rows", "_law_options", "_law_left", "_law_votes_here", "_law_ballot", "_law_times", "_law_tops", "_law_option"] ["_law_rows", "_law_options", "_law_left"] (defScope s_L_votes) := ⟨rfl, rfl, rfl, by decide +kernel, rfl, by decide +kernel, by decide +kernel⟩
abbrev s_L_all_ballots : Stmt := topS 44
theorem sc_L_all_ballots : FnScope ["_law_choices", "_law_ballots_here", "_law_size", "_law_longer", "_law_ballot", "_law_choice"] ["_law_choices"] (defScope s_L_all_ballots) := ⟨rfl, rfl, rfl, by decide +kernel, rfl, by decide +kernel, by decide +kernel⟩
abbrev s_L_turned_about : Stmt := topS 45
theorem sc_L_turned_about : FnScope ["_law_choices", "_law_given_here", "_law_rows", "_law_step", "_law_ballot", "_law_times", "_law_choice"] ["_law_choices", "_law_given_here"] (defScope s_L_turned_about) := ⟨rfl, rfl, rfl, by decide +kernel, rfl, by decide +kernel, by decide +kernel⟩
abbrev s_L_each_ballot : Stmt := topS 46
theorem sc_L_each_ballot : FnScope ["_law_choices", "_law_draws", "_law_crest", "_law_ballots_here", "_law_k"] ["_law_choices", "_law_draws"] (defScope s_L_each_ballot) := ⟨rfl, rfl, rfl, by decide +kernel, rfl, by decide +kernel, by decide +kernel⟩
abbrev s_L_given : Stmt := topS 47
theorem sc_L_given : FnScope ["_law_choices", "_law_head", "_law_pool_here", "_law_cell_here", "_law_given_here", "_law_way", "_law_far", "_law_ballot", "_law_times", "_law_k"] ["_law_choices", "_law_head", "_law_pool_here", "_law_cell_here"] (defScope s_L_given) := ⟨rfl, rfl, rfl, by decide +kernel, rfl, by decide +kernel, by decide +kernel⟩
abbrev s_L_missing_sums : Stmt := topS 48
theorem sc_L_missing_sums : FnScope ["_law_choices", "_law_given_here", "_law_leave", "_law_left", "_law_lacks", "_law_sums", "_law_leaver", "_law_spot", "_law_votes_here", "_law_k", "_law_choice"] ["_law_choices", "_law_given_here", "_law_leave"] (defScope s_L_missing_sums) := ⟨rfl, rfl, rfl, by decide +kernel, rfl, by decide +kernel, by decide +kernel⟩
abbrev s_L_value : Stmt := topS 49
theorem sc_L_value : FnScope ["_law_leave", "_law_rows", "_law_ballot", "_law_value_here", "_law_turn", "_law_choice", "_law_weight", "_law_tops", "_law_other"] ["_law_leave", "_law_rows", "_law_ballot"] (defScope s_L_value) := ⟨rfl, rfl, rfl, by decide +kernel, rfl, by decide +kernel, by decide +kernel⟩
abbrev s_L_rows_right : Stmt := topS 50
theorem sc_L_rows_right : FnScope ["_law_choices", "_law_leave", "_law_rows", "_law_crest", "_law_row"] ["_law_choices", "_law_leave", "_law_rows", "_law_crest"] (defScope s_L_rows_right) := ⟨rfl, rfl, rfl, by decide +kernel, rfl, by decide +kernel, by decide +kernel⟩
abbrev s_L_shown : Stmt := topS 51
theorem sc_L_shown : FnScope ["_law_choices", "_law_given_here", "_law_leave", "_law_rows", "_law_owed", "_law_turn", "_law_choice", "_law_weight", "_law_ballot", "_law_times"] ["_law_choices", "_law_given_here", "_law_leave", "_law_rows"] (defScope s_L_shown) := ⟨rfl, rfl, rfl, by decide +kernel, rfl, by decide +kernel, by decide +kernel⟩
abbrev s_L_chain_right : Stmt := topS 52
theorem sc_L_chain_right : FnScope ["_law_choices", "_law_given_here", "_law_leave", "_law_rows", "_law_turn", "_law_ballot"] ["_law_choices", "_law_given_here", "_law_leave", "_law_rows", "_law_turn"] (defScope s_L_chain_right) := ⟨rfl, rfl, rfl, by decide +kernel, rfl, by decide +kernel, by decide +kernel⟩
abbrev s_L_refusal : Stmt := topS 53
theorem sc_L_refusal : FnScope ["_law_sheet", "_law_leave", "_law_turn", "_law_told", "e"] ["_law_sheet", "_law_leave", "_law_turn"] (defScope s_L_refusal) := ⟨rfl, rfl, rfl, by decide +kernel, rfl, by decide +kernel, by decide +kernel⟩
abbrev s_L_order_right : Stmt := topS 54
theorem sc_L_order_right : FnScope ["_law_sheet", "_law_choices", "_law_given_here", "_law_leave", "_law_turn"] ["_law_sheet", "_law_choices", "_law_given_here", "_law_leave"] (defScope s_L_order_right) := ⟨rfl, rfl, rfl, by decide +kernel, rfl, by decide +kernel, by decide +kernel⟩
abbrev s_law : Stmt := topS 55
theorem sc_law : FnScope ["_law_script", "_law_head", "_law_number", "_law_choices", "_law_pool_here", "_law_given_here", "_law_others", "_law_sheet", "_law_whole", "_law_leaves", "_law_longest", "_law_asked", "_law_k", "_law_leave", "_law_turn", "_law_ballot"] ["_law_script"] (defScope s_law) := ⟨rfl, rfl, rfl, by decide +kernel, rfl, by decide +kernel, by decide +kernel⟩
end TK

namespace TK
open PySem PySem.Spec PyProof.Rows L2
section
variable {P : Program} {w : World} {K : PySem.W.Frag} {mg : Str → Option Value} {base : Heap}
/-! check_size, check_range -/
theorem pz {n : Nat} : (0 : Int) < ((n + 1 : Nat) : Int) := by omega
theorem mb {a : Int} {n : Nat} (h : n + 1 ≤ 2 ^ 63) : -(2 ^ 64) < a % ((n + 1 : Nat) : Int) ∧ a % ((n + 1 : Nat) : Int) < 2 ^ 64 := by
  have h1 := Int.emod_nonneg a (b := ((n + 1 : Nat) : Int)) (by omega)
  have h2 := Int.emod_lt_of_pos a (b := ((n + 1 : Nat) : Int)) (by omega)
  omega
/-! _law_part -/
def partOf (ns : List Int) (s u z : Int) : Int := ns.getD s.toNat 0 / u % z
def spPart (K : PySem.W.Frag) : Sp := fun vs H Q _ => ∃ (a : Addr) (ns : List Int) (s u z : Int), vs = [.ref a, .int s, .int u, .int z] ∧ SqL K H a (ns.map V.int) ∧ 0 ≤ s ∧ s < ns.length ∧ 0 < u ∧ u < 1000000 ∧ 0 < z ∧ Q (.int (partOf ns s u z)) H
theorem get_int {ns : List Int} {s : Int} (h0 : 0 ≤ s) (h : s < ns.length) : atI (ns.map V.int) s = some (.int (ns.getD s.toNat 0)) := by
  have h1 : s.toNat < ns.length := by omega
  refine atI_in h0 ?_
  rw [List.getElem?_map, List.getElem?_eq_getElem h1, List.getD_eq_getElem?_getD, List.getElem?_eq_getElem h1]
  rfl
theorem ok_L_part {f : Addr} {fd : FuncData} (F : Fun K "_law_part" "_law_part" s_L_part f fd) (m_int : mg "int" = none) : FnOk P w K mg base CX0 1 f fd ["_law_pool_here", "_law_spot", "_law_under", "_law_size"] (spPart K) := by
  refine F.ok sc_L_part (fun vs H Q E h => ?_) (fun cdv A outer s H vs Q E hr h => ?_)
  · obtain ⟨a, ns, s, u, z, rfl, _⟩ := h
    rfl
  · obtain ⟨a, ns, s, u, z, rfl, hS, h0, h1, h2, h3, h4, q⟩ := h
    refine ⟨_, (pss_one (ps_ret (pe_op op_mod (pe_op op_fdiv (pe_callTy call_int1 (by rfl) m_int (by decide +kernel) (pa_cons (pe_ix ix_list (pv 0) (pv 1) (fun _ _ => rfl)) pa_nil)) (pv 2)) (pv 3)))), ?_⟩
    refine ⟨_, rfl, _, rfl, _, _, _, _, rfl, rfl, hS, get_int h0 h1, .inl ⟨_, rfl, _, rfl, _, _, rfl, rfl, ⟨h2, by omega⟩, _, rfl, _, _, rfl, rfl, h4, ?_⟩⟩
    exact q
theorem part_lo {ns : List Int} {s u z : Int} (h : 0 < z) : 0 ≤ partOf ns s u z := Int.emod_nonneg _ (by omega)
theorem part_hi {ns : List Int} {s u z : Int} (h : 0 < z) : partOf ns s u z < z := Int.emod_lt_of_pos _ h
/-! _law_mixed -/
def spMixed : Sp := fun vs H Q _ => ∃ c k : Int, vs = [.int c, .int k] ∧ 0 ≤ k ∧ k < 1000000 ∧ ∀ r : Int, 0 ≤ r → Q (.int r) H
theorem ok_L_mixed {f : Addr} {fd : FuncData} (F : Fun K "_law_mixed" "_law_mixed" s_L_mixed f fd) (m_abs : mg "abs" = none) : FnOk P w K mg base CX0 1 f fd ["_law_cell_here", "_law_k"] spMixed := by
  refine F.ok sc_L_mixed (fun vs H Q E h => ?_) (fun cdv A outer s H vs Q E hr h => ?_)
  · obtain ⟨c, k, rfl, _⟩ := h
    rfl
  · obtain ⟨c, k, rfl, h0, h1, q⟩ := h
    refine ⟨_, (pss_cons (ps_set (i := 2) sc_L_mixed.nd rfl (.inl rfl) (pe_op op_mod (pe_op op_add (pe_op op_mul (pe_op op_mod (pe_callB call_abs (by rfl) m_abs (by decide +kernel) (pa_cons (pv 0) pa_nil)) pe_int) pe_int) (pe_op op_mul (pe_op op_add (pv 1) pe_int) pe_int)) pe_int))
  (pss_cons (ps_set (i := 2) sc_L_mixed.nd rfl (.inl rfl) (pe_op op_mod (pe_op op_add (pe_op op_add (pe_op op_mul (pv 2) pe_int) (pe_op op_fdiv (pv 2) pe_int)) (pe_op op_mul (pe_op op_add (pv 1) pe_int) pe_int)) pe_int))
  (pss_one (ps_ret (pe_op op_fdiv (pv 2) pe_int))))), ?_⟩
    refine ⟨_, rfl, _, rfl, _, _, rfl, rfl, pz, _, _, rfl, rfl, .inr (by decide), _, rfl, _, _, rfl, rfl, _, _, rfl, rfl, .inr (by decide), _, _, rfl, rfl, _, _, rfl, rfl, pz, ?_⟩
    refine ⟨_, rfl, _, _, rfl, rfl, .inr (by decide), _, rfl, _, _, rfl, rfl, ⟨by decide, by decide⟩, _, _, rfl, rfl, _, rfl, _, _, rfl, rfl, _, _, rfl, rfl, .inr (by decide), _, _, rfl, rfl, _, _, rfl, rfl, pz, ?_⟩
    refine ⟨_, rfl, _, _, rfl, rfl, ⟨by decide, by decide⟩, ?_⟩
    exact q _ (Int.ediv_nonneg (Int.emod_nonneg _ (by decide)) (by decide))
/-! _law_cell -/
def spCellA (K : PySem.W.Frag) : Sp := fun vs H Q _ => ∃ (a : Addr) (ns : List Int) (k : Int), vs = [.ref a, .int k] ∧ SqL K H a (ns.map V.int) ∧ 0 ≤ k ∧ k < 1000 ∧ ns.length ≤ 1000 ∧ ∀ r : Int, Q (.int r) H
theorem ok_L_cell {f : Addr} {fd : FuncData} (F : Fun K "_law_cell" "_law_cell" s_L_cell f fd) (m_len : mg "len" = none) (m_range : mg "range" = none) (m_abs : mg "abs" = none) : FnOk P w K mg base CX0 1 f fd ["_law_script", "_law_k"] (spCellA K) := by
  refine F.ok sc_L_cell (fun vs H Q E h => ?_) (fun cdv A outer s H vs Q E hr h => ?_)
  · obtain ⟨a, ns, k, rfl, _⟩ := h
    rfl
  · obtain ⟨a, ns, k, rfl, hS, h0, h1, h2, q⟩ := h
    refine ⟨_, (pss_cons (ps_if (pt_cmpR op_lt (pv 1) (pe_callB call_len_seq (by rfl) m_len (by decide +kernel) (pa_cons (pv 0) pa_nil)) (nomark _)) (pss_one (ps_ret (pe_ix ix_list (pv 0) (pv 1) (fun _ _ => rfl)))) pss_nil)
  (pss_cons (ps_set (i := 2) sc_L_cell.nd rfl (.inl rfl) (pe_op op_mul pe_int (pe_op op_add (pv 1) pe_int)))
  (pss_cons (ps_for PassesOwn.never rfl (pi_range1 (by rfl) m_range (pa_cons (pe_callB call_len_seq (by rfl) m_len (by decide +kernel) (pa_cons (pv 0) pa_nil)) pa_nil)) (pg_name (i := 3) sc_L_cell.nd rfl (.inl rfl))
    (pss_one (ps_set (i := 2) sc_L_cell.nd rfl (.inl rfl) (pe_op op_mod (pe_op op_add (pv 2) (pe_op op_mul (pe_op op_mul (pe_op op_add (pv 3) pe_int) (pe_op op_mod (pe_callB call_abs (by rfl) m_abs (by decide +kernel) (pa_cons (pe_ix ix_list (pv 0) (pv 3) (fun _ _ => rfl)) pa_nil)) pe_int)) pe_int)) pe_int))))
  (pss_one (ps_ret (pv 2)))))), ?_⟩
    refine ⟨_, rfl, _, rfl, _, _, rfl, .inl hS, _, _, rfl, rfl, _, rfl, ite2 (fun e => ?_) (fun e => ?_)⟩
    · have e1 : k < ((ns.map V.int).length : Nat) := of_decide_eq_true e
      rw [List.length_map] at e1
      exact ⟨_, rfl, _, rfl, _, _, _, _, rfl, rfl, hS, get_int h0 e1, q _⟩
    · refine ⟨_, rfl, _, _, rfl, rfl, _, _, rfl, rfl, .inl (by decide), ?_⟩
      refine ⟨_, rfl, _, _, rfl, .inl hS, _, rfl, by omega, by rw [List.length_map]; omega, for_range (fun i σ H' => H' = H ∧ ∃ (r : Int) (y : Option V), σ = [some (.ref a), some (.int k), some (.int r), y]) ⟨rfl, _, _, rfl⟩ ?_ ?_⟩
      · rintro i σ H' hi ⟨rfl, r, y, rfl⟩
        rw [List.length_map] at hi
        have hi' : i < ns.length := by omega
        refine ⟨_, rfl, _, rfl, _, _, rfl, rfl, _, rfl, _, rfl, _, _, _, _, rfl, rfl, hS, get_int (by omega) (by omega), _, rfl, _, _, rfl, rfl, pz, _, _, rfl, rfl, .inr (mb (by decide)), _, _, rfl, rfl, .inr (by decide), _, _, rfl, rfl, _, _, rfl, rfl, pz, rfl, _, _, rfl⟩
      · rintro σ H' ⟨rfl, r, y, rfl⟩
        exact ⟨_, rfl, q _⟩
end
end TK

namespace TK
open PySem PySem.Spec PyProof.Rows L2
theorem upd_twice {H : Hp} {p : Addr} {a b : HO} : upd (upd H p a) p b = upd H p b := by
  funext x
  unfold upd
  by_cases e : x = p
  · rw [if_pos e, if_pos e]
  · rw [if_neg e, if_neg e, if_neg e]
section
variable {P : Program} {w : World} {K : PySem.W.Frag} {mg : Str → Option Value} {base : Heap}
/-! _law_pool -/
def spPool : Sp := fun vs H Q _ => ∃ (c n : Int), vs = [.int c, .int n] ∧ 0 ≤ n ∧ n ≤ 1000 ∧ ∀ (p : Addr) (ns : List Int), H p = none → (ns.length : Int) = n → (∀ x ∈ ns, 0 ≤ x) → Q (.ref p) (upd H p (.lst (ns.map V.int)))
theorem ok_L_pool {f : Addr} {fd : FuncData} (F : Fun K "_law_pool" "_law_pool" s_L_pool f fd) (m_range : mg "range" = none) (m_abs : mg "abs" = none) (d_L_mixed : Def P w K mg base "_law_mixed" 1 ["_law_cell_here", "_law_k"] spMixed) : FnOk P w K mg base CX0 2 f fd ["_law_cell_here", "_law_number"] spPool := by
  refine F.ok sc_L_pool (fun vs H Q E h => ?_) (fun cdv A outer s H vs Q E hr h => ?_)
  · obtain ⟨c, n, rfl, _⟩ := h
    rfl
  · obtain ⟨c, n, rfl, h0, h1, q⟩ := h
    refine ⟨_, (pss_cons (ps_set (i := 2) sc_L_pool.nd rfl (.inl rfl) (pe_callB call_abs (by rfl) m_abs (by decide +kernel) (pa_cons (pv 0) pa_nil)))
  (pss_cons (ps_set (i := 3) sc_L_pool.nd rfl (.inl rfl) (pe_cmpR op_ge (pv 2) (pe_op op_pow pe_int pe_int) (nomark _)))
  (pss_cons (ps_set (i := 4) sc_L_pool.nd rfl (.inl rfl) (pe_lst pa_nil))
  (pss_cons (ps_for PassesOwn.never rfl (pi_range1 (by rfl) m_range (pa_cons (pv 1) pa_nil)) (pg_name (i := 5) sc_L_pool.nd rfl (.inl rfl))
    (pss_one (ps_if (PW.pt (pw_and (pt_val (pv 3)) (pw_and1 (pt_cmpR op_gt (pv 2) pe_int (nomark _))))) (pss_cons (ps_expr (pe_bm PySem.F.plainAttrs_list PySem.F.slot_list_append PySem.F.type_list_append mt_append (pv 4) (pa_cons (pe_op op_mod (pv 2) pe_int) pa_nil)))
  (pss_one (ps_set (i := 2) sc_L_pool.nd rfl (.inl rfl) (pe_op op_fdiv (pv 2) pe_int)))) (pss_one (ps_expr (pe_bm PySem.F.plainAttrs_list PySem.F.slot_list_append PySem.F.type_list_append mt_append (pv 4) (pa_cons (pe_callD d_L_mixed (hr.mono (by decide)) (by rfl) (pa_cons (pv 0) (pa_cons (pv 5) pa_nil))) pa_nil)))))))
  (pss_one (ps_ret (pv 4))))))), ?_⟩
    have ha : 0 ≤ (if c < 0 then -c else c) := by split <;> omega
    refine ⟨_, rfl, _, rfl, _, rfl, _, _, rfl, rfl, ⟨by decide, by decide, by decide⟩, _, _, rfl, rfl, ?_⟩
    refine ⟨Nat.zero_le _, fun p np => ?_⟩
    refine ⟨_, rfl, _, rfl, by omega, by omega, for_range (fun i σ H' => ∃ (r : Int) (b : Bool) (ns : List Int) (y : Option V), σ = [some (.int c), some (.int n), some (.int r), some (.bl b), some (.ref p), y] ∧ 0 ≤ r ∧ ns.length = i ∧ (∀ x ∈ ns, 0 ≤ x) ∧ H' = upd H p (.lst (ns.map V.int))) ⟨_, _, [], _, rfl, ha, rfl, (fun x hx => nomatch hx), rfl⟩ ?_ ?_⟩
    · rintro i σ H' hi ⟨r, b, ns, y, rfl, r0, hl, hx, rfl⟩
      have hz : (ns.map V.int).length < sizeLine := by rw [List.length_map]; exact small1000 (by omega)
      refine ⟨_, rfl, _, rfl, ite2 (fun e => ?_) (fun e => ?_)⟩
      · refine ⟨_, rfl, _, _, rfl, rfl, _, rfl, ite2 (fun e => ?_) (fun e => ?_)⟩
        · refine ⟨_, rfl, .inl ⟨rfl, _, lstAt upd_same⟩, _, rfl, _, _, rfl, rfl, pz, _, _, _, rfl, rfl, upd_same, hz, ?_⟩
          refine ⟨_, rfl, _, _, rfl, rfl, ⟨by decide, by decide⟩, ?_⟩
          refine ⟨_, b, ns ++ [r % 5040], _, rfl, Int.ediv_nonneg r0 (by decide), by rw [List.length_append, hl]; rfl, ?_, ?_⟩
          · intro x h
            rcases List.mem_append.mp h with h | h
            · exact hx x h
            · cases List.mem_singleton.mp h; exact Int.emod_nonneg _ (by decide)
          · rw [upd_twice, List.map_append]; rfl
        · refine ⟨_, rfl, .inl ⟨rfl, _, lstAt upd_same⟩, _, rfl, _, rfl, _, _, rfl, by omega, by omega, fun z z0 => ⟨_, _, _, rfl, rfl, upd_same, hz, r, b, ns ++ [z], _, rfl, r0, by rw [List.length_append, hl]; rfl, ?_, ?_⟩⟩
          · intro x h
            rcases List.mem_append.mp h with h | h
            · exact hx x h
            · cases List.mem_singleton.mp h; exact z0
          · rw [upd_twice, List.map_append]; rfl
      · refine iteF ?_
        refine ⟨_, rfl, .inl ⟨rfl, _, lstAt upd_same⟩, _, rfl, _, rfl, _, _, rfl, by omega, by omega, fun z z0 => ⟨_, _, _, rfl, rfl, upd_same, hz, r, b, ns ++ [z], _, rfl, r0, by rw [List.length_append, hl]; rfl, ?_, ?_⟩⟩
        · intro x h
          rcases List.mem_append.mp h with h | h
          · exact hx x h
          · cases List.mem_singleton.mp h; exact z0
        · rw [upd_twice, List.map_append]; rfl
    · rintro σ H' ⟨r, b, ns, y, rfl, r0, hl, hx, rfl⟩
      exact ⟨_, rfl, q p ns np (by omega) hx⟩
/-! _law_far -/
/-! _law_chosen: from 0 to the crest -/
end
end TK

namespace TK
open PySem PySem.Spec PyProof.Rows L2
/-! ### texts as lists of codes -/
def sOf (l : List Nat) : Str := ⟨l.toArray⟩
theorem sOf_codes (l : List Nat) : (sOf l).cps.toList = l := rfl
theorem sOf_len (l : List Nat) : (sOf l).length = l.length := by simp [sOf, Str.length]
theorem sOf_app (a b : List Nat) : sOf a ++ sOf b = sOf (a ++ b) := by
  show (⟨a.toArray ++ b.toArray⟩ : Str) = ⟨(a ++ b).toArray⟩
  simp
theorem sOf_inj {a b : List Nat} (h : sOf a = sOf b) : a = b := by
  have := congrArg (fun z : Str => z.cps.toList) h
  exact this
theorem sOf_one (c : Nat) : (⟨#[c]⟩ : Str) = sOf [c] := rfl
theorem cut_to (l : List Nat) {m : Int} (h : 0 ≤ m) : cutS (sOf l) none (some m) = sOf (l.take m.toNat) := by
  obtain ⟨k, rfl⟩ : ∃ k : Nat, m = (k : Int) := ⟨m.toNat, by omega⟩
  unfold cutS
  rw [HT.sIx_none, HT.sIx_nat, sOf_len, sOf_codes, List.drop_zero, Nat.sub_zero, Int.toNat_natCast]
  show sOf _ = sOf _
  congr 1
  by_cases hk : k ≤ l.length
  · rw [Nat.min_eq_left hk]
  · rw [Nat.min_eq_right (by omega), List.take_of_length_le (by omega), List.take_of_length_le (by omega)]
theorem cut_from (l : List Nat) {m : Int} (h : 0 ≤ m) : cutS (sOf l) (some m) none = sOf (l.drop m.toNat) := by
  obtain ⟨k, rfl⟩ : ∃ k : Nat, m = (k : Int) := ⟨m.toNat, by omega⟩
  unfold cutS
  rw [HT.sIx_none, HT.sIx_nat, sOf_len, sOf_codes, Int.toNat_natCast]
  show sOf _ = sOf _
  congr 1
  by_cases hk : k ≤ l.length
  · rw [Nat.min_eq_left hk, List.take_of_length_le (by rw [List.length_drop]; omega)]
  · rw [Nat.min_eq_right (by omega), List.drop_of_length_le (by omega), List.drop_of_length_le (by omega), List.take_nil]
def lettersZ : Str := Str.ofString "abcdefghijklmnopqrstuvwxyz"
theorem letters_codes : lettersZ.cps.toList = (List.range 26).map (97 + ·) := by decide +kernel
theorem letters_len : lettersZ.length = 26 := by decide +kernel
theorem letter_at {i : Int} (h0 : 0 ≤ i) (h1 : i < 26) : atI lettersZ.cps.toList i = some (97 + i.toNat) := by
  refine atI_in h0 ?_
  rw [letters_codes, List.getElem?_map, List.getElem?_range (by omega)]
  rfl
def Let (l : List Nat) : Prop := ∀ c ∈ l, 97 ≤ c ∧ c ≤ 122
theorem Let.app {a b : List Nat} (h : Let a) (k : Let b) : Let (a ++ b) := fun c hc => by
  rcases List.mem_append.mp hc with e | e
  · exact h c e
  · exact k c e
theorem Let.one {n : Nat} (h : n < 26) : Let [97 + n] := fun c hc => by
  cases List.mem_singleton.mp hc
  omega
theorem Let.take {a : List Nat} (h : Let a) (n : Nat) : Let (a.take n) := fun c hc => h c (List.mem_of_mem_take hc)
theorem Let.drop {a : List Nat} (h : Let a) (n : Nat) : Let (a.drop n) := fun c hc => h c (List.mem_of_mem_drop hc)
/-- a name: 1 to 8 letters -/
def Nm (l : List Nat) : Prop := 1 ≤ l.length ∧ l.length ≤ 8 ∧ Let l
def nameF (b : Bool) (stem short tail : List Nat) (cut first turn : Nat) (k : Nat) : List Nat :=
  if b = true then short.take cut ++ [97 + (first + 7 * ((k + turn) % 6)) % 26] ++ short.drop cut ++ tail else stem.take ((k + turn) % 6 + 1)
theorem nameF_nm {b : Bool} {stem short tail : List Nat} {cut first turn k : Nat} (hs : stem.length = 6) (hsh : short.length ≤ 6) (ht : tail.length ≤ 1) (l1 : Let stem) (l2 : Let short) (l3 : Let tail) : Nm (nameF b stem short tail cut first turn k) := by
  unfold nameF
  cases b with
  | true =>
    rw [if_pos rfl]
    have e : (short.take cut).length + (short.drop cut).length = short.length := by rw [← List.length_append, List.take_append_drop]
    refine ⟨?_, ?_, (((l2.take _).app (.one (Nat.mod_lt _ (by decide)))).app (l2.drop _)).app l3⟩
    · simp only [List.length_append, List.length_cons, List.length_nil]; omega
    · simp only [List.length_append, List.length_cons, List.length_nil]; omega
  | false =>
    rw [if_neg (by decide)]
    have := Nat.mod_lt (k + turn) (show 6 > 0 by decide)
    exact ⟨by rw [List.length_take]; omega, by rw [List.length_take]; omega, l1.take _⟩
theorem nameF_inj {b : Bool} {stem short tail : List Nat} {cut first turn k j : Nat} (hs : stem.length = 6) (hk : k < 6) (hj : j < 6) (h : nameF b stem short tail cut first turn k = nameF b stem short tail cut first turn j) : k = j := by
  unfold nameF at h
  cases b with
  | true =>
    rw [if_pos rfl, if_pos rfl] at h
    simp only [List.append_assoc, List.append_cancel_left_eq, List.cons_append, List.nil_append, List.cons.injEq] at h
    have := h.1
    omega
  | false =>
    rw [if_neg (by decide), if_neg (by decide)] at h
    have e := congrArg List.length h
    rw [List.length_take, List.length_take, hs] at e
    omega
theorem nodup_range {f : Nat → List Nat} : ∀ {n : Nat}, (∀ k j, k < n → j < n → f k = f j → k = j) → ((List.range n).map f).Nodup := by
  intro n h
  rw [List.nodup_iff_pairwise_ne, List.pairwise_map]
  refine List.Pairwise.imp_of_mem ?_ (List.nodup_iff_pairwise_ne.mp List.nodup_range)
  intro a b ha hb hne e
  exact hne (h a b (List.mem_range.mp ha) (List.mem_range.mp hb) e)
def vN (l : List Nat) : V := .str (sOf l)
section
variable {P : Program} {w : World} {K : PySem.W.Frag} {mg : Str → Option Value} {base : Heap}
/-! _law_names -/
def spNames (K : PySem.W.Frag) : Sp := fun vs H Q _ => ∃ (a : Addr) (ns : List Int) (s n : Int), vs = [.ref a, .int s, .int n] ∧ SqL K H a (ns.map V.int) ∧ 0 ≤ s ∧ s + 5 ≤ ns.length ∧ 0 ≤ n ∧ n ≤ 6 ∧
  ∀ (p : Addr) (zs : List (List Nat)), H p = none → (zs.length : Int) = n → (∀ z ∈ zs, Nm z) → zs.Nodup → Q (.ref p) (upd H p (.lst (zs.map vN)))
theorem small_len {l : List Nat} (h : l.length ≤ 1000) : (sOf l).length ≤ sizeLine := by rw [sOf_len]; exact Nat.le_of_lt (small1000 h)
theorem ok_L_names {f : Addr} {fd : FuncData} (F : Fun K "_law_names" "_law_names" s_L_names f fd) (m_range : mg "range" = none) (m_int : mg "int" = none) (d_L_part : Def P w K mg base "_law_part" 1 ["_law_pool_here", "_law_spot", "_law_under", "_law_size"] (spPart K)) : FnOk P w K mg base CX0 2 f fd ["_law_pool_here", "_law_spot", "_law_number"] (spNames K) := by
  refine F.ok sc_L_names (fun vs H Q E h => ?_) (fun cdv A outer s H vs Q E hr h => ?_)
  · obtain ⟨a, ns, s, n, rfl, _⟩ := h
    rfl
  · obtain ⟨a, ns, s, n, rfl, hS, h0, h1, h2, h3, q⟩ := h
    refine ⟨_, (pss_cons (ps_set (i := 3) sc_L_names.nd rfl (.inl rfl) pe_str)
  (pss_cons (ps_set (i := 4) sc_L_names.nd rfl (.inl rfl) pe_str)
  (pss_cons (ps_for PassesOwn.never rfl (pi_range1 (by rfl) m_range (pa_cons pe_int pa_nil)) (pg_name (i := 5) sc_L_names.nd rfl (.inl rfl))
    (pss_one (ps_set (i := 4) sc_L_names.nd rfl (.inl rfl) (pe_op op_add_str (pe_op op_add_str (pv 4) (pe_ix ix_str (pv 3) (pe_callD d_L_part (hr.mono (by decide)) (by rfl) (pa_cons (pv 0) (pa_cons (pe_op op_add (pv 1) (pv 5)) (pa_cons pe_int (pa_cons pe_int pa_nil))))) (fun _ _ => rfl))) (pe_ix ix_str (pv 3) (pe_callD d_L_part (hr.mono (by decide)) (by rfl) (pa_cons (pv 0) (pa_cons (pe_op op_add (pv 1) (pv 5)) (pa_cons pe_int (pa_cons pe_int pa_nil))))) (fun _ _ => rfl))))))
  (pss_cons (ps_set (i := 6) sc_L_names.nd rfl (.inl rfl) (pe_callD d_L_part (hr.mono (by decide)) (by rfl) (pa_cons (pv 0) (pa_cons (pe_op op_add (pv 1) pe_int) (pa_cons pe_int (pa_cons pe_int pa_nil))))))
  (pss_cons (ps_set (i := 7) sc_L_names.nd rfl (.inl rfl) (pe_callD d_L_part (hr.mono (by decide)) (by rfl) (pa_cons (pv 0) (pa_cons (pe_op op_add (pv 1) pe_int) (pa_cons pe_int (pa_cons pe_int pa_nil))))))
  (pss_cons (ps_set (i := 8) sc_L_names.nd rfl (.inl rfl) (pe_callD d_L_part (hr.mono (by decide)) (by rfl) (pa_cons (pv 0) (pa_cons (pe_op op_add (pv 1) pe_int) (pa_cons pe_int (pa_cons pe_int pa_nil))))))
  (pss_cons (ps_set (i := 9) sc_L_names.nd rfl (.inl rfl) (pe_slice sl_str (pv 4) po_none (po_some (pe_callD d_L_part (hr.mono (by decide)) (by rfl) (pa_cons (pv 0) (pa_cons (pe_op op_add (pv 1) pe_int) (pa_cons pe_int (pa_cons pe_int pa_nil))))))))
  (pss_cons (ps_set (i := 10) sc_L_names.nd rfl (.inl rfl) (pe_slice sl_str (pv 4) po_none (po_some (pe_callD d_L_part (hr.mono (by decide)) (by rfl) (pa_cons (pv 0) (pa_cons (pe_op op_add (pv 1) pe_int) (pa_cons pe_int (pa_cons pe_int pa_nil))))))))
  (pss_cons (ps_set (i := 11) sc_L_names.nd rfl (.inl rfl) (pe_lst pa_nil))
  (pss_cons (ps_for PassesOwn.never rfl (pi_range1 (by rfl) m_range (pa_cons (pv 2) pa_nil)) (pg_name (i := 5) sc_L_names.nd rfl (.inl rfl))
    (pss_cons (ps_set (i := 12) sc_L_names.nd rfl (.inl rfl) (pe_op op_mod (pe_callTy call_int1 (by rfl) m_int (by decide +kernel) (pa_cons (pe_op op_add (pv 5) (pv 6)) pa_nil)) pe_int))
  (pss_one (ps_if (pt_cmpR op_eq (pe_callD d_L_part (hr.mono (by decide)) (by rfl) (pa_cons (pv 0) (pa_cons (pe_op op_add (pv 1) pe_int) (pa_cons pe_int (pa_cons pe_int pa_nil))))) pe_int (nomark _)) (pss_one (ps_expr (pe_bm PySem.F.plainAttrs_list PySem.F.slot_list_append PySem.F.type_list_append mt_append (pv 11) (pa_cons (pe_op op_add_str (pe_op op_add_str (pe_op op_add_str (pe_slice sl_str (pv 9) po_none (po_some (pv 7))) (pe_ix ix_str (pv 3) (pe_op op_mod (pe_callTy call_int1 (by rfl) m_int (by decide +kernel) (pa_cons (pe_op op_add (pv 8) (pe_op op_mul pe_int (pv 12))) pa_nil)) pe_int) (fun _ _ => rfl))) (pe_slice sl_str (pv 9) (po_some (pv 7)) po_none)) (pv 10)) pa_nil)))) (pss_one (ps_expr (pe_bm PySem.F.plainAttrs_list PySem.F.slot_list_append PySem.F.type_list_append mt_append (pv 11) (pa_cons (pe_slice sl_str (pv 4) po_none (po_some (pe_op op_add (pv 12) pe_int))) pa_nil))))))))
  (pss_one (ps_ret (pv 11))))))))))))), ?_⟩
    refine ⟨_, rfl, by decide, by decide, for_range (fun i σ H' => H' = H ∧ ∃ (st : List Nat) (y : Option V), σ = [some (.ref a), some (.int s), some (.int n), some (.str lettersZ), some (vN st), y, none, none, none, none, none, none, none] ∧ st.length = 2 * i ∧ Let st) ⟨rfl, [], _, rfl, rfl, fun c hc => nomatch hc⟩ ?_ ?_⟩
    · rintro i σ H' hi ⟨rfl, st, y, rfl, hl, le⟩
      have hi3 : i < 3 := hi
      have b1 := part_lo (ns := ns) (s := s + (0 + (i : Int))) (u := 1) (z := 26) (by decide)
      have b2 := part_hi (ns := ns) (s := s + (0 + (i : Int))) (u := 1) (z := 26) (by decide)
      have c1 := part_lo (ns := ns) (s := s + (0 + (i : Int))) (u := 26) (z := 26) (by decide)
      have c2 := part_hi (ns := ns) (s := s + (0 + (i : Int))) (u := 26) (z := 26) (by decide)
      refine ⟨_, rfl, _, rfl, _, rfl, _, rfl, _, rfl, _, _, rfl, rfl, _, _, _, _, _, rfl, hS, by omega, by omega, by decide, by decide, by decide, ?_⟩
      refine ⟨_, _, _, rfl, rfl, by rw [letters_len]; decide, letter_at b1 b2, _, _, rfl, rfl, ?_, ?_⟩
      · rw [sOf_len, sOf_one, sOf_len]; exact Nat.le_of_lt (small1000 (by simp only [List.length_cons, List.length_nil]; omega))
      refine ⟨_, rfl, _, rfl, _, rfl, _, rfl, _, _, rfl, rfl, _, _, _, _, _, rfl, hS, by omega, by omega, by decide, by decide, by decide, ?_⟩
      refine ⟨_, _, _, rfl, rfl, by rw [letters_len]; decide, letter_at c1 c2, _, _, rfl, rfl, ?_, ?_⟩
      · rw [sOf_one, sOf_one, sOf_app, sOf_len, sOf_len]; exact Nat.le_of_lt (small1000 (by simp only [List.length_append, List.length_cons, List.length_nil]; omega))
      refine ⟨rfl, (st ++ [97 + (partOf ns (s + (0 + (i : Int))) 1 26).toNat]) ++ [97 + (partOf ns (s + (0 + (i : Int))) 26 26).toNat], some (.int (0 + (i : Int))), ?_, ?_, ?_⟩
      · rw [sOf_one, sOf_one, sOf_app, sOf_app]; rfl
      · simp only [List.length_append, List.length_cons, List.length_nil]; omega
      · exact (le.app (.one (by omega))).app (.one (by omega))
    · rintro σ H' ⟨rfl, st, y, rfl, hl, le⟩
      have hl : st.length = 6 := hl
      have t1 := part_lo (ns := ns) (s := s + 3) (u := 1) (z := 6) (by decide)
      have t2 := part_hi (ns := ns) (s := s + 3) (u := 1) (z := 6) (by decide)
      have u1 := part_lo (ns := ns) (s := s + 3) (u := 6) (z := 7) (by decide)
      have u2 := part_hi (ns := ns) (s := s + 3) (u := 6) (z := 7) (by decide)
      have v1 := part_lo (ns := ns) (s := s + 3) (u := 42) (z := 26) (by decide)
      have v2 := part_hi (ns := ns) (s := s + 3) (u := 42) (z := 26) (by decide)
      have w1 := part_lo (ns := ns) (s := s + 4) (u := 4) (z := 7) (by decide)
      have w2 := part_hi (ns := ns) (s := s + 4) (u := 4) (z := 7) (by decide)
      have x1 := part_lo (ns := ns) (s := s + 4) (u := 2) (z := 2) (by decide)
      have x2 := part_hi (ns := ns) (s := s + 4) (u := 2) (z := 2) (by decide)
      refine ⟨_, rfl, _, rfl, _, _, rfl, rfl, _, _, _, _, _, rfl, hS, by omega, by omega, by decide, by decide, by decide, ?_⟩
      refine ⟨_, rfl, _, rfl, _, _, rfl, rfl, _, _, _, _, _, rfl, hS, by omega, by omega, by decide, by decide, by decide, ?_⟩
      refine ⟨_, rfl, _, rfl, _, _, rfl, rfl, _, _, _, _, _, rfl, hS, by omega, by omega, by decide, by decide, by decide, ?_⟩
      refine ⟨_, rfl, _, rfl, _, rfl, _, _, rfl, rfl, _, _, _, _, _, rfl, hS, by omega, by omega, by decide, by decide, by decide, _, rfl, _, rfl, small_len (by omega), ?_⟩
      refine ⟨_, rfl, _, rfl, _, rfl, _, _, rfl, rfl, _, _, _, _, _, rfl, hS, by omega, by omega, by decide, by decide, by decide, _, rfl, _, rfl, small_len (by omega), ?_⟩
      rw [cut_to st w1, cut_to st x1]
      refine ⟨Nat.zero_le _, fun p np => ?_⟩
      have hS2 : ∀ o, SqL K (upd H' p o) a (ns.map V.int) := fun o => (same_upd np).seq hS
      let nf := nameF (decide (partOf ns (s + 4) 1 2 = 0)) st (st.take (partOf ns (s + 4) 4 7).toNat) (st.take (partOf ns (s + 4) 2 2).toNat) (partOf ns (s + 3) 6 7).toNat (partOf ns (s + 3) 42 26).toNat (partOf ns (s + 3) 1 6).toNat
      refine ⟨_, rfl, _, rfl, by omega, by omega, for_range (fun i σ H2 => H2 = upd H' p (.lst (((List.range i).map nf).map vN)) ∧ ∃ (y m : Option V), σ = [some (.ref a), some (.int s), some (.int n), some (.str lettersZ), some (vN st), y, some (.int (partOf ns (s + 3) 1 6)), some (.int (partOf ns (s + 3) 6 7)), some (.int (partOf ns (s + 3) 42 26)), some (vN (st.take (partOf ns (s + 4) 4 7).toNat)), some (vN (st.take (partOf ns (s + 4) 2 2).toNat)), some (.ref p), m]) ⟨rfl, _, _, rfl⟩ ?_ ?_⟩
      · rintro i σ H2 hi ⟨rfl, y, m, rfl⟩
        have hz : (((List.range i).map nf).map vN).length < sizeLine := by rw [List.length_map, List.length_map, List.length_range]; exact small1000 (by omega)
        have mk : (0 + (i : Int) + partOf ns (s + 3) 1 6) % 6 = (((i + (partOf ns (s + 3) 1 6).toNat) % 6 : Nat) : Int) := by omega
        have next : ∀ (l : List Nat), l = nf i → ((List.range i).map nf).map vN ++ [vN l] = ((List.range (i + 1)).map nf).map vN := by
          intro l e
          rw [List.range_succ, List.map_append, List.map_append, e]
          rfl
        refine ⟨_, rfl, _, rfl, _, _, rfl, rfl, .inl ⟨_, rfl, _, _, rfl, rfl, pz, ?_⟩⟩
        refine ⟨_, rfl, _, rfl, _, _, rfl, rfl, _, _, _, _, _, rfl, hS2 _, by omega, by omega, by decide, by decide, by decide, rfl, _, rfl, ite2 (fun e => ?_) (fun e => ?_)⟩
        · have e1 : decide (partOf ns (s + 4) 1 2 = 0) = true := by
            have := V.int.inj (of_decide_eq_true e)
            exact decide_eq_true this
          have f1 : 0 ≤ (partOf ns (s + 3) 42 26 + 7 * ((0 + (i : Int) + partOf ns (s + 3) 1 6) % 6)) % 26 := by omega
          have f2 : (partOf ns (s + 3) 42 26 + 7 * ((0 + (i : Int) + partOf ns (s + 3) 1 6) % 6)) % 26 < 26 := by omega
          refine ⟨_, rfl, .inl ⟨rfl, _, lstAt upd_same⟩, ?_⟩
          refine ⟨_, rfl, _, rfl, _, rfl, _, rfl, small_len (by rw [List.length_take]; omega), ?_⟩
          refine ⟨_, rfl, _, rfl, _, rfl, _, _, rfl, rfl, .inl (by decide), _, _, rfl, rfl, .inl ⟨_, rfl, _, _, rfl, rfl, pz, _, _, _, rfl, rfl, by rw [letters_len]; decide, letter_at f1 f2, ?_⟩⟩
          rw [cut_to _ u1]
          refine ⟨_, _, rfl, rfl, ?_, ?_⟩
          · rw [sOf_one, sOf_len, sOf_len]
            exact Nat.le_of_lt (small1000 (by rw [List.length_take, List.length_take]; simp only [List.length_cons, List.length_nil]; omega))
          refine ⟨_, rfl, _, rfl, _, rfl, _, rfl, small_len (by rw [List.length_take]; omega), ?_⟩
          rw [cut_from _ u1, sOf_one, sOf_app]
          refine ⟨_, _, rfl, rfl, ?_, ?_⟩
          · rw [sOf_len, sOf_len]
            exact Nat.le_of_lt (small1000 (by rw [List.length_append, List.length_take, List.length_take, List.length_drop, List.length_take]; simp only [List.length_cons, List.length_nil]; omega))
          refine ⟨_, rfl, _, _, rfl, rfl, ?_, ?_⟩
          · rw [sOf_app, sOf_len, sOf_len]
            exact Nat.le_of_lt (small1000 (by rw [List.length_append, List.length_append, List.length_take, List.length_take, List.length_drop, List.length_take, List.length_take]; simp only [List.length_cons, List.length_nil]; omega))
          rw [sOf_app, sOf_app]
          refine ⟨_, _, _, rfl, rfl, upd_same, hz, ?_, _, _, rfl⟩
          rw [upd_twice]
          congr 2
          refine next _ ?_
          show _ = nameF _ _ _ _ _ _ _ _
          unfold nameF
          rw [if_pos e1]
          congr 5
          omega
        · have e1 : ¬ decide (partOf ns (s + 4) 1 2 = 0) = true := by
            intro z
            have := of_decide_eq_true z
            exact e (decide_eq_true (congrArg V.int this))
          refine ⟨_, rfl, .inl ⟨rfl, _, lstAt upd_same⟩, ?_⟩
          refine ⟨_, rfl, _, rfl, _, _, rfl, rfl, _, rfl, _, rfl, small_len (by omega), ?_⟩
          rw [cut_to _ (show (0 : Int) ≤ (0 + (i : Int) + partOf ns (s + 3) 1 6) % 6 + 1 by omega)]
          refine ⟨_, _, _, rfl, rfl, upd_same, hz, ?_, _, _, rfl⟩
          rw [upd_twice]
          congr 2
          refine next _ ?_
          show _ = nameF _ _ _ _ _ _ _ _
          unfold nameF
          rw [if_neg e1]
          congr 1
          omega
      · rintro σ H2 ⟨rfl, y, m, rfl⟩
        refine ⟨_, rfl, q p ((List.range n.toNat).map nf) np ?_ ?_ ?_⟩
        · rw [List.length_map, List.length_range]; omega
        · intro z hz
          obtain ⟨k, hk, rfl⟩ := List.mem_map.mp hz
          exact nameF_nm hl (by rw [List.length_take]; omega) (by rw [List.length_take]; omega) le (le.take _) (le.take _)
        · refine nodup_range fun k j hk hj e => ?_
          exact nameF_inj hl (by omega) (by omega) e
end
end TK

namespace TK
open PySem PySem.Spec PyProof.Rows L2
section
variable {P : Program} {w : World} {K : PySem.W.Frag} {mg : Str → Option Value} {base : Heap}
/-! _law_integer: of an int -/
def spInteger : Sp := fun vs H Q _ => ∃ i : Int, vs = [.int i] ∧ Q (.bl true) H
theorem ok_L_integer {f : Addr} {fd : FuncData} (F : Fun K "_law_integer" "_law_integer" s_L_integer f fd) (m_isinstance : mg "isinstance" = none) (m_int : mg "int" = none) (m_bool : mg "bool" = none) :
    FnOk P w K mg base CX0 1 f fd ["_law_got"] spInteger := by
  refine F.ok sc_L_integer (fun vs H Q E h => ?_) (fun cdv A outer s H vs Q E hr h => ?_)
  · obtain ⟨i, rfl, _⟩ := h
    rfl
  · obtain ⟨i, rfl, q⟩ := h
    refine ⟨_, (pss_one (ps_ret (pe_and (pe_callB call_isi (by rfl) m_isinstance (by decide +kernel) (pa_cons (pv 0) (pa_cons (pe_bltn (v := .ty "int") (u := .type "int") (by rfl) m_int (by decide +kernel) rfl) pa_nil))) (pe_one (pe_not (pe_callB call_isi (by rfl) m_isinstance (by decide +kernel) (pa_cons (pv 0) (pa_cons (pe_bltn (v := .ty "bool") (u := .type "bool") (by rfl) m_bool (by decide +kernel) rfl) pa_nil)))))))), ?_⟩
    refine ⟨_, rfl, _, _, _, _, true, rfl, .ty "int", .base (.int i), rfl, _, rfl, iteT ?_⟩
    refine ⟨_, rfl, _, _, _, _, false, rfl, .ty "bool", .base (.int i), rfl, _, rfl, ?_⟩
    exact q
end
end TK

namespace TK
open PySem PySem.Spec PyProof.Rows L2
/-! ### the same data, down to a depth -/
def flat1 : V → Bool
  | .non => true | .bl _ => true | .int _ => true | .str _ => true | _ => false
/-- a tuple, known to the object or not -/
def TL (H : Hp) (a : Addr) (xs : List V) : Prop := H a = some (.tup xs) ∨ ∃ o, H a = some (.frz o (.tup xs))
theorem TL.ty {K : PySem.W.Frag} {H : Hp} {a : Addr} {xs : List V} (h : TL H a xs) : TyX K H (.ref a) (.type "tuple") := by
  rcases h with h | ⟨o, h⟩
  · exact .base (.tup h)
  · exact .fTuple h
theorem TL.sq {K : PySem.W.Frag} {H : Hp} {a : Addr} {xs : List V} (h : TL H a xs) : SqT K H a xs := .inl (h.elim .inl .inr)
def Eq2 (H : Hp) : Nat → V → V → Prop
  | 0, x, y => x = y ∧ flat1 x = true
  | n + 1, x, y => (x = y ∧ flat1 x = true) ∨ ∃ (a b : Addr) (xs ys : List V), x = .ref a ∧ y = .ref b ∧ ((H a = some (.lst xs) ∧ H b = some (.lst ys)) ∨ (TL H a xs ∧ TL H b ys)) ∧ xs.length = ys.length ∧ xs.length < 2 ^ 40 ∧
      ∀ (i : Nat) (x y : V), xs[i]? = some x → ys[i]? = some y → Eq2 H n x y
theorem bint {z : V} {H : Hp} {Q : VK} (h : z = .bl true) (q : Q (.bl true) H) : Q z H := h ▸ q
section
variable {P : Program} {w : World} {K : PySem.W.Frag} {mg : Str → Option Value} {base : Heap}
def spSame (n : Nat) : Sp := fun vs H Q _ => ∃ x y, vs = [x, y] ∧ Eq2 H n x y ∧ Q (.bl true) H
theorem same_tail {x y : V} {H : Hp} (ex : x = y) (fx : flat1 x = true) : (x = .non ∧ y = .non) ∨ (∃ b, x = .bl b ∧ y = .bl b) ∨ (∃ i, x = .int i ∧ y = .int i) ∨ ∃ z, x = .str z ∧ y = .str z := by
  subst ex
  cases x with
  | non => exact .inl ⟨rfl, rfl⟩
  | bl b => exact .inr (.inl ⟨b, rfl, rfl⟩)
  | int i => exact .inr (.inr (.inl ⟨i, rfl, rfl⟩))
  | str z => exact .inr (.inr (.inr ⟨z, rfl, rfl⟩))
  | byt _ => cases fx
  | flt _ => cases fx
  | ref _ => cases fx
  | ty _ => cases fx
structure SameTx (K : PySem.W.Frag) (mg : Str → Option Value) : Prop where
  m_isinstance : mg "isinstance" = none
  m_int : mg "int" = none
  m_bool : mg "bool" = none
  m_str : mg "str" = none
  m_tuple : mg "tuple" = none
  m_list : mg "list" = none
  m_len : mg "len" = none
  m_range : mg "range" = none
theorem ok_L_same {f : Addr} {fd : FuncData} (F : Fun K "_law_same" "_law_same" s_L_same f fd) (g : mg "_law_same" = some (.ref f)) (b : Binds K fd ["_law_got", "_law_wanted"] []) (T : SameTx K mg) (d_L_integer : Def P w K mg base "_law_integer" 1 ["_law_got"] spInteger) :
    ∀ n : Nat, n ≤ 10 → FnOk P w K mg base CX0 (n + 2) f fd ["_law_got", "_law_wanted"] (spSame n) := by
  obtain ⟨m_isinstance, m_int, m_bool, m_str, m_tuple, m_list, m_len, m_range⟩ := T
  intro n
  induction n with
  | zero =>
    intro _
    refine F.ok sc_L_same (fun vs H Q E h => ?_) (fun cdv A outer s H vs Q E hr h => ?_)
    · obtain ⟨x, y, rfl, _⟩ := h
      rfl
    · obtain ⟨x, y, rfl, ⟨ex, fx⟩, q⟩ := h
      refine ⟨_, (pss_cons (ps_if (pt_cmpR op_isN (pv 1) pe_non (nomark _)) (pss_one (ps_ret (pe_cmpR op_isN (pv 0) pe_non (nomark _)))) pss_nil)
  (pss_cons (ps_if (pt_cmpR op_isT (pv 1) pe_bl (nomark _)) (pss_one (ps_ret (pe_cmpR op_isT (pv 0) pe_bl (nomark _)))) pss_nil)
  (pss_cons (ps_if (pt_cmpR op_isT (pv 1) pe_bl (nomark _)) (pss_one (ps_ret (pe_cmpR op_isT (pv 0) pe_bl (nomark _)))) pss_nil)
  (pss_cons (ps_if (pt_val (pe_callB call_isi (by rfl) m_isinstance (by decide +kernel) (pa_cons (pv 1) (pa_cons (pe_bltn (v := .ty "int") (u := .type "int") (by rfl) m_int (by decide +kernel) rfl) pa_nil)))) (pss_one (ps_ret (pe_and (pe_callD d_L_integer (hr.mono (by omega)) (by rfl) (pa_cons (pv 0) pa_nil)) (pe_one (pe_cmpR op_eq (pv 0) (pv 1) (nomark _)))))) pss_nil)
  (pss_cons (ps_if (pt_val (pe_callB call_isi (by rfl) m_isinstance (by decide +kernel) (pa_cons (pv 1) (pa_cons (pe_bltn (v := .ty "str") (u := .type "str") (by rfl) m_str (by decide +kernel) rfl) pa_nil)))) (pss_one (ps_ret (pe_and (pe_callB call_isi (by rfl) m_isinstance (by decide +kernel) (pa_cons (pv 0) (pa_cons (pe_bltn (v := .ty "str") (u := .type "str") (by rfl) m_str (by decide +kernel) rfl) pa_nil))) (pe_one (pe_cmpR op_eq (pv 0) (pv 1) (nomark _)))))) pss_nil)
  (pss_cons (ps_if (PW.pt (pw_and (pt_val (pe_callB call_isi (by rfl) m_isinstance (by decide +kernel) (pa_cons (pv 1) (pa_cons (pe_bltn (v := .ty "tuple") (u := .type "tuple") (by rfl) m_tuple (by decide +kernel) rfl) pa_nil)))) (pw_and1 (pt_not (pt_val (pe_callB call_isi (by rfl) m_isinstance (by decide +kernel) (pa_cons (pv 0) (pa_cons (pe_bltn (v := .ty "tuple") (u := .type "tuple") (by rfl) m_tuple (by decide +kernel) rfl) pa_nil)))))))) (pss_one (ps_ret pe_bl)) pss_nil)
  (pss_cons (ps_if (PW.pt (pw_and (pt_val (pe_callB call_isi (by rfl) m_isinstance (by decide +kernel) (pa_cons (pv 1) (pa_cons (pe_bltn (v := .ty "list") (u := .type "list") (by rfl) m_list (by decide +kernel) rfl) pa_nil)))) (pw_and1 (pt_not (pt_val (pe_callB call_isi (by rfl) m_isinstance (by decide +kernel) (pa_cons (pv 0) (pa_cons (pe_bltn (v := .ty "list") (u := .type "list") (by rfl) m_list (by decide +kernel) rfl) pa_nil)))))))) (pss_one (ps_ret pe_bl)) pss_nil)
  (pss_cons (ps_if (pt_cmpR op_ne (pe_callB call_len_seq (by rfl) m_len (by decide +kernel) (pa_cons (pv 0) pa_nil)) (pe_callB call_len_seq (by rfl) m_len (by decide +kernel) (pa_cons (pv 1) pa_nil)) (nomark _)) (pss_one (ps_ret pe_bl)) pss_nil)
  (pss_cons ps_never (pss_one ps_never)))))))))), ?_⟩
      rcases same_tail (H := H) ex fx with ⟨rfl, rfl⟩ | ⟨b, rfl, rfl⟩ | ⟨i, rfl, rfl⟩ | ⟨z, rfl, rfl⟩
      · exact ⟨_, rfl, rfl, _, rfl, iteT ⟨_, rfl, rfl, q⟩⟩
      · refine ⟨_, rfl, rfl, _, rfl, iteF ⟨_, rfl, _, rfl, _, rfl, ?_⟩⟩
        cases b with
        | true => exact iteT ⟨_, rfl, _, rfl, q⟩
        | false => exact iteF ⟨_, rfl, _, rfl, _, rfl, iteT ⟨_, rfl, _, rfl, q⟩⟩
      · refine ⟨_, rfl, rfl, _, rfl, iteF ⟨_, rfl, _, rfl, _, rfl, iteF ⟨_, rfl, _, rfl, _, rfl, iteF ?_⟩⟩⟩
        refine ⟨_, rfl, _, _, _, _, true, rfl, .ty "int", .base (.int i), rfl, _, rfl, iteT ?_⟩
        refine ⟨_, rfl, i, rfl, _, rfl, iteT ⟨_, rfl, _, rfl, rfl, ?_⟩⟩
        exact bint (congrArg V.bl (decide_eq_true rfl)) q
      · refine ⟨_, rfl, rfl, _, rfl, iteF ⟨_, rfl, _, rfl, _, rfl, iteF ⟨_, rfl, _, rfl, _, rfl, iteF ?_⟩⟩⟩
        refine ⟨_, rfl, _, _, _, _, false, rfl, .ty "int", .base (.str z), rfl, _, rfl, iteF ?_⟩
        refine ⟨_, rfl, _, _, _, _, true, rfl, .ty "str", .base (.str z), rfl, _, rfl, iteT ?_⟩
        refine ⟨_, rfl, _, _, _, _, true, rfl, .ty "str", .base (.str z), rfl, _, rfl, iteT ⟨_, rfl, _, rfl, rfl, ?_⟩⟩
        exact bint (congrArg V.bl (decide_eq_true rfl)) q
  | succ n ih =>
    intro hn
    have d_L_same : Def P w K mg base "_law_same" (n + 2) ["_law_got", "_law_wanted"] (spSame n) := ⟨_, _, ih (by omega), g, F.kp, b⟩
    refine F.ok sc_L_same (fun vs H Q E h => ?_) (fun cdv A outer s H vs Q E hr h => ?_)
    · obtain ⟨x, y, rfl, _⟩ := h
      rfl
    · obtain ⟨x, y, rfl, hE, q⟩ := h
      rcases hE with ⟨ex, fx⟩ | ⟨a, c, xs, ys, rfl, rfl, hk, hl, hz, hi⟩
      · refine ⟨_, (pss_cons (ps_if (pt_cmpR op_isN (pv 1) pe_non (nomark _)) (pss_one (ps_ret (pe_cmpR op_isN (pv 0) pe_non (nomark _)))) pss_nil)
  (pss_cons (ps_if (pt_cmpR op_isT (pv 1) pe_bl (nomark _)) (pss_one (ps_ret (pe_cmpR op_isT (pv 0) pe_bl (nomark _)))) pss_nil)
  (pss_cons (ps_if (pt_cmpR op_isT (pv 1) pe_bl (nomark _)) (pss_one (ps_ret (pe_cmpR op_isT (pv 0) pe_bl (nomark _)))) pss_nil)
  (pss_cons (ps_if (pt_val (pe_callB call_isi (by rfl) m_isinstance (by decide +kernel) (pa_cons (pv 1) (pa_cons (pe_bltn (v := .ty "int") (u := .type "int") (by rfl) m_int (by decide +kernel) rfl) pa_nil)))) (pss_one (ps_ret (pe_and (pe_callD d_L_integer (hr.mono (by omega)) (by rfl) (pa_cons (pv 0) pa_nil)) (pe_one (pe_cmpR op_eq (pv 0) (pv 1) (nomark _)))))) pss_nil)
  (pss_cons (ps_if (pt_val (pe_callB call_isi (by rfl) m_isinstance (by decide +kernel) (pa_cons (pv 1) (pa_cons (pe_bltn (v := .ty "str") (u := .type "str") (by rfl) m_str (by decide +kernel) rfl) pa_nil)))) (pss_one (ps_ret (pe_and (pe_callB call_isi (by rfl) m_isinstance (by decide +kernel) (pa_cons (pv 0) (pa_cons (pe_bltn (v := .ty "str") (u := .type "str") (by rfl) m_str (by decide +kernel) rfl) pa_nil))) (pe_one (pe_cmpR op_eq (pv 0) (pv 1) (nomark _)))))) pss_nil)
  (pss_cons (ps_if (PW.pt (pw_and (pt_val (pe_callB call_isi (by rfl) m_isinstance (by decide +kernel) (pa_cons (pv 1) (pa_cons (pe_bltn (v := .ty "tuple") (u := .type "tuple") (by rfl) m_tuple (by decide +kernel) rfl) pa_nil)))) (pw_and1 (pt_not (pt_val (pe_callB call_isi (by rfl) m_isinstance (by decide +kernel) (pa_cons (pv 0) (pa_cons (pe_bltn (v := .ty "tuple") (u := .type "tuple") (by rfl) m_tuple (by decide +kernel) rfl) pa_nil)))))))) (pss_one (ps_ret pe_bl)) pss_nil)
  (pss_cons (ps_if (PW.pt (pw_and (pt_val (pe_callB call_isi (by rfl) m_isinstance (by decide +kernel) (pa_cons (pv 1) (pa_cons (pe_bltn (v := .ty "list") (u := .type "list") (by rfl) m_list (by decide +kernel) rfl) pa_nil)))) (pw_and1 (pt_not (pt_val (pe_callB call_isi (by rfl) m_isinstance (by decide +kernel) (pa_cons (pv 0) (pa_cons (pe_bltn (v := .ty "list") (u := .type "list") (by rfl) m_list (by decide +kernel) rfl) pa_nil)))))))) (pss_one (ps_ret pe_bl)) pss_nil)
  (pss_cons (ps_if (pt_cmpR op_ne (pe_callB call_len_seq (by rfl) m_len (by decide +kernel) (pa_cons (pv 0) pa_nil)) (pe_callB call_len_seq (by rfl) m_len (by decide +kernel) (pa_cons (pv 1) pa_nil)) (nomark _)) (pss_one (ps_ret pe_bl)) pss_nil)
  (pss_cons ps_never (pss_one ps_never)))))))))), ?_⟩
        rcases same_tail (H := H) ex fx with ⟨rfl, rfl⟩ | ⟨b, rfl, rfl⟩ | ⟨i, rfl, rfl⟩ | ⟨z, rfl, rfl⟩
        · exact ⟨_, rfl, rfl, _, rfl, iteT ⟨_, rfl, rfl, q⟩⟩
        · refine ⟨_, rfl, rfl, _, rfl, iteF ⟨_, rfl, _, rfl, _, rfl, ?_⟩⟩
          cases b with
          | true => exact iteT ⟨_, rfl, _, rfl, q⟩
          | false => exact iteF ⟨_, rfl, _, rfl, _, rfl, iteT ⟨_, rfl, _, rfl, q⟩⟩
        · refine ⟨_, rfl, rfl, _, rfl, iteF ⟨_, rfl, _, rfl, _, rfl, iteF ⟨_, rfl, _, rfl, _, rfl, iteF ?_⟩⟩⟩
          refine ⟨_, rfl, _, _, _, _, true, rfl, .ty "int", .base (.int i), rfl, _, rfl, iteT ?_⟩
          refine ⟨_, rfl, i, rfl, _, rfl, iteT ⟨_, rfl, _, rfl, rfl, ?_⟩⟩
          exact bint (congrArg V.bl (decide_eq_true rfl)) q
        · refine ⟨_, rfl, rfl, _, rfl, iteF ⟨_, rfl, _, rfl, _, rfl, iteF ⟨_, rfl, _, rfl, _, rfl, iteF ?_⟩⟩⟩
          refine ⟨_, rfl, _, _, _, _, false, rfl, .ty "int", .base (.str z), rfl, _, rfl, iteF ?_⟩
          refine ⟨_, rfl, _, _, _, _, true, rfl, .ty "str", .base (.str z), rfl, _, rfl, iteT ?_⟩
          refine ⟨_, rfl, _, _, _, _, true, rfl, .ty "str", .base (.str z), rfl, _, rfl, iteT ⟨_, rfl, _, rfl, rfl, ?_⟩⟩
          exact bint (congrArg V.bl (decide_eq_true rfl)) q
      · have step : ∀ (i : Nat) (hi1 : i < ys.length), ∃ x y, atI xs (0 + (i : Int)) = some x ∧ atI ys (0 + (i : Int)) = some y ∧ Eq2 H n x y := by
          intro i h1
          have h2 : i < xs.length := by omega
          refine ⟨xs[i], ys[i], ?_, ?_, hi i _ _ (List.getElem?_eq_getElem h2) (List.getElem?_eq_getElem h1)⟩
          · exact atI_in (by omega) (by rw [show (0 + (i : Int)).toNat = i by omega]; exact List.getElem?_eq_getElem h2)
          · exact atI_in (by omega) (by rw [show (0 + (i : Int)).toNat = i by omega]; exact List.getElem?_eq_getElem h1)
        rcases hk with ⟨ha, hc⟩ | ⟨ha, hc⟩
        · refine ⟨_, (pss_cons (ps_if (pt_cmpR op_isN (pv 1) pe_non (nomark _)) (pss_one (ps_ret (pe_cmpR op_isN (pv 0) pe_non (nomark _)))) pss_nil)
  (pss_cons (ps_if (pt_cmpR op_isT (pv 1) pe_bl (nomark _)) (pss_one (ps_ret (pe_cmpR op_isT (pv 0) pe_bl (nomark _)))) pss_nil)
  (pss_cons (ps_if (pt_cmpR op_isT (pv 1) pe_bl (nomark _)) (pss_one (ps_ret (pe_cmpR op_isT (pv 0) pe_bl (nomark _)))) pss_nil)
  (pss_cons (ps_if (pt_val (pe_callB call_isi (by rfl) m_isinstance (by decide +kernel) (pa_cons (pv 1) (pa_cons (pe_bltn (v := .ty "int") (u := .type "int") (by rfl) m_int (by decide +kernel) rfl) pa_nil)))) (pss_one (ps_ret (pe_and (pe_callD d_L_integer (hr.mono (by omega)) (by rfl) (pa_cons (pv 0) pa_nil)) (pe_one (pe_cmpR op_eq (pv 0) (pv 1) (nomark _)))))) pss_nil)
  (pss_cons (ps_if (pt_val (pe_callB call_isi (by rfl) m_isinstance (by decide +kernel) (pa_cons (pv 1) (pa_cons (pe_bltn (v := .ty "str") (u := .type "str") (by rfl) m_str (by decide +kernel) rfl) pa_nil)))) (pss_one (ps_ret (pe_and (pe_callB call_isi (by rfl) m_isinstance (by decide +kernel) (pa_cons (pv 0) (pa_cons (pe_bltn (v := .ty "str") (u := .type "str") (by rfl) m_str (by decide +kernel) rfl) pa_nil))) (pe_one (pe_cmpR op_eq (pv 0) (pv 1) (nomark _)))))) pss_nil)
  (pss_cons (ps_if (PW.pt (pw_and (pt_val (pe_callB call_isi (by rfl) m_isinstance (by decide +kernel) (pa_cons (pv 1) (pa_cons (pe_bltn (v := .ty "tuple") (u := .type "tuple") (by rfl) m_tuple (by decide +kernel) rfl) pa_nil)))) (pw_and1 (pt_not (pt_val (pe_callB call_isi (by rfl) m_isinstance (by decide +kernel) (pa_cons (pv 0) (pa_cons (pe_bltn (v := .ty "tuple") (u := .type "tuple") (by rfl) m_tuple (by decide +kernel) rfl) pa_nil)))))))) (pss_one (ps_ret pe_bl)) pss_nil)
  (pss_cons (ps_if (PW.pt (pw_and (pt_val (pe_callB call_isi (by rfl) m_isinstance (by decide +kernel) (pa_cons (pv 1) (pa_cons (pe_bltn (v := .ty "list") (u := .type "list") (by rfl) m_list (by decide +kernel) rfl) pa_nil)))) (pw_and1 (pt_not (pt_val (pe_callB call_isi (by rfl) m_isinstance (by decide +kernel) (pa_cons (pv 0) (pa_cons (pe_bltn (v := .ty "list") (u := .type "list") (by rfl) m_list (by decide +kernel) rfl) pa_nil)))))))) (pss_one (ps_ret pe_bl)) pss_nil)
  (pss_cons (ps_if (pt_cmpR op_ne (pe_callB call_len_seq (by rfl) m_len (by decide +kernel) (pa_cons (pv 0) pa_nil)) (pe_callB call_len_seq (by rfl) m_len (by decide +kernel) (pa_cons (pv 1) pa_nil)) (nomark _)) (pss_one (ps_ret pe_bl)) pss_nil)
  (pss_cons (ps_for PassesOwn.never rfl (pi_range1 (by rfl) m_range (pa_cons (pe_callB call_len_seq (by rfl) m_len (by decide +kernel) (pa_cons (pv 1) pa_nil)) pa_nil)) (pg_name (i := 2) sc_L_same.nd rfl (.inl rfl))
    (pss_one (ps_if (pt_not (pt_val (pe_callD d_L_same (hr.mono (by omega)) (by rfl) (pa_cons (pe_ix ix_list (pv 0) (pv 2) (fun _ _ => rfl)) (pa_cons (pe_ix ix_list (pv 1) (pv 2) (fun _ _ => rfl)) pa_nil))))) (pss_one (ps_ret pe_bl)) pss_nil)))
  (pss_one (ps_ret pe_bl))))))))))), ?_⟩
          refine ⟨_, rfl, rfl, _, rfl, iteF ⟨_, rfl, _, rfl, _, rfl, iteF ⟨_, rfl, _, rfl, _, rfl, iteF ?_⟩⟩⟩
          refine ⟨_, rfl, _, _, _, _, false, rfl, .ty "int", .base (.lst hc), rfl, _, rfl, iteF ?_⟩
          refine ⟨_, rfl, _, _, _, _, false, rfl, .ty "str", .base (.lst hc), rfl, _, rfl, iteF ?_⟩
          refine ⟨_, rfl, _, _, _, _, false, rfl, .ty "tuple", .base (.lst hc), rfl, _, rfl, iteF (iteF ?_)⟩
          refine ⟨_, rfl, _, _, _, _, true, rfl, .ty "list", .base (.lst hc), rfl, _, rfl, iteT ⟨_, rfl, _, _, _, _, true, rfl, .ty "list", .base (.lst ha), rfl, _, rfl, iteF ?_⟩⟩
          refine ⟨_, rfl, _, _, rfl, .inl (lstAt ha), _, rfl, _, _, rfl, .inl (lstAt hc), rfl, _, rfl, ?_⟩
          refine iteNS (congrArg (fun k : Nat => V.int (k : Int)) hl) ?_
          refine ⟨_, rfl, _, _, rfl, .inl (lstAt hc), _, rfl, by omega, by omega, for_range (fun i σ H' => H' = H ∧ ∃ y : Option V, σ = [some (.ref a), some (.ref c), y]) ⟨rfl, _, rfl⟩ ?_ ?_⟩
          · rintro i σ H' hlt ⟨rfl, y, rfl⟩
            obtain ⟨x1, y1, e1, e2, e3⟩ := step i (by omega)
            refine ⟨_, rfl, _, rfl, _, _, _, _, rfl, rfl, lstAt ha, e1, _, rfl, _, rfl, _, _, _, _, rfl, rfl, lstAt hc, e2, x1, y1, rfl, e3, _, rfl, iteF ⟨rfl, _, rfl⟩⟩
          · rintro σ H' ⟨rfl, y, rfl⟩
            exact q
        · refine ⟨_, (pss_cons (ps_if (pt_cmpR op_isN (pv 1) pe_non (nomark _)) (pss_one (ps_ret (pe_cmpR op_isN (pv 0) pe_non (nomark _)))) pss_nil)
  (pss_cons (ps_if (pt_cmpR op_isT (pv 1) pe_bl (nomark _)) (pss_one (ps_ret (pe_cmpR op_isT (pv 0) pe_bl (nomark _)))) pss_nil)
  (pss_cons (ps_if (pt_cmpR op_isT (pv 1) pe_bl (nomark _)) (pss_one (ps_ret (pe_cmpR op_isT (pv 0) pe_bl (nomark _)))) pss_nil)
  (pss_cons (ps_if (pt_val (pe_callB call_isi (by rfl) m_isinstance (by decide +kernel) (pa_cons (pv 1) (pa_cons (pe_bltn (v := .ty "int") (u := .type "int") (by rfl) m_int (by decide +kernel) rfl) pa_nil)))) (pss_one (ps_ret (pe_and (pe_callD d_L_integer (hr.mono (by omega)) (by rfl) (pa_cons (pv 0) pa_nil)) (pe_one (pe_cmpR op_eq (pv 0) (pv 1) (nomark _)))))) pss_nil)
  (pss_cons (ps_if (pt_val (pe_callB call_isi (by rfl) m_isinstance (by decide +kernel) (pa_cons (pv 1) (pa_cons (pe_bltn (v := .ty "str") (u := .type "str") (by rfl) m_str (by decide +kernel) rfl) pa_nil)))) (pss_one (ps_ret (pe_and (pe_callB call_isi (by rfl) m_isinstance (by decide +kernel) (pa_cons (pv 0) (pa_cons (pe_bltn (v := .ty "str") (u := .type "str") (by rfl) m_str (by decide +kernel) rfl) pa_nil))) (pe_one (pe_cmpR op_eq (pv 0) (pv 1) (nomark _)))))) pss_nil)
  (pss_cons (ps_if (PW.pt (pw_and (pt_val (pe_callB call_isi (by rfl) m_isinstance (by decide +kernel) (pa_cons (pv 1) (pa_cons (pe_bltn (v := .ty "tuple") (u := .type "tuple") (by rfl) m_tuple (by decide +kernel) rfl) pa_nil)))) (pw_and1 (pt_not (pt_val (pe_callB call_isi (by rfl) m_isinstance (by decide +kernel) (pa_cons (pv 0) (pa_cons (pe_bltn (v := .ty "tuple") (u := .type "tuple") (by rfl) m_tuple (by decide +kernel) rfl) pa_nil)))))))) (pss_one (ps_ret pe_bl)) pss_nil)
  (pss_cons (ps_if (PW.pt (pw_and (pt_val (pe_callB call_isi (by rfl) m_isinstance (by decide +kernel) (pa_cons (pv 1) (pa_cons (pe_bltn (v := .ty "list") (u := .type "list") (by rfl) m_list (by decide +kernel) rfl) pa_nil)))) (pw_and1 (pt_not (pt_val (pe_callB call_isi (by rfl) m_isinstance (by decide +kernel) (pa_cons (pv 0) (pa_cons (pe_bltn (v := .ty "list") (u := .type "list") (by rfl) m_list (by decide +kernel) rfl) pa_nil)))))))) (pss_one (ps_ret pe_bl)) pss_nil)
  (pss_cons (ps_if (pt_cmpR op_ne (pe_callB call_len_seq (by rfl) m_len (by decide +kernel) (pa_cons (pv 0) pa_nil)) (pe_callB call_len_seq (by rfl) m_len (by decide +kernel) (pa_cons (pv 1) pa_nil)) (nomark _)) (pss_one (ps_ret pe_bl)) pss_nil)
  (pss_cons (ps_for PassesOwn.never rfl (pi_range1 (by rfl) m_range (pa_cons (pe_callB call_len_seq (by rfl) m_len (by decide +kernel) (pa_cons (pv 1) pa_nil)) pa_nil)) (pg_name (i := 2) sc_L_same.nd rfl (.inl rfl))
    (pss_one (ps_if (pt_not (pt_val (pe_callD d_L_same (hr.mono (by omega)) (by rfl) (pa_cons (pe_ix ix_tup (pv 0) (pv 2) (fun _ _ => rfl)) (pa_cons (pe_ix ix_tup (pv 1) (pv 2) (fun _ _ => rfl)) pa_nil))))) (pss_one (ps_ret pe_bl)) pss_nil)))
  (pss_one (ps_ret pe_bl))))))))))), ?_⟩
          refine ⟨_, rfl, rfl, _, rfl, iteF ⟨_, rfl, _, rfl, _, rfl, iteF ⟨_, rfl, _, rfl, _, rfl, iteF ?_⟩⟩⟩
          refine ⟨_, rfl, _, _, _, _, false, rfl, .ty "int", hc.ty, rfl, _, rfl, iteF ?_⟩
          refine ⟨_, rfl, _, _, _, _, false, rfl, .ty "str", hc.ty, rfl, _, rfl, iteF ?_⟩
          refine ⟨_, rfl, _, _, _, _, true, rfl, .ty "tuple", hc.ty, rfl, _, rfl, iteT ⟨_, rfl, _, _, _, _, true, rfl, .ty "tuple", ha.ty, rfl, _, rfl, iteF ?_⟩⟩
          refine ⟨_, rfl, _, _, _, _, false, rfl, .ty "list", hc.ty, rfl, _, rfl, iteF (iteF ?_)⟩
          refine ⟨_, rfl, _, _, rfl, .inr (ha.sq), _, rfl, _, _, rfl, .inr (hc.sq), rfl, _, rfl, ?_⟩
          refine iteNS (congrArg (fun k : Nat => V.int (k : Int)) hl) ?_
          refine ⟨_, rfl, _, _, rfl, .inr (hc.sq), _, rfl, by omega, by omega, for_range (fun i σ H' => H' = H ∧ ∃ y : Option V, σ = [some (.ref a), some (.ref c), y]) ⟨rfl, _, rfl⟩ ?_ ?_⟩
          · rintro i σ H' hlt ⟨rfl, y, rfl⟩
            obtain ⟨x1, y1, e1, e2, e3⟩ := step i (by omega)
            refine ⟨_, rfl, _, rfl, _, _, _, _, rfl, rfl, ha.sq, e1, _, rfl, _, rfl, _, _, _, _, rfl, rfl, hc.sq, e2, x1, y1, rfl, e3, _, rfl, iteF ⟨rfl, _, rfl⟩⟩
          · rintro σ H' ⟨rfl, y, rfl⟩
            exact q
end
end TK

namespace TK
open PySem PySem.Spec PyProof.Rows L2
section
variable {X : Cx} {pins : List (Addr × Obj)} {σ : L2.St} {H : Hp} {s : Shared}
/-- an untracked object of ours comes to be tracked -/
theorem adopt {a : Addr} {o : HO} (I : Inv X pins σ H s) (f : FpOk X pins H a) (new : ObjOk X.prog X.w (upd H a o) s.heap a o) : Inv X pins σ (upd H a o) s := by
  obtain ⟨q0, q1, q2, q3, q4, q5⟩ := f
  have ne : ∀ b u, H b = some u → b ≠ a := fun b u e z => by rw [z, q0] at e; cases e
  refine I.step (h' := s.heap) (g' := s.gens) (t' := s.toks) (d' := s.drawn) (ch := [a]) (fun b hb => ?_) (fun b o _ _ _ e _ => e) (fun b o _ _ _ e _ => ⟨o.slots, e⟩) (fun b o hb _ n => ?_) (fun b o _ e => ⟨o, e⟩) (fun b xs e => ?_) (fun b o u e => ?_) (fun b ps e => ⟨#[], ?_⟩) (fun m hm => hm) (fun b u e => ?_) I.bare
  · have e : b = a := by simpa using hb
    subst e
    exact ⟨q3, q1, q4, q5⟩
  · rw [upd_ne (fun z => hb (by simp [z]))]; exact n
  · rw [upd_ne (ne b _ e)]; exact e
  · rw [upd_ne (ne b _ e)]; exact e
  · rw [upd_ne (ne b _ e), e]; simp
  · by_cases hb : b = a
    · subst hb
      rw [upd_same] at e
      cases e
      exact new
    · rw [upd_ne hb] at e
      exact (I.hok b u e).stay (fun c v _ q => q) (fun c q => by rw [upd_ne (ne c _ q)]; exact q) fun c xs q => by rw [upd_ne (ne c _ q)]; exact q
/-- a def called from within a built-in's method -/
theorem run_fn2 {k : Nat} {f : Addr} {fd : FuncData} {ps : List Str} {sp : Sp} {Q : VK} {us : List Value} {itm : List V} {E' : Value → Shared → Prop} (F : FnOk X.prog X.w X.K X.mg X.base CX0 k f fd ps sp) (hr : Room (k + 2) X.A) (hb : Binds X.K fd ps [])
    (I : Inv X pins σ H s) (r : Vals itm us) (h : sp itm H Q E0) : wpAny (model X.prog X.w) X.A.in1.in1 (call (.ref f) us) (EP X pins σ Q) E' s := by
  have hl : (us ++ []).length = ps.length := by rw [List.append_nil, ← r.length]; exact F.len _ _ _ _ h
  have hbb := hb s us I.kIn hl
  rw [List.append_nil] at hbb
  refine wpAny_call (codeAny_mono (F.run X.A.in1.in1 X.stack s H ⟨us, []⟩ us itm Q E0 hr.in1.in1 I.env0.in1.in1 hbb r h) fun r s' hq => ?_)
  cases r with
  | error e => exact False.elim hq
  | ok fl =>
    cases fl with
    | ret u => exact I.after hq
    | next => exact False.elim hq
    | brk => exact False.elim hq
    | cont => exact False.elim hq
end
section
variable {X : Cx} {pins : List (Addr × Obj)} {σ : L2.St} {H : Hp} {s : Shared} {A : Around} {E : Value → Shared → Prop} {a kS : Addr} {itm : List Value} {kl : List Int} {kar : Array Value} {e ep1 : Nat} {P : PySem.Fin → Shared → Prop}
theorem sb_tail {st : SortSt} (I : Inv X pins σ H s) (gk : s.heap.get? kS = some (seqObj "list" kar e)) (ga : s.heap.get? a = some (seqObj "list" #[] ep1)) (fa : FpOk X pins H a) (fk : FpOk X pins H kS) (hka : kS ≠ a)
    (hki : IntsAre kar.toList kl) (hle : kl.length = itm.length) (hsm : itm.length ≤ sizeLine) (hp : (arrOf st).Perm (kar.zip itm.toArray)) (hs : SortedTo (arrOf st) (arrOf st).size) (hfl : failedOf st = none)
    (hst : Stable intKind (arrOf st) (kar.zip itm.toArray))
    (h : ∀ s' out c, Inv X pins σ H s' → s'.heap.get? a = some (seqObj "list" out c) → KskOutSt false kl itm out.toList → P (.done (.ret .none)) s') :
    wpAny (model X.prog X.w) A (ksk_tail a false ep1 (.ref kS) st) P E s := by
  have hsm2 := hsm
  rw [sizeLine_eq] at hsm2
  have zk : kar.size = itm.length := by
    have h1 := hki.length
    rw [Array.length_toList] at h1
    omega
  have za : (arrOf st).size = itm.length := by rw [hp.size_eq, Array.size_zip, zk, List.size_toArray, Nat.min_self]
  have zo : ((arrOf st).map (·.2)).size = itm.length := by rw [Array.size_map]; exact za
  have s1 := Heap.SameBut.update s.heap kS (Obj.mapSeq fun _ => (#[] : Array Value))
  have ga1 : (s.heap.update kS (Obj.mapSeq fun _ => (#[] : Array Value))).get? a = some (seqObj "list" #[] ep1) := (s1.2 a hka.symm).trans ga
  have s2 := Heap.SameBut.update (s.heap.update kS (Obj.mapSeq fun _ => (#[] : Array Value))) a (Obj.mapSeq fun _ => (arrOf st).map (·.2))
  obtain ⟨cn, gcn⟩ : ∃ cn, ((s.heap.update kS (Obj.mapSeq fun _ => (#[] : Array Value))).update a (Obj.mapSeq fun _ => (arrOf st).map (·.2))).get? a = some (seqObj "list" ((arrOf st).map (·.2)) cn) :=
    ⟨_, get?_update_seq ga1 fun _ => (arrOf st).map (·.2)⟩
  obtain ⟨k0, k1, k2, k3, k4, k5⟩ := fk
  obtain ⟨a0, a1, a2, a3, a4, a5⟩ := fa
  have I1 : Inv X pins σ H { s with heap := s.heap.update kS (Obj.mapSeq fun _ => (#[] : Array Value)) } := I.turned (t' := s.toks) (fun b o hb q => (s1.2 b hb).trans q) k0 k1 k3 k4 k5
  unfold ksk_tail
  try dsimp only
  refine wpAny_bind (listUpdate_at gk rfl ?_ (by rw [zk, sizeLine_eq]; omega) (Nat.zero_le _))
  refine wpAny_bind (wpAny_letGo ?_)
  refine wpAny_bind (seqEpoch_at ga1 rfl ?_)
  refine wpAny_bind (listUpdate_at ga1 rfl ?_ (Nat.zero_le _) (Nat.le_trans (Nat.le_of_eq zo) (by rw [sizeLine_eq]; omega)))
  rw [hfl]
  simp only [bne_self_eq_false, Bool.false_eq_true, if_false]
  refine wpAny_pure (h _ _ cn (I1.turned (t' := s.toks) (fun b o hb q => (s2.2 b hb).trans q) a0 a1 a3 a4 a5) gcn ?_)
  exact ksk_outSt (b := false) hki hp hs (by simpa using hst)
theorem sb_end (I : Inv X pins σ H s) (gk : s.heap.get? kS = some (seqObj "list" kar e)) (ga : s.heap.get? a = some (seqObj "list" #[] ep1)) (fa : FpOk X pins H a) (fk : FpOk X pins H kS) (hka : kS ≠ a)
    (hki : IntsAre kar.toList kl) (hle : kl.length = itm.length) (hsm : itm.length ≤ sizeLine)
    (h : ∀ s' out c, Inv X pins σ H s' → s'.heap.get? a = some (seqObj "list" out c) → KskOutSt false kl itm out.toList → P (.done (.ret .none)) s') :
    wpAny (model X.prog X.w) A (ksk_end a false itm.toArray ep1 (.ref kS) kar) P E s := by
  have hsm2 := hsm
  rw [sizeLine_eq] at hsm2
  have zk : kar.size = itm.length := by
    have h1 := hki.length
    rw [Array.length_toList] at h1
    omega
  have zz : (kar.zip itm.toArray).size = itm.length := by rw [Array.size_zip, zk, List.size_toArray, Nat.min_self]
  unfold ksk_end
  try dsimp only
  simp only [Bool.false_eq_true, if_false]
  by_cases few : itm.toArray.size < 2
  · rw [if_pos few, if_pos few]
    refine wpAny_bind (wpAny_pure ?_)
    rw [StateT.run_pure]
    refine wpAny_bind (wpAny_pure ?_)
    try dsimp only
    refine sb_tail (st := SortSt.mk' general' (kar.zip itm.toArray) #[] 7 none) I gk ga fa fk hka hki hle hsm (Array.Perm.refl _) ?_ rfl (Stable.refl _) h
    intro i j hij jlt
    have hj2 : j < (kar.zip itm.toArray).size := jlt
    rw [zz] at hj2
    rw [List.size_toArray] at few
    have : i = j := by omega
    subst this
    exact Int.le_refl _
  · rw [if_neg few, if_neg few]
    rw [List.size_toArray] at few
    rw [ksk_kind hki (by rw [zk]; omega)]
    refine wpAny_bind (wpAny_pure ?_)
    refine wpAny_bind (wpAny_mono (wpS_sortRunsSt (κ := intKind) (a₀ := kar.zip itm.toArray)
      (st := SortSt.mk' oneType' (kar.zip itm.toArray) #[] 7 none)
      (Q := fun _ sq => (arrOf sq).Perm (kar.zip itm.toArray) ∧ failedOf sq = none ∧ SortedTo (arrOf sq) (arrOf sq).size ∧
        Stable intKind (arrOf sq) (kar.zip itm.toArray))
      intKind_oneLt (ksk_keysOfInt (ksk_intKeys hki)) ⟨Array.Perm.refl _, rfl, rfl⟩ rfl (Stable.refl _) (by rw [zz]; omega)
      fun sq a1 a2 a3 a4 => ⟨a1, a2, by rw [a1.size_eq]; exact sortedTo_of_int a3, a4⟩) ?_ fun _ _ e => e)
    rintro ⟨⟨⟩, sq⟩ s' ⟨rfl, hp, hf, hs, hst⟩
    try dsimp only
    exact sb_tail I gk ga fa fk hka hki hle hsm hp hs hf hst h
theorem sb_rest {f : Value} (I : Inv X pins σ H s) (gk : s.heap.get? kS = some (seqObj "list" #[] 0)) (ga : s.heap.get? a = some (seqObj "list" #[] ep1)) (fa : FpOk X pins H a) (fk : FpOk X pins H kS) (hka : kS ≠ a)
    (hle : kl.length = itm.length) (hsm : itm.length ≤ sizeLine)
    (turn : ∀ (i : Nat) (v : Value) (k : Int) (pins' : List (Addr × Obj)) (s' : Shared), itm[i]? = some v → kl[i]? = some k → Inv X pins' σ H s' →
      wpAny (model X.prog X.w) A (call f [v]) (EP X pins' σ fun x H' => x = .int k ∧ H' = H) (fun _ _ => False) s')
    (h : ∀ s' out c, Inv X pins σ H s' → s'.heap.get? a = some (seqObj "list" out c) → KskOutSt false kl itm out.toList → P (.done (.ret .none)) s') :
    wpAny (model X.prog X.w) A (ksk_rest a f false itm.toArray ep1 (.ref kS)) P E s := by
  have hsm2 := hsm
  rw [sizeLine_eq] at hsm2
  unfold ksk_rest
  refine wpAny_bind (wpAny_rule ?_)
  first
    | rw [List.forIn_toArray]
    | (rw [← Array.forIn_toList]; simp only [List.toList_toArray])
    | rw [← Array.forIn_toList]
  refine wpAny_bind (ksk_fold (fun i s' => ∃ gar e, Inv X pins σ H s' ∧ s'.heap.get? kS = some (seqObj "list" gar e) ∧ s'.heap.get? a = some (seqObj "list" #[] ep1) ∧ IntsAre gar.toList (kl.take i)) itm 0 s
    ⟨#[], 0, I, gk, ga, by simpa using IntsAre.nil⟩ ?step ?done)
  case step =>
    rintro j x s' hx ⟨gar, e, I', nk', na', hki⟩
    simp only [Nat.zero_add] at hki ⊢
    have jlt : j < itm.length := (List.getElem?_eq_some_iff.mp hx).1
    obtain ⟨k, ekj⟩ : ∃ k, kl[j]? = some k := ⟨_, List.getElem?_eq_getElem (by omega)⟩
    have gsm : gar.size ≤ itm.length := by
      have h1 := hki.length
      rw [Array.length_toList, List.length_take] at h1
      omega
    have I2 : Inv X (pins ++ [(kS, seqObj "list" gar e), (a, seqObj "list" #[] ep1)]) σ H s' := I'.pins_of fun p hp => by
      rcases List.mem_append.mp hp with hp | hp
      · exact I'.pin p (List.mem_append_right _ hp)
      · rcases List.mem_cons.mp hp with rfl | hp
        · exact ⟨nk', fk.1, fk.2.1, fk.2.2.1, fun v z => nomatch z⟩
        · rw [List.mem_singleton.mp hp]
          exact ⟨na', fa.1, fa.2.1, fa.2.2.1, fun v z => nomatch z⟩
    refine wpAny_bind (wpAny_attempt (wpAny_mono (turn j x k _ s' hx ekj I2) (fun v s'' he => ?_) fun _ _ hF => hF.elim))
    obtain ⟨y, H', I3, ry, rfl, rfl⟩ := he
    obtain ⟨t2, rfl⟩ : ∃ t, v = Value.int k t := ry
    try dsimp only
    have nk3 := (I3.pin (kS, seqObj "list" gar e) (List.mem_append_right _ (List.mem_append_right _ (.head _)))).1
    have na3 := (I3.pin (a, seqObj "list" #[] ep1) (List.mem_append_right _ (List.mem_append_right _ (.tail _ (.head _))))).1
    have s1 := Heap.SameBut.update s''.heap kS (Obj.mapSeq (·.push (.int k t2)))
    obtain ⟨cn, gcn⟩ : ∃ cn, (s''.heap.update kS (Obj.mapSeq (·.push (.int k t2)))).get? kS = some (seqObj "list" (gar.push (.int k t2)) cn) := ⟨_, get?_update_seq nk3 (·.push (.int k t2))⟩
    have et : kl.take (j + 1) = kl.take j ++ [k] := by rw [List.take_add_one, ekj]; simp
    have epu : (gar.push (Value.int k t2)).toList = gar.toList ++ [Value.int k t2] := by simp
    obtain ⟨k0, k1, _, k3, k4, k5⟩ := fk
    refine wpAny_bind (listUpdate_at nk3 rfl ?_ (by rw [sizeLine_eq]; omega) (Nat.le_trans (Nat.le_of_eq (Array.size_push ..)) (by rw [sizeLine_eq]; omega)))
    refine wpAny_pure ⟨rfl, gar.push (.int k t2), cn, I3.unpinned.turned (t' := s''.toks) (fun b o hb q => (s1.2 b hb).trans q) k0 k1 k3 k4 k5, gcn, (s1.2 a hka.symm).trans na3, by rw [epu, et]; exact ksk_snoc hki⟩
  case done =>
    rintro s' ⟨gar, e, I', nk', na', hki⟩
    have hkf : IntsAre gar.toList kl := by
      have eall : kl.take (0 + itm.length) = kl := List.take_of_length_le (by omega)
      rw [eall] at hki
      exact hki
    try dsimp only
    refine wpAny_bind (listItems_at nk' rfl ?_)
    exact sb_end I' nk' na' fa fk hka hkf hle hsm h
end
end TK

namespace TK
open PySem PySem.Spec PyProof.Rows L2
section
variable {prog : Program} {w : World} {A : Around} {E : Value → Shared → Prop} {s : Shared}
/-- the items of a tuple, drawn together -/
theorem collect_tup {t : Addr} {vs : List Value} {Q : List Value → Shared → Prop} (ht : IsTup s.heap t vs.toArray) (hsm : vs.length ≤ sizeLine)
    (h : Q vs { s with heap := (s.heap.push (seqObj "list" #[] 0)).update s.heap.objs.size (Obj.mapSeq (· ++ vs.toArray)) }) : wpAny (model prog w) A (collect (.ref t)) Q E s := by
  obtain ⟨ob, gob0, hcls, n, hdt⟩ := ht
  unfold collect
  refine wpAny_bind (wpAny_runValue (codeAny_builtin entry_proto_collect' ?_))
  show wpAny _ _ (do again (.builtin "list.__iadd__" ⟨[← newList [], .ref t], []⟩)) _ _ s
  refine wpAny_bind (wpAny_newList (wpAny_pure ⟨Code.quiet_builtin _ (by decide +kernel), codeAny_builtin entry_list_iadd' ?_⟩))
  show wpAny _ _ (Builtin.List.listExtendWith (.ref s.heap.objs.size) (.ref t) (.ref s.heap.objs.size)) _ _ { s with heap := s.heap.push (seqObj "list" #[] 0) }
  have gob : (s.heap.push (seqObj "list" #[] 0)).get? t = some ob := Heap.get?_push_of_some _ gob0
  have gnew : (s.heap.push (seqObj "list" #[] 0)).get? s.heap.objs.size = some (seqObj "list" #[] 0) := Heap.get?_push_size _ rfl
  unfold Builtin.List.listExtendWith
  refine wpAny_bind (wpAny_typeOf (T := "tuple") ⟨ob, gob, hcls⟩ ?_)
  rw [if_pos (by simp only [show (Value.type "tuple" == Value.type "tuple") = true from rfl, Bool.or_true])]
  refine wpAny_bind (listItems_at gob hdt (wpAny_bind (listItems_at gnew rfl ?_)))
  rw [if_neg (by simp)]
  refine wpAny_bind (listUpdate_at gnew rfl (wpAny_pure ?_) (Nat.zero_le _) (by simp only [Array.size_append, List.size_toArray, List.length_nil]; omega))
  show wpAny (model prog w) A (do
      let o ← load s.heap.objs.size
      match o.data with
      | .seq xs _ => pure xs.toList
      | _ => unsupported "internal:collect") Q E _
  refine wpAny_bind (wpAny_load (get?_update_seq gnew _) ?_)
  show wpAny _ _ (pure ((#[] : Array Value) ++ vs.toArray).toList) Q E _
  rw [show ((#[] : Array Value) ++ vs.toArray).toList = vs by simp]
  exact wpAny_pure h
end
section
variable {X : Cx} {pins : List (Addr × Obj)} {σ : L2.St} {H : Hp} {s : Shared} {A : Around} {E : Value → Shared → Prop} {a : Addr} {vs : List Value} {kz : List Int} {P : PySem.Fin → Shared → Prop}
theorem sb_sort {f : Value} {n : Nat} (I : Inv X pins σ H s) (ho : s.heap.get? a = some (seqObj "list" vs.toArray n)) (fa : FpOk X pins H a) (hlen : kz.length = vs.length) (hZ : vs.length ≤ sizeLine)
    (turn : ∀ (i : Nat) (v : Value) (k : Int) (pins' : List (Addr × Obj)) (s' : Shared), vs[i]? = some v → kz[i]? = some k → Inv X pins' σ H s' →
      wpAny (model X.prog X.w) A (call f [v]) (EP X pins' σ fun x H' => x = .int k ∧ H' = H) (fun _ _ => False) s')
    (h : ∀ s' out c, Inv X pins σ H s' → s'.heap.get? a = some (seqObj "list" out c) → KskOutSt false kz vs out.toList → P (.done (.ret .none)) s') :
    wpAny (model X.prog X.w) A (ksk_tree a f false) P E s := by
  have hZ2 := hZ
  rw [sizeLine_eq] at hZ2
  have hal : a < s.heap.objs.size := Heap.lt_size ho
  generalize hh1 : s.heap.update a (Obj.mapSeq fun _ => (#[] : Array Value)) = h1
  have sb : Heap.SameBut a s.heap h1 := by rw [← hh1]; exact Heap.SameBut.update s.heap a _
  obtain ⟨e1, ho1⟩ : ∃ e1, h1.get? a = some (seqObj "list" #[] e1) := by rw [← hh1]; exact ⟨_, get?_update_seq ho fun _ => #[]⟩
  have hz1 : h1.objs.size = s.heap.objs.size := by rw [← hh1, Heap.size_update]
  obtain ⟨a0, a1, a2, a3, a4, a5⟩ := id fa
  have I1 : Inv X pins σ H { s with heap := h1 } := I.turned (t' := s.toks) (fun b o hb q => (sb.2 b hb).trans q) a0 a1 a3 a4 a5
  have I2 : Inv X pins σ H { s with heap := (h1.push (seqObj "tuple" vs.toArray 0)).push (seqObj "list" #[] 0) } := I1.kept (t' := s.toks) fun b o q => Heap.get?_push_of_some _ (Heap.get?_push_of_some _ q)
  have hkz : (h1.push (seqObj "tuple" vs.toArray 0)).objs.size = s.heap.objs.size + 1 := by rw [size_push', hz1]
  unfold ksk_tree
  refine wpAny_bind (listItems_at ho rfl (wpAny_bind (listUpdate_at ho rfl ?_ (by rw [List.size_toArray, sizeLine_eq]; omega) (Nat.zero_le _))))
  rw [hh1]
  refine wpAny_bind (seqEpoch_at ho1 rfl (wpAny_bind (wpAny_newTuple (wpAny_bind (wpAny_newList (wpAny_holding ?_) (Nat.zero_le _))) (by show vs.length ≤ _; rw [sizeLine_eq]; omega))))
  refine sb_rest (s := { s with heap := (h1.push (seqObj "tuple" vs.toArray 0)).push (seqObj "list" #[] 0) }) (kS := (h1.push (seqObj "tuple" vs.toArray 0)).objs.size) I2 (Heap.get?_push_size _ rfl) (Heap.get?_push_of_some _ (Heap.get?_push_of_some _ ho1)) fa ?_ (Nat.ne_of_gt (by rw [hkz]; exact Nat.lt_succ_of_lt hal)) hlen hZ turn h
  exact I1.fpOk (by show h1.objs.size ≤ _; rw [hkz, hz1]; omega) (I1.hok.fresh (by show h1.objs.size ≤ _; rw [hkz, hz1]; omega))
end
/-! ### the stable order by a key -/
def insK {α : Type} (x : Int × α) : List (Int × α) → List (Int × α)
  | [] => [x]
  | y :: r => if x.1 ≤ y.1 then x :: y :: r else y :: insK x r
def sortK {α : Type} : List (Int × α) → List (Int × α)
  | [] => []
  | x :: r => insK x (sortK r)
section
variable {α : Type}
theorem insK_perm (x : Int × α) : ∀ l, (insK x l).Perm (x :: l)
  | [] => .refl _
  | y :: r => by
    unfold insK
    split
    · exact .refl _
    · exact ((insK_perm x r).cons y).trans (.swap x y r)
theorem sortK_perm : ∀ l : List (Int × α), (sortK l).Perm l
  | [] => .refl _
  | x :: r => (insK_perm x (sortK r)).trans ((sortK_perm r).cons x)
theorem insK_up (x : Int × α) : ∀ l : List (Int × α), l.Pairwise (fun p q => p.1 ≤ q.1) → (insK x l).Pairwise (fun p q => p.1 ≤ q.1)
  | [], _ => List.pairwise_singleton ..
  | y :: r, h => by
    unfold insK
    split
    · rename_i hx
      refine List.Pairwise.cons (fun z hsm => ?_) h
      rcases List.mem_cons.mp hsm with rfl | hsm
      · exact hx
      · exact Int.le_trans hx (List.rel_of_pairwise_cons h hsm)
    · rename_i hx
      refine List.Pairwise.cons (fun z hsm => ?_) (insK_up x r (List.Pairwise.of_cons h))
      rcases List.mem_cons.mp ((insK_perm x r).mem_iff.mp hsm) with rfl | hsm
      · omega
      · exact List.rel_of_pairwise_cons h hsm
theorem sortK_up : ∀ l : List (Int × α), (sortK l).Pairwise (fun p q => p.1 ≤ q.1)
  | [] => .nil
  | x :: r => insK_up x _ (sortK_up r)
theorem insK_filter (x : Int × α) (c : Int) : ∀ l : List (Int × α), l.Pairwise (fun p q => p.1 ≤ q.1) → (insK x l).filter (fun p => p.1 == c) = (x :: l).filter (fun p => p.1 == c)
  | [], _ => rfl
  | y :: r, h => by
    unfold insK
    split
    · rfl
    · rename_i hx
      have ih := insK_filter x c r (List.Pairwise.of_cons h)
      rw [List.filter_cons, ih, List.filter_cons, List.filter_cons, List.filter_cons]
      by_cases h1 : (x.1 == c) = true
      · by_cases h2 : (y.1 == c) = true
        · have e1 : x.1 = c := by simpa using h1
          have e2 : y.1 = c := by simpa using h2
          omega
        · simp [h1, h2]
      · simp [h1]
theorem sortK_filter (c : Int) : ∀ l : List (Int × α), (sortK l).filter (fun p => p.1 == c) = l.filter (fun p => p.1 == c)
  | [] => rfl
  | x :: r => by
    show (insK x (sortK r)).filter _ = _
    rw [insK_filter x c _ (sortK_up r), List.filter_cons, sortK_filter c r, List.filter_cons]
theorem stable_one : ∀ {l m : List (Int × α)}, l.Perm m → l.Pairwise (fun p q => p.1 ≤ q.1) → m.Pairwise (fun p q => p.1 ≤ q.1) → (∀ c, l.filter (fun p => p.1 == c) = m.filter (fun p => p.1 == c)) → l = m
  | [], m, hp, _, _, _ => by rw [List.nil_perm.mp hp]
  | x :: l, [], hp, _, _, _ => by cases hp.length_eq
  | x :: l, y :: m, hp, h1, h2, hf => by
    have le1 : x.1 ≤ y.1 := by
      rcases List.mem_cons.mp (hp.mem_iff.mpr (List.mem_cons_self ..) : y ∈ x :: l) with e | e
      · rw [e]; exact Int.le_refl _
      · exact List.rel_of_pairwise_cons h1 e
    have le2 : y.1 ≤ x.1 := by
      rcases List.mem_cons.mp (hp.mem_iff.mp (List.mem_cons_self ..) : x ∈ y :: m) with e | e
      · rw [e]; exact Int.le_refl _
      · exact List.rel_of_pairwise_cons h2 e
    have e : x.1 = y.1 := by omega
    have hx := hf x.1
    rw [List.filter_cons, List.filter_cons, if_pos (by simp), if_pos (by simp [e])] at hx
    obtain ⟨exy, _⟩ := List.cons.inj hx
    subst exy
    rw [stable_one (List.Perm.cons_inv hp) (List.Pairwise.of_cons h1) (List.Pairwise.of_cons h2) fun c => ?_]
    have := hf c
    rw [List.filter_cons, List.filter_cons] at this
    split at this
    · exact (List.cons.inj this).2
    · exact this
theorem insK_map {β : Type} (g : α → β) (x : Int × α) : ∀ l : List (Int × α), (insK x l).map (fun p => (p.1, g p.2)) = insK (x.1, g x.2) (l.map fun p => (p.1, g p.2))
  | [] => rfl
  | y :: r => by
    unfold insK
    by_cases h : x.1 ≤ y.1
    · rw [if_pos h]
      show _ = if x.1 ≤ y.1 then _ else _
      rw [if_pos h]; rfl
    · rw [if_neg h]
      show _ = if x.1 ≤ y.1 then _ else _
      rw [if_neg h, List.map_cons, insK_map g x r]
theorem sortK_map {β : Type} (g : α → β) : ∀ l : List (Int × α), (sortK l).map (fun p => (p.1, g p.2)) = sortK (l.map fun p => (p.1, g p.2))
  | [] => rfl
  | x :: r => by
    show (insK x (sortK r)).map _ = insK _ (sortK (r.map _))
    rw [insK_map, sortK_map g r]
end
/-- sorted pairs of related values are related -/
theorem insK_rel {x : Int × V} {u : Int × Value} (e : x.1 = u.1) (r : RelV x.2 u.2) : ∀ {l : List (Int × V)} {m : List (Int × Value)}, Paired (fun p q => p.1 = q.1 ∧ RelV p.2 q.2) l m → Paired (fun (p : Int × V) (q : Int × Value) => p.1 = q.1 ∧ RelV p.2 q.2) (insK x l) (insK u m)
  | _, _, .nil => .cons ⟨e, r⟩ .nil
  | y :: l, v :: m, .cons h t => by
    unfold insK
    rw [← e, ← h.1]
    split
    · exact .cons ⟨e, r⟩ (.cons h t)
    · exact .cons h (insK_rel e r t)
theorem sortK_rel : ∀ {l : List (Int × V)} {m : List (Int × Value)}, Paired (fun p q => p.1 = q.1 ∧ RelV p.2 q.2) l m → Paired (fun (p : Int × V) (q : Int × Value) => p.1 = q.1 ∧ RelV p.2 q.2) (sortK l) (sortK m)
  | _, _, .nil => .nil
  | _, _, .cons h t => insK_rel h.1 h.2 (sortK_rel t)
theorem zip_rel : ∀ {kz : List Int} {xs : List V} {us : List Value}, Vals xs us → Paired (fun (p : Int × V) (q : Int × Value) => p.1 = q.1 ∧ RelV p.2 q.2) (kz.zip xs) (kz.zip us)
  | [], _, _, _ => .nil
  | _ :: _, _, _, .nil => .nil
  | k :: kz, _, _, .cons r t => .cons ⟨rfl, r⟩ (zip_rel t)
theorem rel_snd : ∀ {l : List (Int × V)} {m : List (Int × Value)}, Paired (fun p q => p.1 = q.1 ∧ RelV p.2 q.2) l m → Vals (l.map Prod.snd) (m.map Prod.snd)
  | _, _, .nil => .nil
  | _, _, .cons h t => .cons h.2 (rel_snd t)
def byKey (ks : List Int) (xs : List V) : List V := (sortK (ks.zip xs)).map Prod.snd
theorem byKey_len {ks : List Int} {xs : List V} (h : ks.length = xs.length) : (byKey ks xs).length = xs.length := by
  unfold byKey
  rw [List.length_map, (sortK_perm _).length_eq, List.length_zip, h, Nat.min_self]
section
variable {X : Cx}
/-- sorted(xs, key=f), f a def whose answer is an int and that leaves the heap -/
def rSortedBy (K : PySem.W.Frag) (f : Addr) (sp : Sp) : List V → List V → Hp → VK → Prop := fun vs zs H Q => ∃ (a : Addr) (xs : List V) (ks : List Int), vs = [V.ref a] ∧ zs = [V.ref f] ∧ (SqL K H a xs ∨ SqT K H a xs) ∧ ks.length = xs.length ∧
  (∀ (i : Nat) (x : V) (k : Int), xs[i]? = some x → ks[i]? = some k → sp [x] H (fun v H' => v = .int k ∧ H' = H) E0) ∧ ∀ p, H p = none → Q (.ref p) (upd H p (.lst (byKey ks xs)))
theorem cr_sortedBy {k : Nat} {f : Addr} {fd : FuncData} {ps : List Str} {sp : Sp} (F : FnOk X.prog X.w X.K X.mg X.base CX0 k f fd ps sp) (hr : Room (k + 2) X.A) (hb : Binds X.K fd ps []) : CallRK X (.builtin "sorted") [Str.ofString "key"] (rSortedBy X.K f sp) := by
  intro pins s σ H xs zs us ws Q I rx rz hq
  obtain ⟨a, ys, ks, rfl, rfl, hS, hkl, hsp, q⟩ := hq
  cases rx with
  | cons r1 r2 =>
    cases r2
    cases r1
    cases rz with
    | cons z1 z2 =>
      cases z2
      cases z1
      obtain ⟨its, rv, hcol, hsm⟩ : ∃ its : List Value, Vals ys its ∧ (∀ (A : Around) (Q : List Value → Shared → Prop) (E : Value → Shared → Prop), Q its { s with heap := (s.heap.push (seqObj "list" #[] 0)).update s.heap.objs.size (Obj.mapSeq (· ++ its.toArray)) } → wpAny (model X.prog X.w) A (collect (.ref a)) Q E s) ∧ its.length ≤ sizeLine := by
        rcases hS with hS | hS
        · obtain ⟨its, rv, hl, hsm⟩ := I.list hS
          have hz' : its.length ≤ sizeLine := by rw [← rv.length]; exact hsm
          exact ⟨its, rv, fun A Q E h => collect_list hl.isList h hz', hz'⟩
        · obtain ⟨its, rv, hl, hsm⟩ := I.tuple hS
          have hz' : its.length ≤ sizeLine := by rw [← rv.length]; exact hsm
          exact ⟨its, rv, fun A Q E h => collect_tup hl hz' h, hz'⟩
      have hlen : ks.length = its.length := by rw [hkl, rv.length]
      show wpAny _ _ (call (.builtin "sorted") [.ref a] [(Str.ofString "key", .ref f)]) _ _ _
      refine call_function_entry_kw kind_sorted plain_sorted entry_sorted (ksk_s1 _ _) ?_
      unfold Builtin.«sorted»
      refine wpAny_bind (m := checkCount "sorted" 1 1 _) (wpAny_pure (wpAny_bind (hcol _ _ _ (wpAny_bind (wpAny_newList ?_ hsm)))))
      generalize hh1 : (s.heap.push (seqObj "list" #[] 0)).update s.heap.objs.size (Obj.mapSeq (· ++ its.toArray)) = h1
      have hz1 : h1.objs.size = s.heap.objs.size + 1 := by rw [← hh1, Heap.size_update, size_push']
      have kp1 : ∀ b o, s.heap.get? b = some o → h1.get? b = some o := fun b o e => by
        rw [← hh1, Heap.get?_update_ne _ _ _ _ (Nat.ne_of_lt (Heap.lt_size e))]
        exact Heap.get?_push_of_some _ e
      have hoL : (h1.push (seqObj "list" its.toArray 0)).get? h1.objs.size = some (seqObj "list" its.toArray 0) := Heap.get?_push_size _ rfl
      have I1 : Inv X pins σ H { s with heap := h1 } := I.kept (t' := s.toks) kp1
      have I2 : Inv X pins σ H { s with heap := h1.push (seqObj "list" its.toArray 0) } := I1.kept (t' := s.toks) fun b o e => Heap.get?_push_of_some _ e
      have fa : FpOk X pins H h1.objs.size := I1.fpOk (Nat.le_refl _) (I1.hok.fresh (Nat.le_refl _))
      refine wpAny_bind (wpAny_holding (wpAny_call_entry_kw slot_list_sort ⟨_, hoL, rfl⟩ entry_list_sort ?_ (ksk_l1 _ _)))
      show wpAny (model X.prog X.w) X.A.in1.in1 (Builtin.«list.sort» ⟨[.ref h1.objs.size], [(Str.ofString "key", .ref f)]⟩) _ _ _
      rw [ksk_t1]
      refine sb_sort (s := { s with heap := h1.push (seqObj "list" its.toArray 0) }) (kz := ks) I2 hoL fa hlen hsm (fun i v k pins' s' hv hk I' => ?_) fun s' out c I' ho' ko => ⟨_, rfl, ?_⟩
      · obtain ⟨x, hx, rxv⟩ : ∃ x, ys[i]? = some x ∧ RelV x v := by
          have hi : i < ys.length := by rw [rv.length]; exact (List.getElem?_eq_some_iff.mp hv).1
          obtain ⟨u, hu, ru⟩ := rv.get (List.getElem?_eq_getElem hi)
          rw [hv] at hu
          cases hu
          exact ⟨_, List.getElem?_eq_getElem hi, ru⟩
        exact run_fn2 F hr hb I' (.cons rxv .nil) (hsp i x k hx hk)
      · obtain ⟨pr, p1, p2, p3, p4⟩ := ko
        have e1 : pr = sortK (ks.zip its) := stable_one (p1.trans (sortK_perm _).symm) (by simpa using p3) (sortK_up _) fun c => (p4 c).trans (sortK_filter c _).symm
        have rel : Vals (byKey ks ys) out.toList := by
          rw [p2, e1]
          exact rel_snd (sortK_rel (zip_rel rv))
        have hbz : (byKey ks ys).length ≤ sizeLine := by rw [byKey_len hkl, rv.length]; exact hsm
        refine wpAny_pure ⟨_, rfl, ?_⟩
        exact ⟨.ref h1.objs.size, upd H h1.objs.size (.lst (byKey ks ys)), adopt I' fa ⟨hbz, out.toList, c, rel, by rw [Array.toArray_toList]; exact ho'⟩, rfl, q _ fa.1⟩
end
end TK

namespace TK
open PySem PySem.Spec PyProof.Rows L2
/-! ### enumerate(tuple) -/
theorem meets_enum1 {v : Value} {o : Obj} {G : Heap → Prop} (B : Begins v o G) :
    Meets (Builtin.«enumerate.__new__» ⟨[.type "enumerate", v], []⟩) (fun _ R s => G s.heap ∧
      R (.ok (.ret (.ref (s.heap.push o).objs.size))) { s with heap := (s.heap.push o).push { cls := .type "enumerate", data := .fields #[.none, .bool false, .ref s.heap.objs.size, rawInt 0, .none, .none] } }) :=
  .of_wp fun prog w A R s hh => by
    obtain ⟨hp, gg, dd, tk, os⟩ := s
    obtain ⟨hG, hR⟩ := hh
    have hsub := sub_enumerate
    have it1 : ∀ {A' : Around} {E' : Value → Shared → Prop} {Q : Value → Shared → Prop}, Q (.ref hp.objs.size) ⟨hp.push o, gg, dd, tk, os⟩ → wpAny (model prog w) A' (pyIter v) Q E' ⟨hp, gg, dd, tk, os⟩ := fun q => B.iter prog w _ _ ⟨hp, gg, dd, tk, os⟩ _ hG q
    wp_walk using it1
    refine wpAny_stack_any fun st => wpAny_pure ?_
    split
    · rename_i c _ _ _ _ _
      cases (c == Value.type "enumerate") <;> (wp_walk using it1; exact ⟨_, rfl, hR⟩)
    · wp_walk using it1
      exact ⟨_, rfl, hR⟩
section
variable {prog : Program} {w : World} {A : Around} {E : Value → Shared → Prop} {s : Shared}
theorem call_enum1 {v : Value} {o : Obj} {G : Heap → Prop} {Q : Value → Shared → Prop} (B : Begins v o G) (hG : G s.heap)
    (h : ∀ h', IsEnum h' (s.heap.objs.size + 1) s.heap.objs.size 0 .none → h'.get? s.heap.objs.size = some o → (∀ b o, s.heap.get? b = some o → h'.get? b = some o) → Q (.ref (s.heap.objs.size + 1)) { s with heap := h' }) :
    wpAny (model prog w) A (call (.type "enumerate") [v]) Q E s := by
  refine callType_new F.called_enumerate (by decide) (F.typeCall_enumerate_1 _) (F.newCall_enumerate_1 _) (fun obj => F.args_object_init_2 obj _) F.entry_enumerate_new (meets_enum1 B) ⟨hG, ?_⟩
  have zp : (s.heap.push o).objs.size = s.heap.objs.size + 1 := Heap.size_push ..
  show _ ∧ _
  rw [zp]
  have gen : IsEnum ((s.heap.push o).push { cls := .type "enumerate", data := .fields #[.none, .bool false, .ref s.heap.objs.size, rawInt 0, .none, .none] }) (s.heap.objs.size + 1) s.heap.objs.size 0 .none := by
    unfold IsEnum
    rw [← zp]
    exact Heap.get?_push_size _ rfl
  exact ⟨⟨_, gen, rfl⟩, h _ gen (Heap.get?_push_of_some _ (Heap.get?_push_size _ B.free)) fun b o q => Heap.get?_push_of_some _ (Heap.get?_push_of_some _ q)⟩
end
def IteT (K : PySem.W.Frag) (a : Addr) (n : Nat) : It :=
  ⟨fun i H => i < n ∧ ∃ xs : List V, SqT K H a xs ∧ xs.length = n, fun i H v H' => ∃ T x, v = .ref T ∧ H T = none ∧ H' = upd H T (.tup [.int (i : Nat), x]) ∧ ∀ xs, SqT K H a xs → xs[i]? = some x, fun i H => n ≤ i ∧ ∃ xs : List V, SqT K H a xs ∧ xs.length = n⟩
theorem turn_enumT {P : Program} {w : World} {K : PySem.W.Frag} {elts : List Expr} {kk : Nat} {tpos : Pos} (a e it : Addr) (n : Nat) (nei : e ≠ it) (nae : a ≠ e) (nai : a ≠ it) :
    Turn P w K (.Tuple elts kk tpos) (IteT K a n) [e, it] e (fun i h => (∃ old, IsEnum h e it ((i : Nat) : Int) old) ∧ h.IsTupleIter it a i ∧ i ≤ n) where
  mem := List.mem_cons_self ..
  obj := fun i h st b hb => by
    obtain ⟨⟨old, gen⟩, ⟨o, ho, _, hd⟩, _⟩ := st
    rcases List.mem_cons.mp hb with z | z
    · rw [z]; exact ⟨_, gen, fun v q => nomatch q⟩
    · rw [List.mem_singleton.mp z]; exact ⟨o, ho, fun v q => by rw [hd] at q; cases q⟩
  keep := fun i h h' st k => by
    obtain ⟨⟨old, gen⟩, hi, hn⟩ := st
    exact ⟨⟨old, k e (by simp) _ gen⟩, hi.at fun o q => k it (by simp) o q, hn⟩
  item := by
    intro X hP hw hK hc i pins s σ H E I hf st hg
    subst hP hw hK
    obtain ⟨⟨old, gen⟩, git, _⟩ := st
    obtain ⟨ltn, xs, hq, hxl⟩ := hg
    obtain ⟨itm, rel, p, zp⟩ := I.tuple hq
    have elt : e < s.heap.objs.size := Heap.lt_size gen
    have ilt : it < s.heap.objs.size := by obtain ⟨_, q, _⟩ := git; exact Heap.lt_size q
    have hsz : itm.toArray.size = n := by rw [List.size_toArray, ← rel.length]; exact hxl
    have D := Draws.tuple (prog := X.prog) (w := X.w) (A := X.A.in1) (I.ok.hd hc) it a nai itm.toArray
    refine wpAny_pyNext_enum_itemD D gen ⟨git, p⟩ (by rw [hsz]; exact ltn) nei (by simp [nei, Ne.symm nae]) fun u h' tk hu ho hst hT _ hk => ?_
    obtain ⟨x, hx, ru⟩ : ∃ x, xs[i]? = some x ∧ RelV x u := by
      obtain ⟨u', hu', ru'⟩ := rel.get (List.getElem?_eq_getElem (show i < xs.length by omega))
      have hu2 : itm[i]? = some u := by simpa using hu
      rw [hu2] at hu'
      cases hu'
      exact ⟨_, List.getElem?_eq_getElem (by omega), ru'⟩
    refine ⟨_, rfl, wpAny_letOwnedTupleGo_enum (s := { s with heap := h', toks := tk + 1 }) ho fun h'' he' sb => ?_⟩
    have atT : h''.get? s.heap.objs.size = some { cls := .type "tuple", data := .seq #[.int i tk, u] } := (sb.2 _ (Nat.ne_of_gt elt)).trans hT
    have new : ObjOk X.prog X.w (upd H s.heap.objs.size (.tup [.int (i : Nat), x])) h'' s.heap.objs.size (.tup [.int (i : Nat), x]) :=
      ⟨by show 2 ≤ sizeLine; decide, [.int i tk, u], .cons ⟨_, rfl⟩ (.cons ru .nil), ⟨_, atT, rfl, _, rfl⟩⟩
    have I1 : Inv X pins σ (upd H s.heap.objs.size (.tup [.int (i : Nat), x])) { s with heap := h'', toks := tk + 1 } :=
      I.turnedNew (ch := [e, it]) (fun b ob hb q => (sb.2 b (fun z => hb (by simp [z]))).trans (hk b ob (fun z => hb (by simp [z])) (fun z => hb (by simp [z])) q)) hf (Nat.le_refl _) new
    refine ⟨.ref s.heap.objs.size, _, I1, rfl, ⟨_, x, rfl, I.hok.fresh (Nat.le_refl _), rfl, fun ys hy => by rw [I.tuple_inj hy hq]; exact hx⟩, ⟨⟨u, ?_⟩, hst.1.at fun o q => (sb.2 it (Ne.symm nei)).trans q, by omega⟩, fun b hb => ?_⟩
    · rw [show ((i + 1 : Nat) : Int) = (i : Int) + 1 by omega]; exact he'
    · have blt : b < s.heap.objs.size := by
        rcases List.mem_cons.mp hb with z | z
        · rw [z]; exact elt
        · rw [List.mem_singleton.mp z]; exact ilt
      rw [upd_ne (Nat.ne_of_lt blt)]
      exact (hf b hb).1
  done := by
    intro X hP hw hK hc i pins s σ H E I hf st hg
    subst hP hw hK
    obtain ⟨⟨old, gen⟩, git, ble⟩ := st
    obtain ⟨hge, xs, hq, hxl⟩ := hg
    obtain ⟨itm, rel, p, zp⟩ := I.tuple hq
    have hin : i = itm.toArray.size := by rw [List.size_toArray, ← rel.length]; omega
    obtain ⟨q0, q1, q2, q3, q4, q5⟩ := hf it (by simp)
    have D := Draws.tuple (prog := X.prog) (w := X.w) (A := X.A.in1) (I.ok.hd hc) it a nai itm.toArray
    refine wpAny_pyNext_enum_endD D gen ⟨by rw [← hin]; exact git, p⟩ fun h' eb => ⟨rfl, I.turned (t' := s.toks) (fun b o hb q => eb b o hb q) q0 q1 q3 q4 q5⟩
  self := fun A i s Q E st h => by
    obtain ⟨⟨_, gen⟩, _⟩ := st
    exact wpAny_pyIter_enum gen h
def iEnumT (K : PySem.W.Frag) (ta : TA) : TI := fun σ H R => ta σ H fun vs H1 => ∃ a xs, vs = [.ref a] ∧ SqT K H1 a xs ∧ R (IteT K a xs.length) H1
theorem pi_enumT {X : Cx} {e : Expr} {ta : TA} {p pos tpos : Pos} {elts : List Expr} {kk : Nat} (hg : Gl X "enumerate") (hm : X.mg "enumerate" = none) (ha : PA X [e] ta) (hs : starEach [e] X.env = [(false, eval e X.env)] := by rfl) :
    PI X (.Tuple elts kk tpos) (.Call (.Name "enumerate" p) [e] [] pos) (iEnumT X.K ta) := by
  refine ⟨fun pins s σ H R I h => Call_ (ld_blt I hg hm boot_enumerate (PyProof.Rows.callWith_type1 (thn (ha.run pos pins s σ H _ I h) fun us s1 ⟨vs, H1, I1, r1, q1⟩ => ?_) hs rfl))⟩
  obtain ⟨a, xs, rfl, hq, q⟩ := q1
  cases r1 with
  | cons r rr =>
    cases rr
    cases r
    obtain ⟨itm, rel, p', zp⟩ := I1.tuple hq
    have hal : a < s1.heap.objs.size := by obtain ⟨_, q, _⟩ := p'; exact Heap.lt_size q
    refine call_enum1 (begins_tuple a itm.toArray) p' fun h' gen git hk => wpAny_pyIter_enum gen ?_
    have J2 : Inv X pins σ H1 { s1 with heap := h' } := I1.kept (t' := s1.toks) hk
    refine ⟨s1.heap.objs.size + 1, [s1.heap.objs.size + 1, s1.heap.objs.size], _, _, H1, rfl, J2, turn_enumT a (s1.heap.objs.size + 1) s1.heap.objs.size xs.length (Nat.succ_ne_self _) (Nat.ne_of_lt (Nat.lt_succ_of_lt hal)) (Nat.ne_of_lt hal), ⟨⟨.none, gen⟩, ⟨_, git, rfl, rfl⟩, Nat.zero_le _⟩, fun b hb => ?_, q⟩
    have ble : s1.heap.objs.size ≤ b := by
      rcases List.mem_cons.mp hb with z | z
      · rw [z]; exact Nat.le_add_right _ _
      · rw [List.mem_singleton.mp z]; exact Nat.le_refl _
    exact I1.fpOk ble (I1.hok.fresh ble)
theorem walk_enumT {K : PySem.W.Frag} {a : Addr} {xs : List V} : Walk (IteT K a xs.length) xs.length (fun H => SqT K H a xs) (YPair (fun i => some (.int (i : Nat))) (fun i => xs[i]?)) where
  goes := fun i H hi hG => ⟨hi, xs, hG, rfl⟩
  stops := fun H hG => ⟨Nat.le_refl _, xs, hG, rfl⟩
  yields := fun i H x H' _ hG hy => by
    obtain ⟨T, v, e1, e2, e3, e4⟩ := hy
    exact ⟨T, _, v, e1, e2, e3, rfl, e4 xs hG⟩
end TK

namespace TK
open PySem PySem.Spec PyProof.Rows L2
/-! ### max(xs, default=d), min(xs, default=d) of ints -/
theorem hold_ints {h : Heap} : ∀ {us : List Value} {ns : List Int}, IntsAre us ns → ∃ as, ReadsAll h us (ns.map PySem.W.Datum.toD) as
  | _, _, .nil => ⟨[], .nil⟩
  | _, _, .cons n t r => by
    obtain ⟨as, ra⟩ := hold_ints (h := h) r
    exact ⟨[] ++ as, .cons (.int n t) ra⟩
theorem hold_int {h : Heap} {v : Value} {m : Int} (H : PySem.W.Holds h v m) : ∃ t, v = Value.int m t := by
  obtain ⟨as, r⟩ := H
  have r : Reads h v (.int m) as := r
  cases r with
  | int i t => exact ⟨t, rfl⟩
theorem maxOf_is : ∀ (ys : List Int) (y : Int), PySem.W.maxOf y ys ∈ y :: ys ∧ ∀ z ∈ y :: ys, z ≤ PySem.W.maxOf y ys
  | [], y => ⟨List.mem_cons_self .., fun z hz => by cases List.mem_singleton.mp hz; exact Int.le_refl _⟩
  | a :: ys, y => by
    have e : PySem.W.maxOf y (a :: ys) = PySem.W.maxOf (if y < a then a else y) ys := by
      show List.foldl _ (if decide (y < a) = true then a else y) ys = _
      by_cases h : y < a
      · rw [if_pos (decide_eq_true h), if_pos h]; rfl
      · rw [if_neg (by simpa using h), if_neg h]; rfl
    obtain ⟨h1, h2⟩ := maxOf_is ys (if y < a then a else y)
    rw [e]
    by_cases h : y < a
    · rw [if_pos h] at h1 h2 ⊢
      refine ⟨?_, fun z hz => ?_⟩
      · exact List.mem_cons_of_mem _ h1
      · rcases List.mem_cons.mp hz with q | q
        · have := h2 a (List.mem_cons_self ..)
          omega
        · exact h2 z q
    · rw [if_neg h] at h1 h2 ⊢
      refine ⟨?_, fun z hz => ?_⟩
      · rcases List.mem_cons.mp h1 with q | q
        · rw [q]; exact List.mem_cons_self ..
        · exact List.mem_cons_of_mem _ (List.mem_cons_of_mem _ q)
      · rcases List.mem_cons.mp hz with q | q
        · rw [q]; exact h2 y (List.mem_cons_self ..)
        · rcases List.mem_cons.mp q with q | q
          · have := h2 y (List.mem_cons_self ..)
            omega
          · exact h2 z (List.mem_cons_of_mem _ q)
theorem minOf_is : ∀ (ys : List Int) (y : Int), PySem.W.minOf y ys ∈ y :: ys ∧ ∀ z ∈ y :: ys, PySem.W.minOf y ys ≤ z
  | [], y => ⟨List.mem_cons_self .., fun z hz => by cases List.mem_singleton.mp hz; exact Int.le_refl _⟩
  | a :: ys, y => by
    have e : PySem.W.minOf y (a :: ys) = PySem.W.minOf (if a < y then a else y) ys := by
      show List.foldl _ (if decide (a < y) = true then a else y) ys = _
      by_cases h : a < y
      · rw [if_pos (decide_eq_true h), if_pos h]; rfl
      · rw [if_neg (by simpa using h), if_neg h]; rfl
    obtain ⟨h1, h2⟩ := minOf_is ys (if a < y then a else y)
    rw [e]
    by_cases h : a < y
    · rw [if_pos h] at h1 h2 ⊢
      refine ⟨?_, fun z hz => ?_⟩
      · exact List.mem_cons_of_mem _ h1
      · rcases List.mem_cons.mp hz with q | q
        · have := h2 a (List.mem_cons_self ..)
          omega
        · exact h2 z q
    · rw [if_neg h] at h1 h2 ⊢
      refine ⟨?_, fun z hz => ?_⟩
      · rcases List.mem_cons.mp h1 with q | q
        · rw [q]; exact List.mem_cons_self ..
        · exact List.mem_cons_of_mem _ (List.mem_cons_of_mem _ q)
      · rcases List.mem_cons.mp hz with q | q
        · rw [q]; exact h2 y (List.mem_cons_self ..)
        · rcases List.mem_cons.mp q with q | q
          · have := h2 y (List.mem_cons_self ..)
            omega
          · exact h2 z (List.mem_cons_of_mem _ q)
def rMaxDef (K : PySem.W.Frag) : List V → List V → Hp → VK → Prop := fun vs zs H Q => ∃ (a : Addr) (ns : List Int) (d : V), vs = [V.ref a] ∧ zs = [d] ∧ SqL K H a (ns.map V.int) ∧ (ns = [] → Q d H) ∧ ∀ m, m ∈ ns → (∀ y, y ∈ ns → y ≤ m) → Q (.int m) H
def rMinDef (K : PySem.W.Frag) : List V → List V → Hp → VK → Prop := fun vs zs H Q => ∃ (a : Addr) (ns : List Int) (d : V), vs = [V.ref a] ∧ zs = [d] ∧ SqL K H a (ns.map V.int) ∧ (ns = [] → Q d H) ∧ ∀ m, m ∈ ns → (∀ y, y ∈ ns → m ≤ y) → Q (.int m) H
section
variable {X : Cx}
theorem cr_maxDef (hc : X.calm = true) (hu : X.A.units + 64 < cLine) : CallRK X (.builtin "max") [Str.ofString "default"] (rMaxDef X.K) := by
  intro pins s σ H xs zs us ws Q I rx rz hq
  obtain ⟨a, ns, d, rfl, rfl, hs, q0, q1⟩ := hq
  rw [Vals.ref1 rx]
  cases rz with
  | cons z1 z2 =>
    cases z2
    obtain ⟨its, rv, hl, _⟩ := I.list hs
    refine PySem.W.max_list_datum_default (α := Int) (xs := ns) (I.ok.hd hc) hl.isList (hold_ints rv.ints) (by show X.A.units + 1 + 0 < cLine; omega) (fun e h' tk hk => ⟨d, H, I.kept hk, z1, q0 e⟩) fun y ys i v h' tk e _ hv hk => ?_
    obtain ⟨t, rfl⟩ := hold_int hv
    obtain ⟨m1, m2⟩ := maxOf_is ys y
    exact ⟨.int _, H, I.kept hk, ⟨_, rfl⟩, q1 _ (by rw [e]; exact m1) fun z hz => m2 z (by rw [e] at hz; exact hz)⟩
theorem cr_minDef (hc : X.calm = true) (hu : X.A.units + 64 < cLine) : CallRK X (.builtin "min") [Str.ofString "default"] (rMinDef X.K) := by
  intro pins s σ H xs zs us ws Q I rx rz hq
  obtain ⟨a, ns, d, rfl, rfl, hs, q0, q1⟩ := hq
  rw [Vals.ref1 rx]
  cases rz with
  | cons z1 z2 =>
    cases z2
    obtain ⟨its, rv, hl, _⟩ := I.list hs
    refine PySem.W.min_list_datum_default (α := Int) (xs := ns) (I.ok.hd hc) hl.isList (hold_ints rv.ints) (by show X.A.units + 1 + 0 < cLine; omega) (fun e h' tk hk => ⟨d, H, I.kept hk, z1, q0 e⟩) fun y ys i v h' tk e _ hv hk => ?_
    obtain ⟨t, rfl⟩ := hold_int hv
    obtain ⟨m1, m2⟩ := minOf_is ys y
    exact ⟨.int _, H, I.kept hk, ⟨_, rfl⟩, q1 _ (by rw [e]; exact m1) fun z hz => m2 z (by rw [e] at hz; exact hz)⟩
end
/-! ### t[::-1] of a tuple -/
section
variable {prog : Program} {w : World} {A : Around} {E : Value → Shared → Prop} {s : Shared}
theorem places_rev (n : Nat) : Builtin.Slice.slicePlaces ((n : Int) - 1) (-1) (-1) = n := by
  unfold Builtin.Slice.slicePlaces
  rw [if_neg (by decide)]
  by_cases h : n = 0
  · subst h; rfl
  · rw [if_pos (by omega), show -(-1 : Int) = 1 from rfl, Int.ediv_one]
    omega
theorem applied_rev {sl : Addr} {vl vu vs : Value} {n : Nat} {Q : Int × Int × Nat → Shared → Prop} (hs : s.heap.IsSliceOf sl vl vu vs) (pl : IsPart vl none) (pu : IsPart vu none) (ps : IsPart vs (some (-1)))
    (h : Q ((n : Int) - 1, -1, n) s) : wpAny (model prog w) A (Builtin.Slice.sliceApplied (.ref sl) (pure (n : Int))) Q E s := by
  obtain ⟨ob, go, _, gd⟩ := id hs
  unfold Builtin.Slice.sliceApplied Builtin.Slice.sliceFields
  refine wpAny_bind (wpAny_bind (wpAny_field go gd (x := vl) rfl (wpAny_bind (wpAny_field go gd (x := vu) rfl (wpAny_bind (wpAny_field go gd (x := vs) rfl (wpAny_pure ?_)))))))
  refine wpAny_bind (HT.slicePart_ ps ?_)
  show wpAny _ _ (if ((-1 : Int) == 0) = true then _ else _) _ _ s
  rw [if_neg (by decide)]
  refine wpAny_bind (HT.slicePart_ pl (wpAny_bind (HT.slicePart_ pu (wpAny_bind (wpAny_pure ?_)))))
  show wpAny _ _ (pure ((n : Int) - 1, (-1 : Int), Builtin.Slice.slicePlaces ((n : Int) - 1) (-1) (-1))) _ _ s
  rw [places_rev]
  exact wpAny_pure h
theorem fm_congr {α β : Type} {f g : α → Option β} : ∀ {l : List α}, (∀ x ∈ l, f x = g x) → l.filterMap f = l.filterMap g
  | [], _ => rfl
  | x :: r, h => by
    rw [List.filterMap_cons, List.filterMap_cons, h x (List.mem_cons_self ..), fm_congr fun y hy => h y (List.mem_cons_of_mem _ hy)]
theorem pick_rev (xs : Array Value) : ((List.range xs.size).filterMap fun (m : Nat) => xs[((xs.size : Int) - 1 + (m : Int) * (-1)).toNat]?).toArray = xs.toList.reverse.toArray := by
  have e : ((List.range xs.size).filterMap fun (m : Nat) => xs[((xs.size : Int) - 1 + (m : Int) * (-1)).toNat]?) = ((List.range xs.size).map fun k => xs.size - 1 - k).filterMap (xs[·]?) := by
    rw [List.filterMap_map]
    refine fm_congr fun m hm => ?_
    have := List.mem_range.mp hm
    show xs[_]? = xs[xs.size - 1 - m]?
    congr 1
    omega
  rw [e, PySem.W.krv_range, List.filterMap_reverse, PySem.W.krv_all]
theorem getItem_tup_rev {t sl : Addr} {items : Array Value} {vl vu vs : Value} {Q : Value → Shared → Prop} (ht : IsTup s.heap t items) (hs : s.heap.IsSliceOf sl vl vu vs) (pl : IsPart vl none) (pu : IsPart vu none) (ps : IsPart vs (some (-1)))
    (h : Q (.ref s.heap.objs.size) { s with heap := s.heap.push { cls := .type "tuple", data := .seq items.toList.reverse.toArray } }) (hsz : items.size ≤ sizeLine) : wpAny (model prog w) A (getItem (.ref t) (.ref sl)) Q E s := by
  have small : sizeOk (.seq items.toList.reverse.toArray) := by
    show items.toList.reverse.toArray.size ≤ sizeLine
    rw [List.size_toArray, List.length_reverse, Array.length_toList]
    exact hsz
  obtain ⟨ob, go, gc, gd⟩ := id hs
  unfold getItem
  try with_reducible refine wpAny_holding ?_
  first | refine wpAny_bind (wpAny_pure ?_) | skip
  refine wpAny_bind (wpAny_sequenceKey ht.typeIs (by decide) (wpAny_bind (wpAny_callSpecial?_slot (name := Str.ofString "__getitem__") ht.typeIs PyProof.Rows.slot_tuple_getitem (wpAny_call_entry PyProof.Rows.slot_tuple_getitem ht.typeIs entry_tuple_getitem ?_ (args_tuple_getitem _ _)))))
  show wpAny _ _ (Builtin.Tuple.tupleItemsOf (.ref t) >>= _) _ _ s
  refine wpAny_bind (tupleItemsOf_ ht (wpAny_bind (wpAny_typeOf ⟨ob, go, gc⟩ ?_)))
  rw [if_pos (by decide)]
  refine wpAny_bind (applied_rev hs pl pu ps ?_)
  show wpAny _ _ (if (((items.size : Int) - 1) == 0 && (-1 : Int) == 1 && items.size == items.size) = true then _ else _) _ _ s
  rw [if_neg (by rw [show ((-1 : Int) == 1) = false from rfl, Bool.and_false, Bool.false_and]; decide), pick_rev]
  first
    | exact wpAny_bind (m := Builtin.Tuple.tupleExact _) (wpAny_newObj_type (wpAny_pure ⟨_, rfl, wpAny_pure h⟩) small)
    | exact wpAny_bind (m := Builtin.Tuple.tupleExact _) (wpAny_newObj_type (wpAny_bind (wpAny_pure (wpAny_pure ⟨_, rfl, wpAny_pure h⟩))) small)
    | exact wpAny_bind (wpAny_bind (m := Builtin.Tuple.tupleExact _) (wpAny_newObj_type (wpAny_pure (wpAny_pure ⟨_, rfl, wpAny_pure h⟩)) small))
    | exact wpAny_bind (wpAny_bind (m := Builtin.Tuple.tupleExact _) (wpAny_newObj_type (wpAny_pure ⟨_, rfl, wpAny_pure h⟩) small))
end
def tRevT (K : PySem.W.Frag) (te : TE) : TE := fun σ H Q => te σ H fun x H1 => ∃ a xs, x = .ref a ∧ SqT K H1 a xs ∧ ∀ p, H1 p = none → Q (.ref p) (upd H1 p (.tup xs.reverse))
theorem pe_revT {X : Cx} {e : Expr} {te : TE} {k : Nat} {p1 p2 p3 pos : Pos} (he : PE X e te) : PE X (.Subscript e (.Slice none none (some (.UnaryOp .USub (.Constant (.int 1) k p1) p2)) p3) pos) (tRevT X.K te) := by
  refine ⟨fun pins s σ H Q I h => Subscript_ (thn (he.run pins s σ H _ I h) fun v s1 ⟨x, H1, I1, r1, a, xs, ex, hx, q⟩ => ?_)⟩
  subst ex
  cases r1
  have one : PO X (some (.UnaryOp .USub (.Constant (.int 1) k p1) p2)) (tPart (tUn (rU fun i => .int (-i)) (tC (.int 1)))) := po_some (pe_un un_neg pe_int)
  refine wpAny_Slice (thn (po_none.run pins s1 σ H1 (fun o G => o = none ∧ G = H1) I1 ⟨rfl, rfl⟩) fun vl s2 ⟨l, H2, I2, pl, el, e2⟩ => ?_)
  subst el e2
  refine thn (po_none.run pins s2 σ H2 (fun o G => o = none ∧ G = H2) I2 ⟨rfl, rfl⟩) fun vu s3 ⟨u, H3, I3, pu, eu, e3⟩ => ?_
  subst eu e3
  refine thn (one.run pins s3 σ H3 (fun o G => o = some (-1) ∧ G = H3) I3 ⟨1, rfl, -1, rfl, rfl, rfl⟩) fun vs s4 ⟨o, H4, I4, ps, eo, e4⟩ => ?_
  subst eo e4
  have J : Inv X pins σ H4 { s4 with heap := s4.heap.push { cls := .type "slice", data := .fields #[vl, vu, vs] } } := I4.kept (t' := s4.toks) fun b ob q => Heap.get?_push_of_some _ q
  obtain ⟨itm, r, ht, hz⟩ := J.tuple hx
  have hlen := r.length
  show wpAny (model X.prog X.w) X.A (subscriptTail e (.Slice none none (some (.UnaryOp .USub (.Constant (.int 1) k p1) p2)) p3) (.ref a) (.ref s4.heap.objs.size)) (EP X pins σ Q) X.xe { s4 with heap := s4.heap.push { cls := .type "slice", data := .fields #[vl, vu, vs] } }
  refine tail_any (ops := [.ref a, .ref s4.heap.objs.size]) ht.typeIs PyProof.Rows.slot_tuple_getitem.lookup ?_ (by with_unfolding_all rfl)
  refine getItem_tup_rev ht (Heap.IsSliceOf.new _ vl vu vs) pl pu ps ?_ (by rw [List.size_toArray]; omega)
  refine ⟨.ref _, _, J.laid (t' := s4.toks) (o := .tup xs.reverse) (fun b ob q => Heap.get?_push_of_some _ q) (Nat.le_refl _) ?_, rfl, q _ (J.hok.fresh (Nat.le_refl _))⟩
  exact ⟨by rw [List.length_reverse]; exact hz, _, r.reverse, IsTup.new _ _⟩
end TK

namespace TK
open PySem PySem.Spec PyProof.Rows L2
section
variable {X : Cx}
/-! ### a word of one's own in the middle; two ways to read the same text -/
theorem ps_cut {st : Stmt} {t : TS} (h : PS X st t) : PS X st (fun D σ H => ∃ R : L2.St → Hp → Prop, t { D with nx := R } σ H ∧ ∀ σ' H', R σ' H' → D.nx σ' H') :=
  ⟨fun pins s σ H D I ⟨R, q, k⟩ => thn (h.run pins s σ H _ I q) fun f s' z => by
    cases f with
    | next => obtain ⟨σ', H', I', r⟩ := z; exact ⟨σ', H', I', k _ _ r⟩
    | brk => exact z
    | cont => exact z
    | ret u => exact z⟩
theorem pe_cut {e : Expr} {t : TE} (h : PE X e t) : PE X e (fun σ H Q => ∃ R : VK, t σ H R ∧ ∀ v H', R v H' → Q v H') :=
  ⟨fun pins s σ H Q I ⟨R, q, k⟩ => thn (h.run pins s σ H _ I q) fun v s' z => by
    obtain ⟨x, H', I', r, q'⟩ := z
    exact ⟨x, H', I', r, k _ _ q'⟩⟩
theorem pt_cut {e : Expr} {t : TT} (h : PT X e t) : PT X e (fun σ H Q => ∃ R : Bool → Hp → Prop, t σ H R ∧ ∀ b H', R b H' → Q b H') :=
  ⟨fun pins s σ H Q I ⟨R, q, k⟩ => thn (h.run pins s σ H _ I q) fun v s' z => by
    obtain ⟨H', I', q'⟩ := z
    exact ⟨H', I', k _ _ q'⟩⟩
theorem pi_or {tg it : Expr} {w1 w2 : TI} (h1 : PI X tg it w1) (h2 : PI X tg it w2) : PI X tg it (fun σ H R => w1 σ H R ∨ w2 σ H R) :=
  ⟨fun pins s σ H R I h => h.elim (h1.run pins s σ H R I) (h2.run pins s σ H R I)⟩
theorem ps_or {st : Stmt} {t1 t2 : TS} (h1 : PS X st t1) (h2 : PS X st t2) : PS X st (fun D σ H => t1 D σ H ∨ t2 D σ H) :=
  ⟨fun pins s σ H D I h => h.elim (h1.run pins s σ H D I) (h2.run pins s σ H D I)⟩
theorem pe_or2 {e : Expr} {t1 t2 : TE} (h1 : PE X e t1) (h2 : PE X e t2) : PE X e (fun σ H Q => t1 σ H Q ∨ t2 σ H Q) :=
  ⟨fun pins s σ H Q I h => h.elim (h1.run pins s σ H Q I) (h2.run pins s σ H Q I)⟩
theorem pt_or2 {e : Expr} {t1 t2 : TT} (h1 : PT X e t1) (h2 : PT X e t2) : PT X e (fun σ H Q => t1 σ H Q ∨ t2 σ H Q) :=
  ⟨fun pins s σ H Q I h => h.elim (h1.run pins s σ H Q I) (h2.run pins s σ H Q I)⟩
end
end TK

namespace TK
open PySem PySem.Spec PyProof.Rows L2
section
variable {X : Cx}
/-! sum(t), a tuple of ints -/
def rSumT (K : PySem.W.Frag) : List V → Hp → VK → Prop := fun vs H Q => ∃ (a : Addr) (ns : List Int), vs = [V.ref a] ∧ SqT K H a (ns.map V.int) ∧ Q (.int ns.sum) H
theorem cr_sumT (hc : X.calm = true) : CallR X (.builtin "sum") (rSumT X.K) := by
  intro pins s σ H vs us Q I r h
  obtain ⟨a, ns, rfl, hs, q⟩ := h
  obtain ⟨itm, rv, p, _⟩ := I.tuple hs
  rw [Vals.ref1 r]
  obtain ⟨xs, e⟩ := rv.ints.allInts.items
  have hn : numsOf itm.toArray.toList = ns := rv.ints.numsOf
  rw [e, nums_intItems] at hn
  refine PySem.W.ktm_sumG (I.ok.hd hc) (e ▸ p) fun h' tk t' hk => ?_
  rw [preSum_eq, List.take_of_length_le (by simp), hn]
  exact ⟨.int _, H, I.kept hk, ⟨_, rfl⟩, q⟩
/-- *e within a comprehension -/
theorem pa_starK {K : PySem.W.Frag} {e : Expr} {es : List Expr} {te : TE} {t : TA} {p : Pos} (h : X.K = K) (he : PE X e te) (hr : PA X es t) (hs : starEach (.Starred e p :: es) X.env = (true, eval e X.env) :: starEach es X.env := by rfl) : PA X (.Starred e p :: es) (StX.tStar K te t) := h ▸ StX.pa_star he hr hs
theorem op_eqDK {K : PySem.W.Frag} (h : X.K = K) (hu : X.A.units + 64 < cLine) : OpR X (compareOp .Eq) (rEqD K) := h ▸ op_eqD hu
theorem op_neDK {K : PySem.W.Frag} (h : X.K = K) (hu : X.A.units + 64 < cLine) : OpR X (compareOp .NotEq) (rNeD K) := h ▸ op_neD hu
/-! ### objects at a row of addresses -/
def At (H : Hp) (us : List Addr) (os : List HO) : Prop := us.length = os.length ∧ ∀ (i : Nat) (u : Addr) (o : HO), us[i]? = some u → os[i]? = some o → H u = some o
theorem At.same {H H' : Hp} {us : List Addr} {os : List HO} (h : At H us os) (s : Same H H') : At H' us os := ⟨h.1, fun i u o a b => s _ _ (h.2 i u o a b)⟩
theorem At.nil {H : Hp} : At H [] [] := ⟨rfl, fun i u o a _ => by simp at a⟩
theorem At.append {H : Hp} {us vs : List Addr} {os ps : List HO} (h : At H us os) (k : At H vs ps) : At H (us ++ vs) (os ++ ps) := by
  refine ⟨by rw [List.length_append, List.length_append, h.1, k.1], fun i u o a b => ?_⟩
  by_cases hi : i < us.length
  · rw [List.getElem?_append_left hi] at a
    rw [List.getElem?_append_left (by rw [← h.1]; exact hi)] at b
    exact h.2 i u o a b
  · rw [List.getElem?_append_right (by omega)] at a
    rw [List.getElem?_append_right (by rw [← h.1]; omega), ← h.1] at b
    exact k.2 _ u o a b
theorem At.one {H : Hp} {u : Addr} {o : HO} (e : H u = some o) : At H [u] [o] := ⟨rfl, fun i u' o' a b => by
  match i, a, b with
  | 0, a, b =>
    cases a
    cases b
    exact e⟩
theorem At.get {H : Hp} {us : List Addr} {os : List HO} {i : Nat} {x : V} (h : At H us os) (e : (us.map V.ref)[i]? = some x) : ∃ (u : Addr) (o : HO), x = .ref u ∧ us[i]? = some u ∧ os[i]? = some o ∧ H u = some o := by
  rw [List.getElem?_map] at e
  cases ht : us[i]? with
  | none => rw [ht] at e; cases e
  | some t =>
    rw [ht] at e
    cases e
    have hi : i < os.length := by rw [← h.1]; exact (List.getElem?_eq_some_iff.mp ht).1
    exact ⟨t, os[i], rfl, rfl, List.getElem?_eq_getElem hi, h.2 i t _ ht (List.getElem?_eq_getElem hi)⟩
/-- a list elsewhere is written anew -/
theorem At.wrote {H : Hp} {us : List Addr} {os : List HO} {D : Addr} {xs : List V} {o : HO} (h : At H us os) (t : ∀ p ∈ os, ∃ ys, p = HO.tup ys) (e : H D = some (.lst xs)) : At (upd H D o) us os := ⟨h.1, fun i u p a b => by
  have := h.2 i u p a b
  rw [upd_ne fun z => ?_]
  · exact this
  · subst z
    obtain ⟨ys, rfl⟩ := t p (List.mem_of_getElem? b)
    rw [e] at this
    cases this⟩
end
end TK

namespace TK
open PySem PySem.Spec PyProof.Rows L2
/-! ### zip(tuple, list) -/
def ItzM (K : PySem.W.Frag) (a b : Addr) : It :=
  ⟨fun i H => ∃ xs ys : List V, SqT K H a xs ∧ SqL K H b ys ∧ i < xs.length ∧ i < ys.length,
    fun i H v H' => ∃ T x y, v = .ref T ∧ H T = none ∧ H' = upd H T (.tup [x, y]) ∧ (∀ xs, SqT K H a xs → xs[i]? = some x) ∧ ∀ ys, SqL K H b ys → ys[i]? = some y,
    fun i H => ∃ xs ys : List V, SqT K H a xs ∧ SqL K H b ys ∧ i ≤ xs.length ∧ i ≤ ys.length ∧ (i = xs.length ∨ i = ys.length)⟩
theorem ne_nat {x y : Nat} (h : x < y ∨ y < x) : x ≠ y := by omega
theorem no_two {x p q : Nat} (h1 : x < p ∨ p < x) (h2 : x < q ∨ q < x) : x ∉ [p, q] := by
  intro h
  rcases List.mem_cons.mp h with z | z
  · exact ne_nat h1 z
  · exact ne_nat h2 (List.mem_singleton.mp z)
theorem sep_zip (I a b : Nat) (la : a < I) (lb : b < I) : ZipSep2 (I + 4) (I + 2) (I + 3) I (I + 1) [I, a] [I + 1, b] :=
  ⟨ne_nat (x := I + 2) (y := I + 4) (by omega), ne_nat (x := I + 3) (y := I + 4) (by omega), ne_nat (x := I + 2) (y := I + 3) (by omega), ne_nat (x := I + 2) (y := I) (by omega), List.mem_cons_self .., no_two (x := I + 4) (by omega) (by omega), no_two (x := I + 3) (by omega) (by omega),
    ne_nat (x := I + 2) (y := I + 1) (by omega), List.mem_cons_self .., no_two (x := I + 4) (by omega) (by omega), no_two (x := I + 3) (by omega) (by omega), no_two (x := I) (by omega) (by omega), no_two (x := I + 1) (by omega) (by omega)⟩
theorem turn_zipM {P : Program} {w : World} {K : PySem.W.Frag} {elts : List Expr} {kk : Nat} {tpos : Pos} {a b z TI TO i1 i2 : Addr} (S : ZipSep2 z TI TO i1 i2 [i1, a] [i2, b]) (na : a ≠ i1) (nb : b ≠ i2) :
    Turn P w K (.Tuple elts kk tpos) (ItzM K a b) [z, TI, TO, i1, i2] z (fun i h => IsZip h z TI TO .none ∧ IsTupOf2 h TI (.ref i1) (.ref i2) ∧ (∃ x y, IsTupOf2 h TO x y) ∧ h.IsTupleIter i1 a i ∧ h.IsListIter i2 b i) where
  mem := by simp
  obj := fun i h st c hc => by
    obtain ⟨hz, hTI, ⟨x, y, hTO⟩, ⟨o1, e1, _, d1⟩, ⟨o2, e2, _, d2⟩⟩ := st
    have e' : c = z ∨ c = TI ∨ c = TO ∨ c = i1 ∨ c = i2 := by simpa using hc
    rcases e' with rfl | rfl | rfl | rfl | rfl
    · exact ⟨_, hz, fun v q => nomatch q⟩
    · exact ⟨_, hTI, fun v q => nomatch q⟩
    · exact ⟨_, hTO, fun v q => nomatch q⟩
    · exact ⟨o1, e1, fun v q => by rw [d1] at q; cases q⟩
    · exact ⟨o2, e2, fun v q => by rw [d2] at q; cases q⟩
  keep := fun i h h' st k => by
    obtain ⟨hz, hTI, ⟨x, y, hTO⟩, h1, h2⟩ := st
    exact ⟨k z (by simp) _ hz, k TI (by simp) _ hTI, ⟨x, y, k TO (by simp) _ hTO⟩, h1.at fun o q => k i1 (by simp) o q, h2.at fun o q => k i2 (by simp) o q⟩
  item := by
    intro X hP hw hK hc i pins s σ H E I hf st hg
    subst hP hw hK
    obtain ⟨hz, hTI, ⟨x0, y0, hTO⟩, h1, h2⟩ := st
    obtain ⟨xs, ys, hqx, hqy, lx, ly⟩ := hg
    obtain ⟨its, rv, p, _⟩ := I.tuple hqx
    obtain ⟨its2, rv2, p2, _⟩ := I.list hqy
    have hzl : z < s.heap.objs.size := Heap.lt_size hz
    have n1 : its.toArray.size = xs.length := by rw [List.size_toArray, ← rv.length]
    have n2 : its2.toArray.size = ys.length := by rw [List.size_toArray, ← rv2.length]
    have D1 := Draws.tuple (prog := X.prog) (w := X.w) (A := X.A.in1) (I.ok.hd hc) i1 a na its.toArray
    have D2 := Draws.list (prog := X.prog) (w := X.w) (A := X.A.in1) (I.ok.hd hc) i2 b nb its2.toArray
    refine wpAny_pyNext_zipD2_item S D1 D2 hz hTI hTO ⟨h1, p⟩ ⟨h2, p2.isList⟩ (by rw [n1]; exact lx) (by rw [n2]; exact ly) fun u u2 h' tk hu hu2 z' TO' d1 d2 hT hsz hk => ?_
    refine ⟨_, rfl, wpAny_letOwnedTupleGo_zip (s := { s with heap := h', toks := tk }) z' fun h'' z'' sb => ?_⟩
    obtain ⟨x, hx, ru⟩ : ∃ x, xs[i]? = some x ∧ RelV x u := by
      obtain ⟨v, hv, r⟩ := rv.get (List.getElem?_eq_getElem lx)
      have : its[i]? = some u := by simpa using hu
      rw [this] at hv
      cases hv
      exact ⟨_, List.getElem?_eq_getElem lx, r⟩
    obtain ⟨y, hy, ru2⟩ : ∃ y, ys[i]? = some y ∧ RelV y u2 := by
      obtain ⟨v, hv, r⟩ := rv2.get (List.getElem?_eq_getElem ly)
      have : its2[i]? = some u2 := by simpa using hu2
      rw [this] at hv
      cases hv
      exact ⟨_, List.getElem?_eq_getElem ly, r⟩
    have hT2 : h''.get? s.heap.objs.size = some { cls := .type "tuple", data := .seq #[u, u2] } := (sb.2 _ (Nat.ne_of_gt hzl)).trans hT
    have new : ObjOk X.prog X.w (upd H s.heap.objs.size (.tup [x, y])) h'' s.heap.objs.size (.tup [x, y]) :=
      ⟨by show 2 ≤ sizeLine; decide, [u, u2], .cons ru (.cons ru2 .nil), ⟨_, hT2, rfl, _, rfl⟩⟩
    have I1 : Inv X pins σ (upd H s.heap.objs.size (.tup [x, y])) { s with heap := h'', toks := tk } :=
      I.turnedNew (ch := [z, TI, TO, i1, i2]) (fun c o hb q => (sb.2 c (fun q' => hb (by simp [q']))).trans (hk c o (fun q' => hb (by simp [q'])) (fun q' => hb (by simp [q'])) (fun q' => hb (by simp [q'])) (fun q' => hb (by simp [q'])) q)) hf (Nat.le_refl _) new
    refine ⟨.ref s.heap.objs.size, _, I1, rfl, ⟨_, x, y, rfl, I.hok.fresh (Nat.le_refl _), rfl, fun l hl => by rw [I.tuple_inj hl hqx]; exact hx, fun l hl => by rw [I.list_inj hl hqy]; exact hy⟩, ⟨z'', ?_, ⟨u, u2, ?_⟩, ?_, ?_⟩, fun c hcm => ?_⟩
    · exact (sb.2 _ S.TIz).trans (hk _ _ S.TIz S.TITO S.TIi1 S.TIi2 hTI)
    · exact (sb.2 _ S.TOz).trans TO'
    · exact d1.1.at fun o q => (sb.2 _ (Ne.symm S.zi1)).trans q
    · exact d2.1.at fun o q => (sb.2 _ (Ne.symm S.zi2)).trans q
    · have hlt : c < s.heap.objs.size := by
        have e' : c = z ∨ c = TI ∨ c = TO ∨ c = i1 ∨ c = i2 := by simpa using hcm
        rcases e' with rfl | rfl | rfl | rfl | rfl
        · exact hzl
        · exact Heap.lt_size hTI
        · exact Heap.lt_size hTO
        · obtain ⟨_, e1, _⟩ := h1; exact Heap.lt_size e1
        · obtain ⟨_, e2, _⟩ := h2; exact Heap.lt_size e2
      rw [upd_ne (Nat.ne_of_lt hlt)]
      exact (hf c hcm).1
  done := by
    intro X hP hw hK hc i pins s σ H E I hf st hg
    subst hP hw hK
    obtain ⟨hz, hTI, ⟨x0, y0, hTO⟩, h1, h2⟩ := st
    obtain ⟨xs, ys, hqx, hqy, le1, le2, hend⟩ := hg
    obtain ⟨its, rv, p, _⟩ := I.tuple hqx
    obtain ⟨its2, rv2, p2, _⟩ := I.list hqy
    have n1 : its.toArray.size = xs.length := by rw [List.size_toArray, ← rv.length]
    have n2 : its2.toArray.size = ys.length := by rw [List.size_toArray, ← rv2.length]
    have D1 := Draws.tuple (prog := X.prog) (w := X.w) (A := X.A.in1) (I.ok.hd hc) i1 a na its.toArray
    have D2 := Draws.list (prog := X.prog) (w := X.w) (A := X.A.in1) (I.ok.hd hc) i2 b nb its2.toArray
    exact wpAny_pyNext_zipD2_end S D1 D2 hz hTI hTO ⟨h1, p⟩ ⟨h2, p2.isList⟩ (by rw [n1]; exact le1) (by rw [n2]; exact le2) (by rw [n1, n2]; exact hend) fun h' tk hk => ⟨rfl, I.turnedL (ch := [z, TI, TO, i1, i2]) (fun c o hb q =>
      hk c o (fun q' => hb (by simp [q'])) (fun q' => hb (by simp [q'])) (fun q' => hb (by simp [q'])) (fun q' => hb (by simp [q'])) q) hf⟩
  self := fun A i s Q E st h => wpAny_pyIter_zip st.1 h
def iZipM (K : PySem.W.Frag) (ta : TA) : TI := fun σ H R => ta σ H fun vs H1 => ∃ a b xs ys, vs = [.ref a, .ref b] ∧ SqT K H1 a xs ∧ SqL K H1 b ys ∧ R (ItzM K a b) H1
theorem pi_zipM {X : Cx} {e e2 : Expr} {ta : TA} {p pos tpos : Pos} {elts : List Expr} {kk : Nat} (hg : Gl X "zip") (hm : X.mg "zip" = none) (ha : PA X [e, e2] ta)
    (hs : starEach [e, e2] X.env = (false, eval e X.env) :: starEach [e2] X.env := by rfl) (hpl : (backTo pos (starEach [e2] X.env)).any (·.1) = false := by rfl) :
    PI X (.Tuple elts kk tpos) (.Call (.Name "zip" p) [e, e2] [] pos) (iZipM X.K ta) := by
  refine ⟨fun pins s σ H R I h => Call_ (ld_blt I hg hm PyProof.Rows.boot_zip (PyProof.Rows.callWith_type1 (thn (ha.run pos pins s σ H _ I h) fun us s1 ⟨vs, H1, I1, r1, q1⟩ => ?_) hs hpl))⟩
  obtain ⟨a, b, xs, ys, rfl, hqx, hqy, q⟩ := q1
  obtain ⟨u1, u2, rfl, r, r'⟩ := r1.two
  cases r
  cases r'
  obtain ⟨its, rv, p1, _⟩ := I1.tuple hqx
  obtain ⟨its2, rv2, p2, _⟩ := I1.list hqy
  have la : a < s1.heap.objs.size := by obtain ⟨_, q, _⟩ := p1; exact Heap.lt_size q
  have lb : b < s1.heap.objs.size := p2.lt
  refine zip_begins2 (begins_tuple a its.toArray) (begins_list b its2.toArray) p1 p2.isList fun h' hz hTI hTO h1 h2 hsz hk => wpAny_pyIter_zip hz ?_
  have I2 : Inv X pins σ H1 { s1 with heap := h' } := I1.kept (t' := s1.toks) hk
  refine ⟨s1.heap.objs.size + 4, [s1.heap.objs.size + 4, s1.heap.objs.size + 2, s1.heap.objs.size + 3, s1.heap.objs.size, s1.heap.objs.size + 1], _, _, H1, rfl, I2, turn_zipM (sep_zip _ _ _ la lb) (Nat.ne_of_lt la) (Nat.ne_of_lt (Nat.lt_succ_of_lt lb)), ⟨hz, hTI, ⟨_, _, hTO⟩, ⟨_, h1, rfl, rfl⟩, ⟨_, h2, rfl, rfl⟩⟩, fun c hcm => ?_, q⟩
  have hle : s1.heap.objs.size ≤ c := by
    have e' : c = s1.heap.objs.size + 4 ∨ c = s1.heap.objs.size + 2 ∨ c = s1.heap.objs.size + 3 ∨ c = s1.heap.objs.size ∨ c = s1.heap.objs.size + 1 := by simpa using hcm
    rcases e' with rfl | rfl | rfl | rfl | rfl
    · exact Nat.le_add_right _ _
    · exact Nat.le_add_right _ _
    · exact Nat.le_add_right _ _
    · exact Nat.le_refl _
    · exact Nat.le_add_right _ _
  exact I1.fpOk hle (I1.hok.fresh hle)
theorem walk_zipM {K : PySem.W.Frag} {a b : Addr} {xs ys : List V} (hl : xs.length = ys.length) : Walk (ItzM K a b) xs.length (fun H => SqT K H a xs ∧ SqL K H b ys) (YPair (fun i => xs[i]?) (fun i => ys[i]?)) where
  goes := fun i H hi q => ⟨xs, ys, q.1, q.2, hi, by omega⟩
  stops := fun H q => ⟨xs, ys, q.1, q.2, Nat.le_refl _, by omega, .inl rfl⟩
  yields := fun i H v H' _ q y => by
    obtain ⟨T, x, z, h1, h2, h3, h4, h5⟩ := y
    exact ⟨T, x, z, h1, h2, h3, h4 xs q.1, h5 ys q.2⟩
end TK

namespace TK
open PySem PySem.Spec PyProof.Rows L2
/-- a dict comprehension over whatever walks -/
theorem dc_it {J : It} {n : Nat} {G : Hp → Prop} {Y : Nat → Hp → V → Hp → Prop} (w : Walk J n G Y) {g : TG} {tt : TT} {tk tv : TE} {vs : List Nat} {σ : L2.St} {H1 : Hp} {D : Addr} {Qd : Hp → Prop} (Pv : Nat → Hp → Prop) (h0 : Pv 0 (upd H1 D (.dK []))) (hG : ∀ i H, i ≤ n → Pv i H → G H)
    (hs : ∀ i x H H', i < n → Pv i H → Y i H x H' → g x (wipe σ vs) H' fun σ2 H2 => wipe σ2 vs = wipe σ vs ∧ tt σ2 H2 fun b H3 =>
      if b = true then tk σ2 H3 fun y H4 => tv σ2 H4 fun z H5 => ∃ kvs k, y = kV k ∧ H5 D = some (.dK kvs) ∧ kvs.length < sizeLine ∧ Pv (i + 1) (upd H5 D (.dK (putK kvs k z))) else Pv (i + 1) H3) (hd : ∀ H, Pv n H → Qd H) :
    ∃ W : Nat → Nat → Hp → Prop, (∃ m, W 0 m (upd H1 D (.dK []))) ∧ ∀ i m H, W i m H →
      (J.stop i H ∧ Qd H) ∨ (J.go i H ∧ ∃ Nx : Hp → Prop, (∀ H', Nx H' → ∃ m', m' < m ∧ W (i + 1) m' H') ∧ ∀ x H', J.yld i H x H' → g x (wipe σ vs) H' fun σ2 H2 => wipe σ2 vs = wipe σ vs ∧ tt σ2 H2 fun b H3 =>
        if b = true then tk σ2 H3 fun y H4 => tv σ2 H4 fun z H5 => ∃ kvs k, y = kV k ∧ H5 D = some (.dK kvs) ∧ kvs.length < sizeLine ∧ Nx (upd H5 D (.dK (putK kvs k z))) else Nx H3) := by
  refine ⟨fun i m H => m = n - i ∧ i ≤ n ∧ Pv i H, ⟨n, by simp, Nat.zero_le _, h0⟩, ?_⟩
  rintro i m H ⟨rfl, hi, p⟩
  have q := hG i H hi p
  by_cases hlt : i < n
  · exact .inr ⟨w.goes i H hlt q, Pv (i + 1), fun H' p' => ⟨n - (i + 1), by omega, rfl, hlt, p'⟩, fun x H' y => hs i x H H' hlt p (w.yields i H x H' hlt q y)⟩
  · have e : i = n := by omega
    subst e
    exact .inl ⟨w.stops H q, hd H p⟩
end TK

namespace TK
open PySem PySem.Spec PyProof.Rows L2
section
variable {X : Cx}
/-- tuple(a list), the new tuple known to the object -/
theorem call_tuple_frz : CallR X (.type "tuple") (fun xs H Q => ∃ p ys, xs = [.ref p] ∧ SqL X.K H p ys ∧ ∀ (l : Addr) (o : Obj), H l = none → o.cls = .type "tuple" → o.dict = none → Q (.ref l) (upd H l (.frz o (.tup ys)))) := by
  intro pins s σ H xs us Q I r h
  obtain ⟨p, ys, rfl, hq, q⟩ := h
  obtain ⟨u, rfl, rx⟩ := vals1 r
  cases rx
  obtain ⟨its, r', pl, hz⟩ := I.list hq
  have hlen := r'.length
  refine call_tuple_list pl.isList (fun h' kp => ?_) (by simp only [List.size_toArray] <;> omega)
  have I1 : Inv X pins σ H { s with heap := h' } := I.kept (t' := s.toks) kp
  have I2 : Inv X pins σ (upd H h'.objs.size (.frz { cls := .type "tuple", data := .seq its.toArray } (.tup ys))) { s with heap := h'.push { cls := .type "tuple", data := .seq its.toArray } } :=
    I1.laid (t' := s.toks) (fun b o e => Heap.get?_push_of_some _ e) (Nat.le_refl _) (show ObjOk X.prog X.w _ _ _ (.frz _ (.tup ys)) from ⟨Heap.get?_push_size _ rfl, hz, its, r', IsTup.new _ _⟩)
  exact ⟨.ref h'.objs.size, _, I2, rfl, q _ _ (I1.hok.fresh (Nat.le_refl _)) rfl rfl⟩
/-- the value is such a tuple -/
def FrzT (x : V) (H : Hp) : Prop := ∃ p o xs, x = .ref p ∧ H p = some (.frz o (.tup xs)) ∧ o.cls = .type "tuple" ∧ o.dict = none
def tBMF (r : V → List V → Hp → VK → Prop) (to : TE) (t : TA) : TE := fun σ H Q => to σ H fun x H1 => FrzT x H1 ∧ t σ H1 fun xs H2 => r x xs H2 Q
variable {o e : Expr} {es : List Expr} {to : TE} {t : TA} {name : Str} {apos cpos : Pos} {id : String} {r : V → List V → Hp → VK → Prop}
theorem pe_bmF (pa : PlainAttrs "tuple") (slot : Slot "tuple" name id) (hty : typeOf (.builtin id) = pure (.type "method_descriptor")) (hm : MtR X id r) (ho : PE X o to) (ha : PA X (e :: es) t)
    (hbase : attributeBase o name X.env (eval o X.env) = eval o X.env := by rfl)
    (hfew : ((backTo cpos (starEach (e :: es) X.env)).all (fun x => !x.1) && (backToKw cpos (keywordEach [] X.env)).all (fun x => x.1.isSome)
      && decide ((e :: es).length + ([] : List Keyword).length + (if ([] : List Keyword).isEmpty then 0 else 1) < 30)) = true := by rfl)
    (hline : (apos.endLine == cpos.line) = true := by rfl) (hs : starEach (e :: es) X.env = (false, eval e X.env) :: starEach es X.env := by rfl) (hplain : (backTo cpos (starEach es X.env)).any (·.1) = false := by rfl) :
    PE X (.Call (.Attribute o name apos) (e :: es) [] cpos) (tBMF r to t) := by
  refine ⟨fun pins s σ H Q I h => ?_⟩
  refine wpAny_Call_method_late hbase hfew hline rfl (thn (ho.run pins s σ H _ I h) fun v s1 ⟨x, H1, I1, r1, ty, q1⟩ => ?_)
  have h12 : s1.TypeIs v "tuple" ∧ ∀ a, v = .ref a → ∃ ob, s1.heap.get? a = some ob ∧ ob.dict = none := by
    obtain ⟨p, ob, xs, rfl, hp, hc, hd⟩ := ty
    cases r1
    obtain ⟨eo, _⟩ := I1.hok p _ hp
    refine ⟨⟨ob, eo, hc⟩, fun a e => ?_⟩
    cases e
    exact ⟨ob, eo, hd⟩
  refine ⟨"tuple", id, pa, slot, hty, h12.1, h12.2, ?_⟩
  have hA := ha.run cpos pins s1 σ H1 _ I1 q1
  rw [hs] at hA ⊢
  refine Calls.callWith_builtin (by show (false || (backTo cpos (starEach es X.env)).any (·.1)) = false; rw [hplain] <;> rfl) (Calls.evalArgs_plain ?_)
  exact thn hA fun us s2 ⟨vs, H2, I2, r2, q2⟩ => hm pins s2 σ H2 x vs v us Q I2 r1 r2 q2
end
theorem tupFrz {K : PySem.W.Frag} {H : Hp} {a : Addr} {o : Obj} {xs : List V} (h : H a = some (.frz o (.tup xs))) : SqT K H a xs := .inl (.inr ⟨o, h⟩)
end TK

namespace TK
open PySem PySem.Spec PyProof.Rows L2
theorem eqv_nm {a b : List Nat} : eqV (vN a) (vN b) = decide (a = b) := by
  show (sOf a == sOf b) = _
  by_cases h : a = b
  · subst h; simp
  · rw [decide_eq_false h]
    exact beq_eq_false_iff_ne.mpr fun z => h (sOf_inj z)
theorem nms_flat (zs : List (List Nat)) : (zs.map vN).all flatV = true := by
  rw [List.all_eq_true]
  intro x hx
  obtain ⟨c, _, rfl⟩ := List.mem_map.mp hx
  rfl
theorem inV_nm {z : List Nat} {zs : List (List Nat)} : inV (vN z) (zs.map vN) = decide (z ∈ zs) := by
  unfold inV
  rw [List.any_map]
  by_cases h : z ∈ zs
  · rw [decide_eq_true h]
    exact List.any_eq_true.mpr ⟨z, h, by show eqV (vN z) (vN z) = true; rw [eqv_nm]; exact decide_eq_true rfl⟩
  · rw [decide_eq_false h]
    exact List.any_eq_false.mpr fun x hx => by
      show ¬ eqV (vN x) (vN z) = true
      rw [eqv_nm]
      intro e
      have := of_decide_eq_true e
      subst this
      exact h hx
theorem in_nm {z : List Nat} {zs : List (List Nat)} : (if false = true then !inV (vN z) (zs.map vN) else inV (vN z) (zs.map vN)) = decide (z ∈ zs) := by
  rw [if_neg (by decide), inV_nm]
theorem notin_nm {z : List Nat} {zs : List (List Nat)} : (if true = true then !inV (vN z) (zs.map vN) else inV (vN z) (zs.map vN)) = !decide (z ∈ zs) := by
  rw [if_pos rfl, inV_nm]
theorem eq_nm {a b : List Nat} : decide (vN a = vN b) = decide (a = b) := by
  by_cases h : a = b
  · subst h; simp
  · rw [decide_eq_false h]
    exact decide_eq_false fun z => h (sOf_inj (V.str.inj z))
theorem vN_at {zs : List (List Nat)} {i : Nat} {x : V} (h : (zs.map vN)[i]? = some x) : ∃ z, zs[i]? = some z ∧ x = vN z := by
  rw [List.getElem?_map] at h
  cases e : zs[i]? with
  | none => rw [e] at h; cases h
  | some z => rw [e] at h; exact ⟨z, rfl, (Option.some.inj h).symm⟩
theorem int_at {zs : List Int} {i : Nat} {x : V} (h : (zs.map V.int)[i]? = some x) : ∃ z, zs[i]? = some z ∧ x = .int z := by
  rw [List.getElem?_map] at h
  cases e : zs[i]? with
  | none => rw [e] at h; cases h
  | some z => rw [e] at h; exact ⟨z, rfl, (Option.some.inj h).symm⟩
section
variable {X : Cx} {K : PySem.W.Frag}
theorem mt_tup_indexK (h : X.K = K) : MtR X "tuple.index" (fun x xs H Q => ∃ p, ∃ ys : List Str, ∃ z j, x = .ref p ∧ xs = [.str z] ∧ SqT K H p (ys.map V.str) ∧ ys[j]? = some z ∧ (∀ m, m < j → ys[m]? ≠ some z) ∧ Q (.int (j : Nat)) H) := h ▸ L2.mt_tup_index
end
theorem vN_strs (zs : List (List Nat)) : zs.map vN = (zs.map sOf).map V.str := by rw [List.map_map]; rfl
theorem idx_first {zs : List (List Nat)} {z : List Nat} (h : z ∈ zs) (nd : zs.Nodup) : ∃ j : Nat, zs[j]? = some z ∧ (∀ m, m < j → zs[m]? ≠ some z) := by
  obtain ⟨j, hj⟩ := List.getElem?_of_mem h
  refine ⟨j, hj, fun m hm e => ?_⟩
  have hjl := (List.getElem?_eq_some_iff.mp hj).1
  have := (List.getElem?_inj hjl nd).mp (hj.trans e.symm)
  omega
theorem str_first {zs : List (List Nat)} {z : List Nat} {j : Nat} (h : zs[j]? = some z) (f : ∀ m, m < j → zs[m]? ≠ some z) : (zs.map sOf)[j]? = some (sOf z) ∧ ∀ m, m < j → (zs.map sOf)[m]? ≠ some (sOf z) := by
  refine ⟨by rw [List.getElem?_map, h]; rfl, fun m hm e => f m hm ?_⟩
  rw [List.getElem?_map] at e
  cases e1 : zs[m]? with
  | none => rw [e1] at e; cases e
  | some y => rw [e1] at e; exact congrArg some (sOf_inj (Option.some.inj e))
theorem take_map_succ {α β : Type} (f : α → β) {xs : List α} {i : Nat} {x : α} (h : xs[i]? = some x) : (xs.map f).take (i + 1) = (xs.map f).take i ++ [f x] := by
  rw [List.take_add_one, List.getElem?_map, h]; rfl
theorem take_all {α : Type} {xs : List α} {n : Nat} (h : xs.length = n) : xs.take n = xs := by rw [← h, List.take_length]
end TK

namespace TK
open PySem PySem.Spec PyProof.Rows L2
/-! ### the special methods of an own class -/
structure Own (K : PySem.W.Frag) (C : Addr) (name : Str) (g : Addr) : Prop where
  at_ : PySem.W.findIn K (.ref C) name = some (some (.ref g))
  fn : PySem.W.isFn K (.ref g) = true
def IsIn (H : Hp) (x : V) (C : Addr) : Prop := ∃ a dx fs, x = .ref a ∧ H a = some (.ins C dx fs)
section
variable {X : Cx} {CX : CXT} {C g : Addr} {n : Nat} {fd : FuncData} {ps : List Str} {sp : Sp} {E : XK} {pins : List (Addr × Obj)} {σ : L2.St} {H : Hp} {s : Shared}
theorem run_own {A : Around} {Q : VK} {us : List Value} {vs : List V} (F : FnOk X.prog X.w X.K X.mg X.base CX n g fd ps sp) (hr : Room n A) (e0 : Env0 X.prog X.w X.K X.mg X.base A X.stack s H) (hb : Binds X.K fd ps []) (hx : Passes CX X E)
    (I : Inv X pins σ H s) (r : Vals vs us) (h : sp vs H Q E) : wpAny (model X.prog X.w) A (call (.ref g) us) (EP X pins σ Q) X.xe s := by
  have hl : (us ++ []).length = ps.length := by rw [List.append_nil, ← r.length]; exact F.len _ _ _ _ h
  have hbb := hb s us I.kIn hl
  rw [List.append_nil] at hbb
  refine wpAny_call (codeAny_mono (F.run A X.stack s H ⟨us, []⟩ us vs Q E hr e0 hbb r h) fun r s' hq => ?_)
  cases r with
  | error e => exact hx pins σ H s e s' I hq
  | ok fl =>
    cases fl with
    | ret u => exact I.after hq
    | next => exact False.elim hq
    | brk => exact False.elim hq
    | cont => exact False.elim hq
theorem own_at {a dx : Addr} {fs : List (Str × V)} (I : Inv X pins σ H s) (h : H a = some (.ins C dx fs)) : ∃ ox od, PySem.W.InstAt s.heap a ox C od := by
  obtain ⟨mA, J, _⟩ := ins_get I.hok h
  obtain ⟨od, J, _⟩ := J.look
  exact ⟨_, _, J⟩
/-! o[k] -/
def rOwn (C : Addr) (sp : Sp) (E : XK) : R2 := fun x y H Q => IsIn H x C ∧ sp [x, y] H Q E
def PlainIxO (b : Expr) : Prop := ∀ (x : Addr) (i : Value), subscripted b true (.ref x) i = runValue (.builtin "lifetime.subscript" ⟨[.ref x, i], []⟩)
theorem pe_ixOwn {a b : Expr} {ta tb : TE} {pos : Pos} (c : Own X.K C "__getitem__" g) (cf : PySem.W.fnIn X.K g = true) (F : FnOk X.prog X.w X.K X.mg X.base CX n g fd ps sp) (hr : Room (n + 1) X.A) (hb : Binds X.K fd ps []) (hx : Passes CX X E)
    (ha : PE X a ta) (hb' : PE X b tb) (hs : PlainIxO b) : PE X (.Subscript a b pos) (tOp (rOwn C sp E) ta tb) := by
  refine ⟨fun pins s σ H Q I h => ?_⟩
  refine Subscript_ (binT ha hb' I h fun v u s2 x y H2 I2 rx ry q => ?_)
  obtain ⟨⟨p, dx, fs, rfl, hp⟩, q⟩ := q
  cases rx
  obtain ⟨ox, od, J⟩ := own_at I2 hp
  obtain ⟨m, hF⟩ := I2.fr
  exact PySem.W.sub_K hF I2.ok.mod.kin J c.at_ cf c.fn (run_own F hr.in1 I2.env0.in1 hb hx I2 (vs := [.ref p, y]) (.cons rfl (.cons ry .nil)) q) (hs _ _)
/-! o + p, o * p, o | p: two of one class -/
def rOwn2 (C : Addr) (sp : Sp) (E : XK) : R2 := fun x y H Q => IsIn H x C ∧ IsIn H y C ∧ sp [x, y] H Q E
theorem op_ownBin {op : Operator} (c : Own X.K C (PySem.dunder op.info.2) g) (sf : PySem.W.selfFirst X.K C = true) (F : FnOk X.prog X.w X.K X.mg X.base CX n g fd ps sp) (hr : Room n X.A) (hb : Binds X.K fd ps []) (hx : Passes CX X E) :
    OpR X (binaryOp op) (rOwn2 C sp E) := by
  intro pins s σ H x y v u Q I rx ry h
  obtain ⟨⟨a, dx, fs, rfl, ha⟩, ⟨b, dy, gs, rfl, hb'⟩, q⟩ := h
  cases rx
  cases ry
  obtain ⟨ox, od, J⟩ := own_at I ha
  obtain ⟨ox', od', J'⟩ := own_at I hb'
  obtain ⟨m, hF⟩ := I.fr
  refine PySem.W.binop_K hF I.ok.mod.kin J J'.type sf c.at_ c.fn (wpAny_mono (run_own F hr I.env0 hb hx I (vs := [.ref a, .ref b]) (.cons rfl (.cons rfl .nil)) q) (fun w s' z => ?_) fun _ _ x => x)
  obtain ⟨z', H', I', rz, qz⟩ := z
  exact SlX.cmpback rz ⟨z', H', I', rz, qz⟩
/-! o == p: two of one class -/
theorem op_ownEq {op : CmpOp} (hop : ∀ a b, compareOp op a b = richCompare op a b) (c : Own X.K C (cmpInfo op).2.1 g) (F : FnOk X.prog X.w X.K X.mg X.base CX n g fd ps sp) (hr : Room n X.A) (hb : Binds X.K fd ps []) (hx : Passes CX X E) :
    OpR X (compareOp op) (rOwn2 C sp E) := by
  intro pins s σ H x y v u Q I rx ry h
  obtain ⟨⟨a, dx, fs, rfl, ha⟩, ⟨b, dy, gs, rfl, hb'⟩, q⟩ := h
  cases rx
  cases ry
  obtain ⟨ox, od, J⟩ := own_at I ha
  obtain ⟨ox', od', J'⟩ := own_at I hb'
  obtain ⟨m, hF⟩ := I.fr
  rw [hop]
  refine PySem.W.cmp_K (op := op) (tb := .ref C) hr.units0 hF I.ok.mod.kin J J'.type (by simp [PySem.W.notFirst]) c.at_ c.fn (wpAny_mono (run_own F hr I.env0 hb hx I (vs := [.ref a, .ref b]) (.cons rfl (.cons rfl .nil)) q) (fun w s' z => ?_) fun _ _ x => x)
  obtain ⟨z', H', I', rz, qz⟩ := z
  exact SlX.cmpback rz ⟨z', H', I', rz, qz⟩
/-! x in o, x not in o -/
def rOwnIn (neg : Bool) (C : Addr) (sp : Sp) (E : XK) : R2 := fun x y H Q => IsIn H y C ∧ sp [y, x] H (fun z H' => ∃ b, z = .bl b ∧ Q (.bl (if neg then !b else b)) H') E
theorem op_ownIn (c : Own X.K C "__contains__" g) (F : FnOk X.prog X.w X.K X.mg X.base CX n g fd ps sp) (hr : Room n X.A) (hb : Binds X.K fd ps []) (hx : Passes CX X E) : OpR X (compareOp .In) (rOwnIn false C sp E) := by
  intro pins s σ H x y v u Q I rx ry h
  obtain ⟨⟨a, dx, fs, rfl, ha⟩, q⟩ := h
  cases ry
  obtain ⟨ox, od, J⟩ := own_at I ha
  obtain ⟨m, hF⟩ := I.fr
  refine PySem.W.in_K hF I.ok.mod.kin J c.at_ c.fn (wpAny_mono (run_own F hr I.env0 hb hx I (vs := [.ref a, x]) (.cons rfl (.cons rx .nil)) q) (fun w s' z => ?_) fun _ _ x => x)
  obtain ⟨z', H', I', rz, b, rfl, qz⟩ := z
  cases (show w = Value.bool b from rz)
  exact wpAny_truthy_bool ⟨.bl b, H', I', rfl, by simpa using qz⟩
theorem op_ownNotIn (c : Own X.K C "__contains__" g) (F : FnOk X.prog X.w X.K X.mg X.base CX n g fd ps sp) (hr : Room n X.A) (hb : Binds X.K fd ps []) (hx : Passes CX X E) : OpR X (compareOp .NotIn) (rOwnIn true C sp E) := by
  intro pins s σ H x y v u Q I rx ry h
  obtain ⟨⟨a, dx, fs, rfl, ha⟩, q⟩ := h
  cases ry
  obtain ⟨ox, od, J⟩ := own_at I ha
  obtain ⟨m, hF⟩ := I.fr
  refine PySem.W.notIn_K hF I.ok.mod.kin J c.at_ c.fn (wpAny_mono (run_own F hr I.env0 hb hx I (vs := [.ref a, x]) (.cons rfl (.cons rx .nil)) q) (fun w s' z => ?_) fun _ _ x => x)
  obtain ⟨z', H', I', rz, b, rfl, qz⟩ := z
  cases (show w = Value.bool b from rz)
  exact wpAny_truthy_bool ⟨.bl (!b), H', I', rfl, by simpa using qz⟩
/-! len(o) -/
def rOwnLen (C : Addr) (sp : Sp) (E : XK) : List V → Hp → VK → Prop := fun xs H Q => ∃ x, xs = [x] ∧ IsIn H x C ∧ sp [x] H (fun z H' => ∃ k : Nat, z = .int k ∧ k < 2 ^ 63 ∧ Q z H') E
theorem call_ownLen (c : Own X.K C "__len__" g) (F : FnOk X.prog X.w X.K X.mg X.base CX n g fd ps sp) (hr : Room (n + 1) X.A) (hb : Binds X.K fd ps []) (hx : Passes CX X E) : CallR X (.builtin "len") (rOwnLen C sp E) := by
  intro pins s σ H xs us Q I r h
  obtain ⟨x, rfl, ⟨a, dx, fs, rfl, ha⟩, q⟩ := h
  obtain ⟨u, rfl, ru⟩ := vals1 r
  cases ru
  obtain ⟨ox, od, J⟩ := own_at I ha
  obtain ⟨m, hF⟩ := I.fr
  refine PySem.W.len_K hF I.ok.mod.kin J c.at_ c.fn (wpAny_mono (run_own F hr.in1 I.env0.in1 hb hx I (vs := [.ref a]) (.cons rfl .nil) q) (fun w s' z => ?_) fun _ _ x => x)
  obtain ⟨z', H', I', rz, k, rfl, hk, qz⟩ := z
  obtain ⟨t, rfl⟩ := (show ∃ t, w = Value.int k t from rz)
  exact ⟨⟨by omega, by omega⟩, .int k, H', I'.tok _, ⟨_, rfl⟩, qz⟩
/-! iter(t), t a tuple; for x in o -/
abbrev itTObj (t : Addr) (i : Nat) : Obj := { cls := .type "tuple_iterator", data := .fields #[.ref t, .int i 0] }
def ItT (t it : Addr) : HO := .ext fun h => h.get? it = some (itTObj t 0)
theorem itT_ok {P : Program} {w : World} {H : Hp} {h : Heap} {t it : Addr} (e : h.get? it = some (itTObj t 0)) : ObjOk P w H h it (ItT t it) := ⟨e, ⟨_, e⟩, fun h1 h2 q k => k _ q⟩
theorem call_iterT : CallR X (.builtin "iter") (fun xs H Q => ∃ (l : Addr) (zs : List V), xs = [.ref l] ∧ SqT X.K H l zs ∧ ∀ it, H it = Option.none → X.s_0.heap.objs.size ≤ it → Q (.ref it) (upd H it (ItT l it))) := by
  intro pins s σ H xs us Q I r h
  obtain ⟨l, zs, rfl, hq, q⟩ := h
  obtain ⟨u, rfl, ru⟩ := vals1 r
  cases ru
  obtain ⟨its, rv, p, hz⟩ := I.tuple hq
  refine Calls.call_function_entry (by decide +kernel) (by decide +kernel) PySem.W.kdk_entry_iter (PySem.W.kdk_args_iter _) ?_
  unfold Builtin.«iter»
  refine wpAny_bind (m := someArgs "iter" 1 2 _) (wpAny_of_eq (a := [Value.ref l]) (by first | rfl | kernel_rfl!) ?_)
  show wpAny _ _ (pyIter (.ref l) >>= _) _ _ _
  refine wpAny_bind (wpAny_pyIter_tuple (show s.heap.IsTuple l its.toArray from p) ?_)
  exact wpAny_pure ⟨_, rfl, .ref s.heap.objs.size, _, I.laid (t' := s.toks) (fun b u e => Heap.get?_push_of_some _ e) (Nat.le_refl _) (itT_ok (Heap.get?_push_size _ rfl)), rfl, q _ (I.hok.fresh (Nat.le_refl _)) I.sz⟩
/-- what an __iter__ over a tuple does -/
def QIt (H : Hp) (n : Nat) (t : Addr) : VK := fun v H' => ∃ it, v = .ref it ∧ H it = Option.none ∧ n ≤ it ∧ H' = upd H it (ItT t it)
end
def FnIt (P : Program) (w : World) (K : PySem.W.Frag) (mg : Str → Option Value) (base : Heap) (k : Nat) (f : Addr) (R : Addr → Addr → Hp → Prop) : Prop :=
  ∀ (A : Around) (outer : List Env) (s : Shared) (H : Hp) (a t : Addr), Room k A → Env0 P w K mg base A outer s H → R a t H → codeAny (model P w) A (.call (.ref f) ⟨[.ref a], []⟩) (CR CX0 outer P w H s (QIt H s.heap.objs.size t) E0) s
theorem fnIt_of {P : Program} {w : World} {K : PySem.W.Frag} {mg : Str → Option Value} {base : Heap} {k : Nat} {f : Addr} {x qual : Str} {st : Stmt} {fd : FuncData} {N : List Str} {R : Addr → Addr → Hp → Prop} (F : Fun K x qual st f fd) (S : FnScope N ["self"] (defScope st)) (b : Binds K fd ["self"] [])
    (hbody : ∀ (cdv : Value) (A : Around) (outer : List Env) (s : Shared) (H : Hp) (a t : Addr), Room k (A.deeper (envOfC qual (defScope st) s.heap.objs.size f cdv)) → R a t H →
      ∃ tt, PSs (cxOf CX0 P w K mg base N qual (defScope st) f cdv A outer s H E0).nox (defBody st) tt ∧ tt { nx := fun _ H' => QIt H s.heap.objs.size t .non H', rt := QIt H s.heap.objs.size t } (start N [.ref a]) H) : FnIt P w K mg base (k + 1) f R := by
  intro A outer s H a t hr e0 hR
  obtain ⟨oc, od, kV, doc, pm, an, cdv, ct, osl, rfl, lk, hcd⟩ := F.ex
  have KX : K.In s.heap := e0.mod.kin.keeps fun b o e => (e0.bs b o e).1
  have lim : s.heap.NoLimit := e0.mod.nolimit.keeps fun b o e => (e0.bs b o e).1
  have hkind : ∀ y ∈ ([Str.ofString "self"] : List Str).zip [Value.ref a], (defScope st).names.lookup y.1 = some .local ∨ ((defScope st).names.lookup y.1 = some .cell ∧ ((cellsFrom (s.heap.objs.size + 1) (defScope st).names []).lookup y.1).isSome = true) := fun ⟨n, v⟩ hy => by
    rcases S.par n (List.of_mem_zip hy).1 with q | q
    · exact .inl q
    · exact .inr ⟨q, PySem.W.cellsFrom_some _ _ _ (.inl q)⟩
  have hbb := b s [.ref a] KX (by simp)
  rw [List.append_nil] at hbb
  refine codeAny_call_function hr.depth (KX _ _ lk) rfl S.co S.gen rfl (PySem.W.codeRec_of KX hcd) (hbb _ _ _ _ ?_)
  refine wpAny_newFunctionEnv_cells S.kind hkind fun env he s1 x => ?_
  subst he
  refine ⟨lim.keeps x.toInCall.keep, codeAny_func ?_⟩
  obtain ⟨t', ht, hq⟩ := hbody cdv A outer s H a t (hr.deeper _) hR
  have I : Inv (cxOf CX0 P w K mg base N qual (defScope st) f cdv A outer s H E0) [] (start N [V.ref a]) H s1 := inv_start S hr.hd e0 rfl (.cons rfl .nil) x
  refine wpAny_mono (ht.nox.run [] s1 (start N [V.ref a]) H _ I hq) (fun fl s' hs => ?_) fun e s' hs => hs
  have fin : ∀ {σ' : L2.St} {H' : Hp} {v : V} {u : Value}, Inv (cxOf CX0 P w K mg base N qual (defScope st) f cdv A outer s H E0) [] σ' H' s' → RelV v u → QIt H s.heap.objs.size t v H' → CE outer P w H s (QIt H s.heap.objs.size t) u s' :=
    fun {σ' H' v u} J rv q => ⟨v, H', J.os, J.bare, J.base, J.hok, rv, q⟩
  cases fl with
  | ret u =>
    obtain ⟨v, σ', H', J, rv, q⟩ := hs
    exact fin J rv q
  | next =>
    obtain ⟨σ', H', J, q⟩ := hs
    exact fin (v := V.non) (u := Value.none) J rfl q
  | brk =>
    obtain ⟨_, _, _, q⟩ := hs
    exact False.elim q
  | cont =>
    obtain ⟨_, _, _, q⟩ := hs
    exact False.elim q
section
variable {X : Cx} {CX : CXT} {C g : Addr} {n : Nat} {fd : FuncData} {ps : List Str} {sp : Sp} {E : XK} {pins : List (Addr × Obj)} {σ : L2.St} {H : Hp} {s : Shared}
def iOwn (K : PySem.W.Frag) (C : Addr) (R : Addr → Addr → Hp → Prop) (te : TE) : TI := fun σ H Z => te σ H fun x H1 => ∃ a dx fs t, x = .ref a ∧ H1 a = some (.ins C dx fs) ∧ R a t H1 ∧ (∃ xs, SqT K H1 t xs) ∧ Z (Itt K t) H1
theorem pi_own {R : Addr → Addr → Hp → Prop} {e tg : Expr} {te : TE} (c : Own X.K C "__iter__" g) (F : FnIt X.prog X.w X.K X.mg X.base n g R) (hr : Room n X.A) (he : PE X e te) : PI X tg e (iOwn X.K C R te) := by
  refine ⟨fun pins s σ H Z I h => ?_⟩
  refine thn (he.run pins s σ H _ I h) fun v s1 ⟨x, H1, I1, r1, q1⟩ => ?_
  obtain ⟨a, dx, fs, t, rfl, ha, hR, ⟨xs, hxs⟩, q⟩ := q1
  cases r1
  obtain ⟨ox, od, J⟩ := own_at I1 ha
  obtain ⟨m, hF⟩ := I1.fr
  refine PySem.W.owit_iter hF I1.ok.mod.kin J c.at_ c.fn ?_
  refine wpAny_call (codeAny_mono (F X.A X.stack s1 H1 a t hr I1.env0 hR) fun r s' hq => ?_)
  cases r with
  | error e => exact False.elim hq
  | ok fl =>
    cases fl with
    | ret u =>
      obtain ⟨z, H2, os, bare, un, hok, rz, it, rfl, hn, hge, rfl⟩ := id hq
      have I2 : Inv X pins σ (upd H1 it (ItT t it)) s' := I1.call' os un hok bare (fun b z => absurd z (by simp))
      cases rz
      have hget : s'.heap.get? it = some (itTObj t 0) := (I2.hok it _ upd_same).1
      have hT : s'.TypeIs (.ref it) "tuple_iterator" := ⟨_, hget, rfl⟩
      have hi : (upd H1 it (ItT t it)) it = some (.ext fun h => h.get? it = some (itTObj t 0)) := upd_same
      have I3 := ItX.inv_drop I2 hi
      have e3 : ItX.dropH (upd H1 it (ItT t it)) it = H1 := ItX.dropH_upd hn
      have fp := ItX.inv_fp I2 hi (Nat.le_trans I1.sz hge)
      rw [e3] at I3 fp
      unfold PySem.W.OwitIt
      refine wpAny_specialOf (name := Str.ofString "__next__") hT PySem.F.slot_tuple_iterator_next.lookup ?_
      refine ⟨it, [it], _, _, H1, rfl, I3, turn_tuple t it, ⟨_, hget, rfl, rfl⟩, fun b hb => ?_, q⟩
      cases List.mem_singleton.mp hb
      exact fp
    | next => exact False.elim hq
    | brk => exact False.elim hq
    | cont => exact False.elim hq
end
end TK

namespace TK
open PySem PySem.Calls PySem.Spec PyProof.Rows PyProof.V L2
/-! ### two dicts with tuples as keys, equal whatever the order -/
section
variable {prog : Program} {w : World} {K : Type} [DecidableEq K] {knd : HeapKind prog w K} {A : Around} {E : Value → Shared → Prop} {s : Shared}
theorem samePairsH {nm : String} {a b : Addr} {ka kb : List (K × Addr × Value)} {Q : Bool → Shared → Prop} (hu : knd.room A) (ha : (a == sysModules) = false) (hb : (b == sysModules) = false)
    (da : s.heap.DictOfH knd a ka) (db : s.heap.DictOfH knd b kb) (hl : ka.length = kb.length) (hits : ∀ x ∈ ka, ∃ p, atKey kb x.1 = some p ∧ SeqAt.EqAt A s x.2.2 p.2 true) (h : Q true s) :
    wpAny (model prog w) A (Builtin.Dict.samePairs nm a b) Q E s := by
  obtain ⟨oa, es, ep, hoa, _, hda, hea, hia, _⟩ := da
  obtain ⟨ob, es', ep', hob, _, hdb, heb, hib, hnb⟩ := db
  have hla : ka.length = es.size := (size_of_entries hea).symm
  have hlb : kb.length = es'.size := (size_of_entries heb).symm
  have hsz : es.size = es'.size := by omega
  unfold Builtin.Dict.samePairs Builtin.Dict.showsAll
  rw [if_neg (show ¬ (a == sysModules) = true by rw [ha]; exact Bool.false_ne_true), if_neg (show ¬ (b == sysModules) = true by rw [hb]; exact Bool.false_ne_true)]
  refine wpAny_bind (wpAny_pure (wpAny_bind (wpAny_pure ?_)))
  refine wpAny_bind (wpAny_dictEntries hoa hda ?_)
  dsimp only
  refine wpAny_bind (wpAny_dictEntries hob hdb ?_)
  rw [if_neg (by rw [hsz]; simp)]
  refine wpAny_bind (wpAny_dictEpoch hoa hda ?_)
  refine wpAny_bind ?_
  rw [Std.Legacy.Range.forIn_eq_forIn_range']
  simp only [Std.Legacy.Range.size, Nat.sub_zero, Nat.add_sub_cancel, Nat.div_one]
  refine wpAny_forIn_list _
    (fun rest q s' => s' = s ∧ q = (none, ()) ∧ ∃ i, rest = List.range' i (es.size - i) ∧ i ≤ es.size)
    _ ?_ ?_ _ _ ⟨rfl, rfl, 0, by simp, Nat.zero_le _⟩
  · rintro x rest q s' ⟨rfl, rfl, i, hr, hi⟩
    have hlt : i < es.size := by
      rcases Nat.lt_or_ge i es.size with h | h
      · exact h
      · rw [Nat.sub_eq_zero_of_le h] at hr; simp at hr
    obtain ⟨rfl, hrest⟩ : x = i ∧ rest = List.range' (i + 1) (es.size - (i + 1)) := by
      have e : es.size - i = (es.size - (i + 1)) + 1 := by omega
      rw [e, List.range'_succ] at hr
      injection hr with h1 h2
      exact ⟨h1, h2⟩
    refine wpAny_bind (wpAny_dictEntries hoa hda ?_)
    have hlt' : x < ka.length := by rw [hla]; exact hlt
    have hent : es[x]? = some (entryOfKey knd ka[x]) := by rw [entry_at hea x, List.getElem?_eq_getElem hlt']; rfl
    rw [hent]
    obtain ⟨p, hp, heq⟩ := hits ka[x] (List.getElem_mem hlt')
    have hkey := hia ka[x] (List.getElem_mem hlt')
    show wpAny _ _ (holding [(entryOfKey knd ka[x]).key, (entryOfKey knd ka[x]).val] _ >>= _) _ _ _
    refine wpAny_bind (wpAny_holding (wpAny_bind (wpAny_dictFind_heap hu hkey hob hdb heb hib hnb ?_ ?_)))
    · intro hno
      rw [atKey_none_of_get hno] at hp
      exact nomatch hp
    · intro j p' hj
      have ep' : p' = p := Option.some.inj ((atKey_of_get hnb hj).symm.trans hp)
      subst ep'
      refine wpAny_bind (wpAny_dictEntries hob hdb ?_)
      rw [entry_at heb j, hj]
      refine wpAny_holding (heq prog w _ _ ?_)
      show wpAny _ _ (if (!true) = true then _ else _) _ _ _
      rw [if_neg (by decide)]
      refine wpAny_bind (wpAny_dictEpoch hoa hda ?_)
      rw [if_neg (by simp)]
      exact wpAny_pure ⟨rfl, rfl, x + 1, hrest, hlt⟩
  · rintro q s' ⟨rfl, rfl, i, hr, hi⟩
    refine wpAny_pure ?_
    exact h
theorem eqDictH {a b : Addr} {ka kb : List (K × Addr × Value)} {Q : Value → Shared → Prop} (hr : knd.room A.in1) (ha : (a == sysModules) = false) (hb : (b == sysModules) = false)
    (da : s.heap.DictOfH knd a ka) (db : s.heap.DictOfH knd b kb) (hu : A.units < cLine) (hl : ka.length = kb.length) (hits : ∀ x ∈ ka, ∃ p, atKey kb x.1 = some p ∧ SeqAt.EqAt A.in1 s x.2.2 p.2 true) (h : Q (.bool true) s) :
    wpAny (model prog w) A (compareOp .Eq (.ref a) (.ref b)) Q E s := by
  refine wpAny_richCompare_same_room (op := .Eq) da.typeIs db.typeIs PySem.F.slot_dict_eq (wpAny_call_entry PySem.F.slot_dict_eq da.typeIs PySem.F.entry_dict_eq ?_ (PySem.F.args_dict_eq_2 _ _)) hu
  show wpAny _ _ (Builtin.Dict.dictSlotArgs "__eq__" ⟨[.ref a, .ref b], []⟩ >>= _) _ _ s
  refine wpAny_bind ?_
  unfold Builtin.Dict.dictSlotArgs
  refine wpAny_bind (wpAny_notOrdered_dict da.typeIs ?_)
  show wpAny _ _ (pure (Value.ref a, Value.ref b)) _ _ s
  refine wpAny_pure ?_
  refine wpAny_bind (wpAny_isInstance (T := "dict") db.typeIs PySem.F.sub_dict_dict ?_)
  simp only [Bool.not_true, Bool.false_eq_true, if_false]
  refine wpAny_bind (wpAny_pure (wpAny_bind (wpAny_pure ?_)))
  refine wpAny_bind (samePairsH hr ha hb da db hl hits ?_)
  refine wpAny_pure ⟨_, rfl, ?_, ?_⟩
  · exact fun x => nomatch x
  · simpa using h
end
section
variable {X : Cx}
def rEqDT : R2 := fun x y H Q => ∃ a b ks ls, x = .ref a ∧ y = .ref b ∧ H a = some (.dT ks) ∧ H b = some (.dT ls) ∧ ks.length = ls.length ∧ (∀ p ∈ ks, valV ls p.1 = some p.2 ∧ flatB p.2 = true) ∧ Q (.bl true) H
theorem hitsT {H : Hp} {A : Around} {s : Shared} {ls : List (List Key × V)} {xb : List (List Key × Addr × Value)} (rb : KT H ls xb) {ks : List (List Key × V)} {xa : List (List Key × Addr × Value)} (ra : KT H ks xa) :
    (∀ p ∈ ks, valV ls p.1 = some p.2 ∧ flatB p.2 = true) → ∀ x ∈ xa, ∃ p, atKey xb x.1 = some p ∧ SeqAt.EqAt A s x.2.2 p.2 true := by
  unfold KT at ra
  induction ra with
  | nil => intro _ x h; exact absurd h List.not_mem_nil
  | @cons p q ps qs h t ih =>
    intro hp x hx
    rcases List.mem_cons.mp hx with rfl | hx
    · obtain ⟨h1, _, h2⟩ := h
      obtain ⟨e, f⟩ := hp p List.mem_cons_self
      have rr : RelO (some p.2) ((atKey xb p.1).map (·.2)) := by rw [← e]; exact rb.val p.1
      obtain ⟨y, hy, ry⟩ := rr.some_of
      obtain ⟨z, hz, rfl⟩ := Option.map_eq_some_iff.mp hy
      exact ⟨z, by rw [← h1]; exact hz, eqAt_same h2 ry f⟩
    · exact ih (fun p' hm => hp p' (List.mem_cons_of_mem _ hm)) x hx
theorem op_eq_dictT (hu : X.A.units + 1 < cLine) : OpR X (compareOp .Eq) rEqDT := by
  intro pins s σ H x y v u Q I rx ry h
  obtain ⟨a, b, ks, ls, rfl, rfl, ea, eb, hlen, hp, q⟩ := h
  obtain rfl : v = Value.ref a := rx
  obtain rfl : u = Value.ref b := ry
  obtain ⟨_, ya, va, ra, da⟩ := dt_rd I.hok (.inl ea)
  obtain ⟨_, yb, vb, rb, db⟩ := dt_rd I.hok (.inl eb)
  have hl : va.length = vb.length := by rw [← Paired.length ra, ← Paired.length rb]; exact hlen
  exact eqDictH (tupleKind_room_in1 hu) ya yb da db (Nat.lt_of_succ_lt hu) hl (hitsT rb ra hp) (fin_bl I q rfl)
end
end TK

namespace TK
open PySem PySem.Spec PyProof.Rows L2
/-- any loop of a comprehension over whatever walks (for two generators: one time each) -/
theorem walk_go {J : It} {n : Nat} {G : Hp → Prop} {Y : Nat → Hp → V → Hp → Prop} (w : Walk J n G Y) {H0 : Hp} {Qd : Hp → Prop} {body : (Hp → Prop) → V → Hp → Prop} (Pv : Nat → Hp → Prop) (h0 : Pv 0 H0) (hG : ∀ i H, i ≤ n → Pv i H → G H)
    (hs : ∀ i x H H', i < n → Pv i H → Y i H x H' → body (Pv (i + 1)) x H') (hd : ∀ H, Pv n H → Qd H) :
    ∃ W : Nat → Nat → Hp → Prop, (∃ m, W 0 m H0) ∧ ∀ i m H, W i m H →
      (J.stop i H ∧ Qd H) ∨ (J.go i H ∧ ∃ Nx : Hp → Prop, (∀ H', Nx H' → ∃ m', m' < m ∧ W (i + 1) m' H') ∧ ∀ x H', J.yld i H x H' → body Nx x H') := by
  refine ⟨fun i m H => m = n - i ∧ i ≤ n ∧ Pv i H, ⟨n, by simp, Nat.zero_le _, h0⟩, ?_⟩
  rintro i m H ⟨rfl, hi, p⟩
  have q := hG i H hi p
  by_cases hlt : i < n
  · exact .inr ⟨w.goes i H hlt q, Pv (i + 1), fun H' p' => ⟨n - (i + 1), by omega, rfl, hlt, p'⟩, fun x H' y => hs i x H H' hlt p (w.yields i H x H' hlt q y)⟩
  · have e : i = n := by omega
    subst e
    exact .inl ⟨w.stops H q, hd H p⟩
theorem pe_fldK {X : Cx} {K : PySem.W.Frag} {e : Expr} {f : Str} {pos : Pos} {ta : TE} (h : X.K = K) (he : PE X e ta) (hb : attributeBase e f X.env (eval e X.env) = eval e X.env) : PE X (.Attribute e f pos) (tFld K ta f) := h ▸ pe_fld he hb
theorem pi_tupK {X : Cx} {K : PySem.W.Frag} {tg e : Expr} {te : TE} (h : X.K = K) (he : PE X e te) : PI X tg e (iTup K te) := h ▸ pi_tup he
end TK

/-! sorted(l), l a list of tuples of ints of any lengths -/
namespace TLS
open PySem PySem.W PySem.Calls PyProof.Rows SrtO
/-- v is a tuple that holds these numbers -/
def IsTI (h : Heap) (v : Value) (ns : List Int) : Prop := ∃ (a : Addr) (o : Obj) (items : Array Value) (n : Nat), v = .ref a ∧ h.get? a = some o ∧ o.cls = .type "tuple" ∧ o.data = .seq items n ∧ IntsAre items.toList ns
theorem IsTI.keeps {h h' : Heap} {v : Value} {ns : List Int} (x : IsTI h v ns) (k : ∀ b o, v = .ref b → h.get? b = some o → h'.get? b = some o) : IsTI h' v ns := by
  obtain ⟨a, o, items, n, e, g, c, d, i⟩ := x
  exact ⟨a, o, items, n, e, k _ _ e g, c, d, i⟩
theorem IsTI.type {M : Model} {h : Heap} {v : Value} {ns : List Int} (x : IsTI h v ns) : Looks M h (typeOf v) (.type "tuple") := by
  obtain ⟨a, o, items, n, rfl, g, c, d, i⟩ := x
  exact c ▸ (Looks.ld g).andThen .now
section
variable {prog : Program} {w : World} {A : Around} {E : Value → Shared → Prop} {s : Shared}
/-- place by place -/
theorem lex_go (fin : Bool) {Q : Bool → Shared → Prop} : ∀ (vs ws : List Value) (ns ms : List Int) (i : Nat), IntsAre vs ns → IntsAre ws ms → fin = decide (ns.length < ms.length) → Q (HT.lexLt ns ms) s → KatLex prog w A true fin Q (vs.zip ws) i s := by
  intro vs
  induction vs with
  | nil =>
    intro ws ns ms i h1 h2 hf hq
    cases h1
    refine kat_nil ?_
    cases h2 with
    | nil => rw [hf]; rw [HT.lexLt_nil_nil] at hq; exact hq
    | cons c u h2 => rw [hf]; rw [HT.lexLt_nil_cons] at hq; rw [decide_eq_true (by simp)]; exact hq
  | cons v vs ih =>
    intro ws ns ms i h1 h2 hf hq
    cases h1 with
    | cons a t h1 =>
      cases h2 with
      | nil =>
        refine kat_nil ?_
        rw [hf]; rw [HT.lexLt_cons_nil] at hq; rw [decide_eq_false (by simp)]; exact hq
      | cons c u h2 =>
        rw [HT.lexLt_cons] at hq
        refine kat_cons (SeqAt.EqAt.int_int a t c u prog w _ _ ?_)
        refine kat_go (fun e1 => ?_) (fun e1 => ?_)
        · have ex : a = c := by simpa using e1
          rw [if_pos ex] at hq
          exact kat_yes (ih _ _ _ _ h1 h2 (by rw [hf]; simp) hq)
        · have ex : ¬ a = c := by simpa using e1
          rw [if_neg ex] at hq
          exact kat_no (TS.oneLt_ints _ hq)
theorem lt_tuples {v u : Value} {ns ms : List Int} {Q : Bool → Shared → Prop} (hv : IsTI s.heap v ns) (hw : IsTI s.heap u ms) (h : Q (HT.lexLt ns ms) s) : wpAny (model prog w) A (keyLt' (tuples' true) v u) Q E s := by
  obtain ⟨a, o, items, n, rfl, g, c, d, i⟩ := hv
  obtain ⟨a', o', items', n', rfl, g', c', d', i'⟩ := hw
  refine kat_lt g d g' d' (lex_go _ _ _ ns ms 0 i i' ?_ h)
  have z1 : items.size = ns.length := by rw [← i.length]; simp
  have z2 : items'.size = ms.length := by rw [← i'.length]; simp
  rw [z1, z2]
theorem lt_general {v u : Value} {ns ms : List Int} {Q : Bool → Shared → Prop} (hu : A.units < cLine) (hv : IsTI s.heap v ns) (hw : IsTI s.heap u ms) (h : Q (HT.lexLt ns ms) s) : wpAny (model prog w) A (oneLt' false v u) Q E s := by
  obtain ⟨a, o, items, n, rfl, g, c, d, i⟩ := hv
  obtain ⟨a', o', items', n', rfl, g', c', d', i'⟩ := hw
  refine kat_one _ _ (HT.lt_tupInts (l := a) (b := a') ⟨o, g, c, n, d⟩ ⟨o', g', c', n', d'⟩ i i' hu ?_)
  exact h
theorem call_ltT {a b : Addr} {dd dd2 : Option Addr} {items items2 : Array Value} {n n2 : Nat} {sl sl2 : Array (Option Value)} {ns ms : List Int} {Q : Value → Shared → Prop} (ga : s.heap.get? a = some { cls := .type "tuple", dict := dd, data := .seq items n, slots := sl })
    (gb : s.heap.get? b = some { cls := .type "tuple", dict := dd2, data := .seq items2 n2, slots := sl2 }) (ia : IntsAre items.toList ns) (ib : IntsAre items2.toList ms) (h : Q (.bool (HT.lexLt ns ms)) s) : wpAny (model prog w) A (call (.builtin "tuple.__lt__") [.ref a, .ref b]) Q E s := by
  refine wpAny_call (codeAny_call_builtin PySem.F.slot_tuple_lt.plain PySem.F.entry_tuple_lt (PySem.F.slot_tuple_lt.check _ _ _ _ _ _ _ _ ⟨_, ga, rfl⟩ (PySem.F.args_tuple_lt_2 _ _) ?_))
  refine wpAny_mono (HT.tuple_lt_ints a b items items2 n n2 dd dd2 sl sl2 ns ms ia ib prog w _ (wants Q E) s ⟨ga, gb, h⟩) (fun fin s' q => ?_) fun _ _ z => z
  cases fin with
  | done f => exact q
  | again c => exact q
theorem lt_one {v u : Value} {ns ms : List Int} {Q : Bool → Shared → Prop} (hu : A.units < cLine) (hv : IsTI s.heap v ns) (hw : IsTI s.heap u ms) (h : Q (HT.lexLt ns ms) s) : wpAny (model prog w) A (keyLt' oneType' v u) Q E s := by
  have tv : Looks (model prog w) s.heap (typeOf v) (.type "tuple") := hv.type
  have sp : Looks (model prog w) s.heap (specialOf v "__lt__") (some (.builtin "tuple.__lt__")) := tv.andThen (by
    show Looks _ _ (typeLookup (.type "tuple") (cmpInfo .Lt).2.1) _
    rw [PySem.F.slot_tuple_lt.lookup]
    exact .now)
  obtain ⟨a, o, items, n, rfl, g, c, d, i⟩ := hv
  obtain ⟨a', o', items', n', rfl, g', c', d', i'⟩ := hw
  obtain ⟨cls, dd, data, sl⟩ := o
  obtain ⟨cls2, dd2, data2, sl2⟩ := o'
  simp only at c d c' d'
  subst c d c' d'
  rw [keyLt'_oneType, oneLt'_eq]
  simp only [if_true]
  refine wpAny_bind (wpAny_cRoomFor hu ?_)
  refine wpAny_bind (NtL.csib (E := E) sp (PySem.F.slot_tuple_lt.bind _) (call_ltT g g' i i' ?_))
  exact wpAny_truthy_bool h
/-- what stands first in each -/
def firstsO (h : Heap) : List Value → List (Option Value) → Prop
  | [], [] => True
  | v :: vs, f :: fs => (∃ a o xs n, v = .ref a ∧ h.get? a = some o ∧ o.cls = .type "tuple" ∧ o.data = .seq xs n ∧ xs[0]? = f) ∧ firstsO h vs fs
  | _, _ => False
theorem firsts_walk {M : Model} : ∀ (vs : List Value) (fs : List (Option Value)) {Q : List (Option Value) → Shared → Prop}, firstsO s.heap vs fs → Q fs s → wpAny M A (vs.mapM firstOfTuple') Q E s
  | [], [], _, _, h => by rw [List.mapM_nil]; exact wpAny_pure h
  | [], _ :: _, _, t, _ => t.elim
  | _ :: _, [], _, t, _ => t.elim
  | v :: vs, f :: fs, Q, t, h => by
    obtain ⟨⟨a, o, xs, n, rfl, ho, hc, hd, hf⟩, t⟩ := t
    rw [List.mapM_cons]
    refine wpAny_bind ?_
    rw [kas_first_eq]
    refine wpAny_bind (Looks.here (show Looks M s.heap (typeOf (.ref a)) o.cls from (Looks.ld ho).andThen .now) ?_)
    rw [hc, if_neg (by first | decide | simp)]
    refine wpAny_bind (listItems_at ho hd (wpAny_pure ?_))
    rw [hf]
    exact wpAny_bind (firsts_walk vs fs (Q := fun bs s' => wpAny M A (pure (f :: bs)) Q E s') t (wpAny_pure h))
theorem firstsO_of {k : Value → List Int} : ∀ {vs : List Value}, (∀ v ∈ vs, IsTI s.heap v (k v)) → ∃ fs, firstsO s.heap vs fs ∧ fs.length = vs.length ∧ (∀ (i : Nat) v, vs[i]? = some v → ∃ f, fs[i]? = some f ∧ (f.isSome = true ↔ k v ≠ [])) ∧ ∀ f ∈ fs, ∀ u, f = some u → ∃ x t, u = Value.int x t
  | [], _ => ⟨[], trivial, rfl, fun _ _ h => (nomatch h), fun _ h => nomatch h⟩
  | v :: vs, h => by
    obtain ⟨fs, h1, h2, h3, h4⟩ := firstsO_of (vs := vs) fun u m => h u (List.mem_cons_of_mem _ m)
    obtain ⟨a, o, items, n, e, g, c, d, i⟩ := h v List.mem_cons_self
    have key : (items[0]?.isSome = true ↔ k v ≠ []) ∧ ∀ u, items[0]? = some u → ∃ x t, u = Value.int x t := by
      obtain ⟨its⟩ := items
      generalize k v = ns at i ⊢
      cases i with
      | nil => simp
      | cons x t r => simp
    refine ⟨items[0]? :: fs, ⟨⟨a, o, items, n, e, g, c, d, rfl⟩, h1⟩, by simp [h2], fun j u hj => ?_, fun f hf u hu => ?_⟩
    · cases j with
      | zero => cases Option.some.inj hj; exact ⟨_, rfl, key.1⟩
      | succ j => exact h3 j u hj
    · rcases List.mem_cons.mp hf with rfl | hf
      · exact key.2 u hu
      · exact h4 f hf u hu
theorem kat_of {k : Value → List Int} : ∀ {vs : List Value}, (∀ v ∈ vs, IsTI s.heap v (k v)) → (∀ v ∈ vs, k v ≠ []) → ∃ gs, KatTups s.heap vs gs ∧ gs.length = vs.length ∧ ∀ f ∈ gs, ∃ x t, f = Value.int x t
  | [], _, _ => ⟨[], .nil, rfl, fun _ h => nomatch h⟩
  | v :: vs, h, n => by
    obtain ⟨gs, h1, h2, h3⟩ := kat_of (vs := vs) (fun u m => h u (List.mem_cons_of_mem _ m)) fun u m => n u (List.mem_cons_of_mem _ m)
    obtain ⟨a, o, items, m, e, g, c, d, i⟩ := h v List.mem_cons_self
    have nv := n v List.mem_cons_self
    obtain ⟨x, t, hx⟩ : ∃ x t, items[0]? = some (Value.int x t) := by
      obtain ⟨its⟩ := items
      generalize k v = ns at i nv
      cases i with
      | nil => exact absurd rfl nv
      | cons x t r => exact ⟨x, t, by simp⟩
    subst e
    refine ⟨.int x t :: gs, .cons g c d hx h1, by simp [h2], fun f hf => ?_⟩
    rcases List.mem_cons.mp hf with rfl | hf
    · exact ⟨x, t, rfl⟩
    · exact h3 f hf
theorem ti_sortable {a : Addr} {vs : List Value} {k : Value → List Int} (h0 : 0 < vs.length) (hu : A.units < cLine) (hp : ∀ v ∈ vs, IsTI s.heap v (k v)) (ha : ∀ o, s.heap.get? a = some o → o.cls ≠ .type "tuple") : SortableO prog w A s a vs fun v u => HT.lexLt (k v) (k u) := by
  intro h' keep
  have hp' : ∀ v ∈ vs, IsTI h' v (k v) := fun v hm => by
    obtain ⟨b, o, items, n, e, g, c, d, i⟩ := hp v hm
    exact ⟨b, o, items, n, e, keep b o (fun z => by subst z; exact ha o g c) g, c, d, i⟩
  by_cases all : ∀ v ∈ vs, k v ≠ []
  · obtain ⟨gs, h1, h2, h3⟩ := kat_of (s := { s with heap := h' }) hp' all
    refine ⟨tuples' true, fun Q E hq => ?_, fun p q hm hm' => lt_tuples (s := { s with heap := h' }) (hp' _ hm) (hp' _ hm') ⟨rfl, rfl⟩⟩
    refine PySem.W.kat_kind (T := .type "int") h1 (by omega) (fun f hm => ?_) (by rfl) ?_
    · obtain ⟨x, t, rfl⟩ := h3 f hm
      exact PySem.W.Looks.now
    · have e : (Value.type "int" != Value.type "tuple") = true := by first | decide +kernel | rfl | decide
      rw [e]
      exact hq
  · obtain ⟨fs, h1, h2, h3, h4⟩ := firstsO_of (s := { s with heap := h' }) hp'
    have hno : (fs.toArray.all fun x => x.isSome) = false := by
      rw [List.all_toArray]
      cases e : fs.all (fun x => x.isSome) with
      | false => rfl
      | true =>
        refine absurd (fun v hm => ?_) all
        obtain ⟨j, hj⟩ := List.getElem?_of_mem hm
        obtain ⟨f, hf, hi⟩ := h3 j v hj
        exact hi.mp (List.all_eq_true.mp e f (List.mem_of_getElem? hf))
    by_cases hd : (fs.toArray[0]?.bind id).isSome = true
    · refine ⟨general', fun Q E hq => ?_, fun p q hm hm' => ?_⟩
      · rw [kat_kind_eq, List.mapM_toArray, map_eq_pure_bind]
        refine wpAny_bind (wpAny_bind (firsts_walk vs fs h1 (wpAny_pure ?_)))
        rw [if_neg (by rw [hno]; decide), if_pos hd]
        exact wpAny_pure hq
      · show wpAny _ _ (oneLt' false p.1 q.1) _ _ _
        exact lt_general (s := { s with heap := h' }) hu (hp' _ hm) (hp' _ hm') ⟨rfl, rfl⟩
    · refine ⟨oneType', fun Q E hq => ?_, fun p q hm hm' => lt_one (s := { s with heap := h' }) hu (hp' _ hm) (hp' _ hm') ⟨rfl, rfl⟩⟩
      rw [kat_kind_eq, List.mapM_toArray, map_eq_pure_bind]
      refine wpAny_bind (wpAny_bind (firsts_walk vs fs h1 (wpAny_pure ?_)))
      rw [if_neg (by rw [hno]; decide), if_neg hd]
      rw [oneTypeOnly'_eq, List.mapM_toArray, map_eq_pure_bind]
      refine wpAny_bind (wpAny_bind (wpAny_bind (kas_mapM (r := Value.type "tuple") _ (fun v hv Q' hq' => ((hp' v hv).type (M := model prog w)).here hq') (wpAny_pure ?_))))
      obtain ⟨v1, rest, rfl⟩ : ∃ v1 rest, vs = v1 :: rest := by
        match vs, h0 with
        | v1 :: rest, _ => exact ⟨v1, rest, rfl⟩
      have hall : ((List.map (fun _ => Value.type "tuple") (v1 :: rest)).toArray.all fun x => x == Value.type "tuple") = true := by
        simp only [List.all_toArray, List.all_map, List.all_eq_true]
        intro _ _
        rfl
      have h00 : (List.map (fun _ => Value.type "tuple") (v1 :: rest)).toArray[0]? = some (Value.type "tuple") := by simp
      rw [h00]
      simp only [hall, if_true]
      exact wpAny_pure (wpAny_pure hq)
theorem sorted_ti {l : Addr} {vs : List Value} {k : Value → List Int} {Q : Value → Shared → Prop} (hu : A.units + 64 < cLine) (hl : s.heap.IsList l vs.toArray) (hz : vs.length ≤ sizeLine) (hp : ∀ v ∈ vs, IsTI s.heap v (k v))
    (h : ∀ (h' : Heap) (d : Addr) (out : List Value), Srtd (fun v u => HT.lexLt (k v) (k u)) out → Stb (fun v u => HT.lexLt (k v) (k u)) out vs → (∀ b o, s.heap.get? b = some o → h'.get? b = some o) → s.heap.objs.size ≤ d → (∃ n, h'.get? d = some (seqObj "list" out.toArray n)) → Q (.ref d) { s with heap := h' }) :
    wpAny (model prog w) A (call (.builtin "sorted") [.ref l]) Q E s := by
  refine sorted_ord (NtL.swo_lexL k) hl hz (fun h2 h₁ a ha kk => ?_) fun out hs hb => ?_
  · refine ti_sortable (s := { s with heap := h₁ }) (by omega) (by show A.units + 1 + 1 < cLine; omega) (fun v hm => (hp v hm).keeps fun b o _ e => (kk b o e).2) fun o e => ?_
    have e' : some o = some (seqObj "list" vs.toArray 0) := e.symm.trans ha
    cases e'
    intro c
    exact absurd (Value.type.inj c) (by decide)
  · exact h _ _ out hs hb (fun b o e => sortedAll_old e) (Nat.le_succ _) (sortedAll_at s.heap vs out.toArray)
end
end TLS
namespace TK
open PySem PySem.Spec PyProof.Rows L2
theorem ints_are : ∀ {ns : List Int} {us : List Value}, Vals (ns.map V.int) us → IntsAre us ns
  | [], us, r => by
    rw [List.map_nil] at r
    cases r
    exact .nil
  | n :: ns, us, r => by
    rw [List.map_cons] at r
    cases r with
    | cons h q =>
      obtain ⟨t, rfl⟩ := h
      exact .cons n t (ints_are q)
abbrev ltL (k : V → List Int) (x y : V) : Bool := HT.lexLt (k x) (k y)
/-- sorted(l), l a list of tuples of ints of any lengths (k says which): a new list, sorted, equal ones in their order -/
def rSortedTI (K : PySem.W.Frag) : List V → Hp → VK → Prop := fun vs H Q => ∃ (a : Addr) (xs : List V) (k : V → List Int), vs = [V.ref a] ∧ SqL K H a xs ∧ (∀ x ∈ xs, ∃ t, x = V.ref t ∧ H t = some (.tup ((k x).map V.int))) ∧
  ∀ ys p, SrtO.Srtd (ltL k) ys → SrtO.Stb (ltL k) ys xs → H p = none → Q (.ref p) (upd H p (.lst ys))
section
variable {X : Cx}
theorem call_sortedTI (hu : X.A.units + 64 < cLine) : CallR X (.builtin "sorted") (rSortedTI X.K) := by
  intro pins s σ H vs us Q I r h
  obtain ⟨a, xs, k, rfl, hs, hx, q⟩ := h
  obtain ⟨its, rv, hl, hz⟩ := I.list hs
  obtain ⟨u, rfl, ru⟩ := vals1 r
  obtain rfl : u = Value.ref a := ru
  obtain ⟨e1, e2⟩ := refs_back rv fun x m => by
    obtain ⟨t, e, _⟩ := hx x m
    exact ⟨t, e⟩
  refine TLS.sorted_ti (k := fun u => k (backV u)) hu hl.isList (by rw [← rv.length]; exact hz) (fun v hv => ?_) fun h' d out h1 h2 kp hd hn => ?_
  · obtain ⟨t, rfl⟩ := e2 v hv
    have hm : V.ref t ∈ xs := by rw [e1]; exact List.mem_map.mpr ⟨_, hv, rfl⟩
    obtain ⟨t', e, ht⟩ := hx _ hm
    cases e
    obtain ⟨_, its2, r2, o, ho, hc, n, hd⟩ := I.hok _ _ ht
    exact ⟨t, o, _, n, rfl, ho, hc, hd, by show IntsAre _ (k (V.ref t)); simpa using ints_are r2⟩
  · have h3 : ∀ u ∈ out, ∃ a, u = Value.ref a := fun u hu => e2 u (h2.perm.mem_iff.mp hu)
    obtain ⟨n, hn⟩ := hn
    have hb : SrtO.Stb (ltL k) (out.map backV) xs := by
      rw [e1]
      exact SrtO.Stb.map (NtL.swo_lexL k) backV h2
    refine ⟨.ref d, upd H d (.lst (out.map backV)), I.laid (t' := s.toks) kp hd ⟨?_, out, n, vals_back h3, hn⟩, rfl, q _ d (SrtO.srtd_map h1) hb (I.hok.fresh hd)⟩
    rw [hb.len]
    exact hz
end
end TK

namespace TK
open PySem PySem.Spec PyProof.Rows L2
/-- o.m(k = v, ..) of an instance of the class at C -/
def tMethK (C : Addr) (m : Str) (n : Nat) (sp : Sp) (gV : List V → List V → List V) (E : XK) (ta : TE) (tk : TA) : TE := fun σ H Q => ta σ H fun x H1 => ∃ a dx fs, x = .ref a ∧ H1 a = some (.ins C dx fs) ∧ fs.lookup m = none ∧
  tk σ H1 fun zs H2 => zs.length = n ∧ sp (gV [x] zs) H2 Q E
section
variable {X : Cx} {CX : CXT} {k : Nat} {f C : Addr} {fd : FuncData} {ps ks : List Str} {sp : Sp} {E : XK} {m : Str} {pos apos : Pos} {o : Expr} {kws : List Keyword} {ta : TE} {tk : TA} {g : List Value → List Value → List Value} {gV : List V → List V → List V}
theorem run_kb {pins : List (Addr × Obj)} {σ : L2.St} {H : Hp} {s : Shared} {Q : VK} {n : Nat} {us ws : List Value} {vs zs : List V} (F : FnOk X.prog X.w X.K X.mg X.base CX k f fd ps sp) (hr : Room k X.A) (hb : KBn X.K fd ps n ks g gV) (hx : Passes CX X E)
    (I : Inv X pins σ H s) (r : Vals vs us) (rz : Vals zs ws) (l1 : us.length = n) (l2 : ws.length = ks.length) (h : sp (gV vs zs) H Q E) : wpAny (model X.prog X.w) X.A (call (.ref f) us (ks.zip ws)) (EP X pins σ Q) X.xe s := by
  refine wpAny_call (codeAny_mono (F.run X.A X.stack s H ⟨us, ks.zip ws⟩ (g us ws) (gV vs zs) Q E hr I.env0 (hb.to s us ws I.kIn l1 l2) (hb.rel r rz) h) fun r s' hq => ?_)
  cases r with
  | error e => exact hx pins σ H s e s' I hq
  | ok fl =>
    cases fl with
    | ret u => exact I.after hq
    | next => exact False.elim hq
    | brk => exact False.elim hq
    | cont => exact False.elim hq
theorem pe_methK0 {pl : Sem Bool} (he : PE X o ta) (c : Cls X.K C) (hm : Meth X.K C m f) (F : FnOk X.prog X.w X.K X.mg X.base CX k f fd ps sp) (hr : Room k X.A) (hb : KBn X.K fd ps 1 ks g gV) (hx : Passes CX X E) (hkw : PK X kws tk)
    (hall : (backToKw pos (keywordEach kws X.env)).all (·.1.isSome) = true := by rfl) (hks : (backToKw pos (keywordEach kws X.env)).filterMap (·.1) = ks := by rfl)
    (hpl : ((backTo pos (starEach [] X.env)).any (·.1) || (backToKw pos (keywordEach kws X.env)).any (·.1.isNone)) = false := by rfl)
    (ht : eval (.Call (.Attribute o m apos) [] kws pos) X.env = (do
      let ov ← eval o X.env
      standAt apos.atName
      let (f, first) ← holding [ov] (getMethod ov m pl)
      callWith pos f first (backTo pos (starEach [] X.env)) (backToKw pos (keywordEach kws X.env))) := by rfl) :
    PE X (.Call (.Attribute o m apos) [] kws pos) (tMethK C m ks.length sp gV E ta tk) := by
  refine ⟨fun pins s σ H Q I h => ?_⟩
  refine PySem.W.methodCall_KW (pl := pl) (thn (he.run pins s σ H _ I h) fun u s1 ⟨x, H1, I1, rx, a, dx, fs, ex, ea, l, q⟩ => ?_) ht
  subst ex
  obtain rfl : u = Value.ref a := rx
  refine getmeth_ok I1 ea c hm l ?_
  refine PySem.W.callWith_KW0 (first := [.ref a]) (h₀ := X.base) I.ok.mod.kin hm.kp hall ?_ hpl
  refine thn (hkw.run pos pins s1 σ H1 _ I1 q) fun ws s2 ⟨zs, H2, I2, rz, l1, q2⟩ => ⟨I2.kIn, ?_⟩
  rw [hks]
  exact run_kb (us := [.ref a]) (vs := [.ref a]) F hr hb hx I2 (.cons rfl .nil) rz rfl (rz.length.symm.trans l1) q2
end
section
variable {X : Cx} {K : PySem.W.Frag}
theorem call_tuple_ofK (h : X.K = K) : CallR X (.type "tuple") (fun xs H Q => ∃ p ys, xs = [.ref p] ∧ ((SqL K H p ys ∧ ∀ l, H l = none → Q (.ref l) (upd H l (.tup ys))) ∨ (SqT K H p ys ∧ Q (.ref p) H))) := h ▸ call_tuple_of
theorem call_list_ofK (h : X.K = K) : CallR X (.type "list") (fun xs H Q => ∃ p ys, xs = [.ref p] ∧ (SqL K H p ys ∨ SqT K H p ys) ∧ ∀ l, H l = none → Q (.ref l) (upd H l (.lst ys))) := h ▸ call_list_of
end
/-- what is no instance of the class, nor of one below it -/
inductive Odd (K : PySem.W.Frag) (C : Addr) (H : Hp) : V → Prop where
  | non (h : PySem.W.notFirst K C (.type "NoneType") = true) : Odd K C H .non
  | str (z : Str) (h : PySem.W.notFirst K C (.type "str") = true) : Odd K C H (.str z)
  | tup {a : Addr} {xs : List V} (e : H a = some (.tup xs)) (h : PySem.W.notFirst K C (.type "tuple") = true) : Odd K C H (.ref a)
section
variable {X : Cx} {K : PySem.W.Frag} {CX : CXT} {C g : Addr} {n : Nat} {fd : FuncData} {ps : List Str} {sp : Sp} {E : XK} {pins : List (Addr × Obj)} {σ : L2.St} {H : Hp} {s : Shared}
/-- o == y: y of one's own class, or of another kind -/
def rOwnA (K : PySem.W.Frag) (C : Addr) (sp : Sp) (E : XK) : R2 := fun x y H Q => IsIn H x C ∧ (IsIn H y C ∨ Odd K C H y) ∧ sp [x, y] H Q E
theorem odd_looks {x : V} {u : Value} (I : Inv X pins σ H s) (rx : RelV x u) (o : Odd X.K C H x) : ∃ tb, PySem.W.Looks (model X.prog X.w) s.heap (typeOf u) tb ∧ PySem.W.notFirst X.K C tb = true := by
  cases o with
  | non h => cases (show u = Value.none from rx); exact ⟨_, .now, h⟩
  | str z h => obtain ⟨t, q⟩ := (show ∃ t, u = Value.str z t from rx); cases q; exact ⟨_, .now, h⟩
  | @tup a xs ea h =>
    cases (show u = Value.ref a from rx)
    obtain ⟨_, _, _, o, h1, h2, _⟩ := (show ObjOk X.prog X.w H s.heap a (.tup xs) from I.hok a _ ea)
    exact ⟨_, h2 ▸ (PySem.W.Looks.ld h1).andThen .now, h⟩
theorem op_ownEqA {op : CmpOp} (hK : X.K = K) (hop : ∀ a b, compareOp op a b = richCompare op a b) (c : Own X.K C (cmpInfo op).2.1 g) (F : FnOk X.prog X.w X.K X.mg X.base CX n g fd ps sp) (hr : Room n X.A) (hb : Binds X.K fd ps []) (hx : Passes CX X E) :
    OpR X (compareOp op) (rOwnA K C sp E) := by
  subst hK
  intro pins s σ H x y v u Q I rx ry h
  obtain ⟨⟨a, dx, fs, rfl, ha⟩, hy, q⟩ := h
  cases rx
  obtain ⟨ox, od, J⟩ := own_at I ha
  obtain ⟨m, hF⟩ := I.fr
  rw [hop]
  have key : ∃ tb, PySem.W.Looks (model X.prog X.w) s.heap (typeOf u) tb ∧ PySem.W.notFirst X.K C tb = true := by
    rcases hy with ⟨b, dy, gs, rfl, hb'⟩ | o
    · cases ry
      obtain ⟨ox', od', J'⟩ := own_at I hb'
      exact ⟨_, J'.type, by simp [PySem.W.notFirst]⟩
    · exact odd_looks I ry o
  obtain ⟨tb, L, nf⟩ := key
  refine PySem.W.cmp_K (op := op) (tb := tb) hr.units0 hF I.ok.mod.kin J L nf c.at_ c.fn (wpAny_mono (run_own F hr I.env0 hb hx I (vs := [.ref a, y]) (.cons rfl (.cons ry .nil)) q) (fun w s' z => ?_) fun _ _ x => x)
  obtain ⟨z', H', I', rz, qz⟩ := z
  exact SlX.cmpback rz ⟨z', H', I', rz, qz⟩
end
end TK

namespace TK
open PySem PySem.Spec PyProof.Rows L2
def SqS (K : PySem.W.Frag) (H : Hp) (a : Addr) (xs : List V) : Prop := SqL K H a xs ∨ SqT K H a xs
theorem SqS.same {K : PySem.W.Frag} {H H' : Hp} {a : Addr} {xs : List V} (h : SqS K H a xs) (s : Same H H') : SqS K H' a xs := by
  rcases h with h | h
  · exact .inl (s.seq h)
  · exact .inr (same_tup s h)
def spRange : Sp := fun vs H Q _ => ∃ a lo hi : Int, vs = [.int a, .int lo, .int hi] ∧ lo ≤ a ∧ a ≤ hi ∧ Q .non H
theorem cut_names (ws : List (List Nat)) (i : Nat) : cutV (ws.map vN) none (some ((i : Nat) : Int)) = (ws.take i).map vN := by
  unfold cutV
  rw [HT.sIx_none, HT.sIx_nat, List.drop_zero, Nat.sub_zero, List.map_take]
  by_cases h : i ≤ (ws.map vN).length
  · rw [Nat.min_eq_left h]
  · rw [Nat.min_eq_right (by omega), List.take_length, List.take_of_length_le (by omega)]
theorem not_before {zs : List (List Nat)} {i : Nat} {z : List Nat} (nd : zs.Nodup) (h : zs[i]? = some z) : z ∉ zs.take i := by
  intro m
  obtain ⟨j, hj⟩ := List.getElem?_of_mem m
  rw [List.getElem?_take] at hj
  split at hj
  · rename_i hji
    have hl := (List.getElem?_eq_some_iff.mp hj).1
    have := (List.getElem?_inj hl nd).mp (hj.trans h.symm)
    omega
  · cases hj
def capV : Option Int → V
  | none => .non
  | some x => .int x
section
variable {P : Program} {w : World} {K : PySem.W.Frag} {mg : Str → Option Value} {base : Heap}
theorem ok_check_size {f : Addr} {fd : FuncData} (F : Fun K "check_size" "check_size" s_check_size f fd) : FnOk P w K mg base CX0 1 f fd ["size", "low", "high"] spRange := by
  refine F.ok sc_check_size (fun vs H Q E h => ?_) (fun cdv A outer s H vs Q E hr h => ?_)
  · obtain ⟨a, lo, hi, rfl, _⟩ := h
    rfl
  · obtain ⟨a, lo, hi, rfl, h1, h2, q⟩ := h
    refine ⟨_, (pss_one (ps_if (pt_not (pt_chain op_le op_le (pv 1) (pv 0) (pv 2))) (pss_one ps_never) pss_nil)), ?_⟩
    refine ⟨_, rfl, _, rfl, _, _, rfl, rfl, _, rfl, ?_⟩
    rw [decide_eq_true h1]
    refine iteT ⟨_, rfl, _, _, rfl, rfl, _, rfl, ?_⟩
    rw [decide_eq_true h2]
    exact iteF q
/-! is_name, of a name or of the empty text -/
def nz (l : List Nat) : Bool := !l.isEmpty
theorem nz_nm {l : List Nat} (h : Nm l) : nz l = true := by
  obtain ⟨h1, _⟩ := h
  cases l with
  | nil => exact absurd h1 (by decide)
  | cons a l => rfl
def NmH (l : List Nat) : Prop := Nm l ∨ l = []
def spIsNameH : Sp := fun vs H Q _ => ∃ l : List Nat, vs = [vN l] ∧ NmH l ∧ ∀ H', Same H H' → Q (.bl (nz l)) H'
theorem all_true {n : Nat} : (List.replicate n true).all id = true := by
  induction n with
  | zero => rfl
  | succ n ih => rw [List.replicate_succ, List.all_cons, ih]; rfl
theorem ok_is_nameH {f : Addr} {fd : FuncData} (F : Fun K "is_name" "is_name" s_is_name f fd) (m_len : mg "len" = none) (m_all : mg "all" = none) {tk : Tok} (g_LETTERS : mg "LETTERS" = some (.str lettersZ tk)) : FnOk P w K mg base CX0 1 f fd ["word"] spIsNameH := by
  refine F.ok sc_is_name (fun vs H Q E h => ?_) (fun cdv A outer s H vs Q E hr h => ?_)
  · obtain ⟨l, rfl, _⟩ := h
    rfl
  · obtain ⟨l, rfl, hn, q⟩ := h
    refine ⟨_, (pss_one (ps_ret (pe_and (pe_chain op_le op_le pe_int (pe_callB call_len_str (by rfl) m_len (by decide +kernel) (pa_cons (pv 0) pa_nil)) pe_int) (pe_one (pe_callB (cr_all rfl) (by rfl) m_all (by decide +kernel) (pa_cons (pe_lc (own := [("sign", 1)]) (by rfl) sc_is_name.nd (pi_str (pv 0)) (blkOk_by (N := ["word", "sign"]) (sc := defScope s_is_name) (by decide +kernel)) (fun _ _ _ _ _ => (pg_name (i := 1) sc_is_name.nd rfl (.inl rfl))) (fun _ _ _ _ _ => pts_nil) (fun _ _ _ _ _ => (pe_cmpR op_in_sign (pv 1) (pe_glob (v := .str lettersZ) (by rfl) g_LETTERS ⟨_, rfl⟩) (by rfl)))) pa_nil)))))), ?_⟩
    rcases hn with hN | rfl
    · rw [nz_nm hN] at q
      obtain ⟨h1, h2, h3⟩ := hN
      refine ⟨_, rfl, _, rfl, small_len (by omega), _, _, rfl, rfl, _, rfl, ?_⟩
      rw [decide_eq_true (show (1 : Int) ≤ ((sOf l).length : Nat) by rw [sOf_len]; omega)]
      refine iteT ⟨_, _, rfl, rfl, _, rfl, ?_⟩
      rw [decide_eq_true (show (((sOf l).length : Nat) : Int) ≤ 8 by rw [sOf_len]; omega)]
      refine iteT ⟨_, rfl, _, rfl, fun D nD => ?_⟩
      refine lc_it walk_str (fun i H' => H' = upd H D (.lst ((List.replicate i true).map V.bl))) rfl (fun _ _ _ _ => True.intro) (fun i x H1 H2 hi hp hy => ?_) (fun H' hp => ?_)
      · subst hp
        obtain ⟨rfl, c, hc, rfl⟩ := hy
        have hcl : c ∈ l := by
          have : (sOf l).cps.toList[i]? = some c := by rw [Array.getElem?_toList]; exact hc
          exact List.mem_of_getElem? this
        have hin : c ∈ lettersZ.cps.toList := by
          rw [letters_codes]
          have := h3 c hcl
          exact List.mem_map.mpr ⟨c - 97, List.mem_range.mpr (by omega), by omega⟩
        have hil : i < l.length := by
          have : (sOf l).cps.size = l.length := sOf_len l
          omega
        refine ⟨rfl, yesT ⟨_, rfl, _, _, rfl, rfl, _, upd_same, ?_, ?_⟩⟩
        · rw [List.length_map, List.length_replicate]; exact small1000 (by omega)
        · rw [upd_twice, decide_eq_true hin, List.replicate_succ', List.map_append]
          rfl
      · subst hp
        refine ⟨_, _, rfl, lstAt upd_same, ?_⟩
        rw [all_true]
        exact q _ (same_upd nD)
    · refine ⟨_, rfl, _, rfl, small_len (by decide), _, _, rfl, rfl, _, rfl, iteF ⟨_, rfl, iteF (q H (Same.refl H))⟩⟩
/-! check_names, with the hook -/
end
structure DefD (P : Program) (w : World) (K : PySem.W.Frag) (mg : Str → Option Value) (base : Heap) (x : Str) (k : Nat) (ps : List Str) (sp : Sp) (dvs : List V) : Prop where
  ex : ∃ (f : Addr) (fd : FuncData) (ds : List Value), FnOk P w K mg base CX0 k f fd ps sp ∧ mg x = some (.ref f) ∧ PySem.W.keepIn K (.ref f) = true ∧ Binds K fd ps ds ∧ Vals dvs ds
section
variable {X : Cx} {x : Str} {k : Nat} {ps : List Str} {sp : Sp} {dvs : List V} {e : Expr} {es : List Expr} {t : TA} {p pos : Pos}
theorem pe_callDD (D : DefD X.prog X.w X.K X.mg X.base x k ps sp dvs) (hr : Room k X.A) (hg : Gl X x) (ha : PA X (e :: es) t) (hdb : (x == ("__debug__" : Str)) = false := by decide)
    (he : starEach (e :: es) X.env = (false, eval e X.env) :: starEach es X.env := by rfl) (hpl : (backTo pos (starEach es X.env)).any (·.1) = false := by rfl) :
    PE X (.Call (.Name x p) (e :: es) [] pos) (tCall sp dvs E0 t) := by
  obtain ⟨f, fd, ds, F, g, kp, b, r⟩ := D.ex
  exact pe_call F hr hg g kp b r pass0 ha hdb he hpl
end
def spCheckN (K : PySem.W.Frag) : Sp := fun vs H Q _ => ∃ (a : Addr) (m : Int) (zs : List (List Nat)), vs = [.ref a, .int m, .bl false] ∧ SqS K H a (zs.map vN) ∧ 1 ≤ zs.length ∧ (zs.length : Int) ≤ m ∧ zs.length ≤ 6 ∧ (∀ z ∈ zs, Nm z) ∧ zs.Nodup ∧ ∀ H', Same H H' → Q .non H'
section
variable {P : Program} {w : World} {K : PySem.W.Frag} {mg : Str → Option Value} {base : Heap}
theorem empty_nm : vN [] = V.str (Str.ofString "") := rfl
theorem ok_check_range {f : Addr} {fd : FuncData} (F : Fun K "check_range" "check_range" s_check_range f fd) : FnOk P w K mg base CX0 1 f fd ["number", "low", "high"] spRange := by
  refine F.ok sc_check_range (fun vs H Q E h => ?_) (fun cdv A outer s H vs Q E hr h => ?_)
  · obtain ⟨a, lo, hi, rfl, _⟩ := h
    rfl
  · obtain ⟨a, lo, hi, rfl, h1, h2, q⟩ := h
    refine ⟨_, (pss_one (ps_if (pt_not (pt_chain op_le op_le (pv 1) (pv 0) (pv 2))) (pss_one ps_never) pss_nil)), ?_⟩
    refine ⟨_, rfl, _, rfl, _, _, rfl, rfl, _, rfl, ?_⟩
    rw [decide_eq_true h1]
    refine iteT ⟨_, rfl, _, _, rfl, rfl, _, rfl, ?_⟩
    rw [decide_eq_true h2]
    exact iteF q
theorem ok_check_namesN {f : Addr} {fd : FuncData} {dvs : List V} {kws : List (Str × V)} (F : FunD K "check_names" "check_names" (defArgs s_check_names) (defBody s_check_names) (defScope s_check_names) dvs kws f fd) (m_len : mg "len" = none) (m_enumerate : mg "enumerate" = none)
    (d_check_size : Def P w K mg base "check_size" 1 ["size", "low", "high"] spRange) (d_is_name : Def P w K mg base "is_name" 1 ["word"] spIsNameH) : FnOk P w K mg base CX0 2 f fd ["names", "most", "hook"] (spCheckN K) := by
  refine F.ok (CX := CX0) sc_check_names (fun vs H Q E h => ?_) (fun cdv A outer s H vs Q E hr h => ?_)
  · obtain ⟨a, m, zs, rfl, _⟩ := h
    rfl
  · obtain ⟨a, m, zs, rfl, hS, l1, l2, l6, nm, nd, q⟩ := h
    have hp : ∀ (i : Nat) (x : V) (H2 : Hp), Same H H2 → (zs.map vN)[i]? = some x → ∃ z, zs[i]? = some z ∧ x = vN z ∧ Nm z := fun i x H2 _ hx => by
      obtain ⟨z, ez, rfl⟩ := vN_at hx
      exact ⟨z, ez, rfl, nm z (List.mem_of_getElem? ez)⟩
    rcases hS with hS | hS
    · refine ⟨_, PSs.nox (pss_cons (ps_expr (pe_callD d_check_size (hr.mono (by decide)) (by rfl) (pa_cons (pe_callB call_len_seq (by rfl) m_len (by decide +kernel) (pa_cons (pv 0) pa_nil)) (pa_cons pe_int (pa_cons (pv 1) pa_nil)))))
  (pss_one (ps_for PassesOwn.never rfl (pi_enum (by rfl) m_enumerate (pa_cons (pv 0) pa_nil)) (pg_tup (by rfl) (pgs_cons (pg_name (i := 3) sc_check_names.nd rfl (.inl rfl)) (pgs_cons (pg_name (i := 4) sc_check_names.nd rfl (.inl rfl)) pgs_nil)))
    (pss_cons (ps_if (PW.pt (pw_and (pt_not (pt_val (pe_callD d_is_name (hr.mono (by decide)) (by rfl) (pa_cons (pv 4) pa_nil)))) (pw_and1 (pt_not (PW.pt (pw_and (pt_val (pv 2)) (pw_and1 (pt_cmpR op_eq (pv 4) pe_str (nomark _))))))))) (pss_one ps_never) pss_nil)
  (pss_one (ps_if (pt_cmpR op_in_seq (pv 4) (pe_slice sl_list (pv 0) po_none (po_some (pv 3))) (by rfl)) (pss_one ps_never) pss_nil)))))), ?_⟩
      refine ⟨_, rfl, _, _, rfl, .inl hS, _, rfl, _, _, _, rfl, by rw [List.length_map]; omega, by rw [List.length_map]; omega, ?_⟩
      refine ⟨_, rfl, _, _, rfl, hS, for_it walk_enum (fun i σ H2 => Same H H2 ∧ ∃ y1 y2 : Option V, σ = [some (.ref a), some (.int m), some (.bl false), y1, y2]) ⟨Same.refl H, _, _, rfl⟩ (fun i σ H2 _ hp => hp.1.seq hS) ?_ ?_⟩
      · rintro i x σ H2 H3 hi ⟨sm, y1, y2, rfl⟩ ⟨T, v1, v2, rfl, nT, rfl, e1, e2⟩
        cases e1
        obtain ⟨z, ez, rfl, hz⟩ := hp i _ H2 sm e2
        have sm3 := sm.trans (same_upd (o := .tup [.int (i : Nat), vN z]) nT)
        refine ⟨_, _, rfl, tupAt upd_same, rfl, _, _, rfl, _, _, rfl, rfl, ?_⟩
        refine ⟨_, rfl, z, rfl, .inl hz, fun H4 s4 => ⟨_, rfl, ?_⟩⟩
        have sm4 := sm3.trans s4
        rw [nz_nm hz]
        refine iteF (iteF ?_)
        refine ⟨_, rfl, _, rfl, _, rfl, _, rfl, _, _, rfl, sm4.seq hS, fun p np => ?_⟩
        rw [cut_names]
        have sp := same_upd (o := .lst ((zs.take i).map vN)) np
        refine ⟨p, _, rfl, .inl (lstAt upd_same), rfl, nms_flat _, _, rfl, ?_⟩
        rw [in_nm, decide_eq_false (not_before nd ez)]
        exact iteF ⟨sm4.trans sp, _, _, rfl⟩
      · rintro σ H2 ⟨sm, y1, y2, rfl⟩
        exact q _ sm
    · refine ⟨_, PSs.nox (pss_cons (ps_expr (pe_callD d_check_size (hr.mono (by decide)) (by rfl) (pa_cons (pe_callB call_len_seq (by rfl) m_len (by decide +kernel) (pa_cons (pv 0) pa_nil)) (pa_cons pe_int (pa_cons (pv 1) pa_nil)))))
  (pss_one (ps_for PassesOwn.never rfl (pi_enumT (by rfl) m_enumerate (pa_cons (pv 0) pa_nil)) (pg_tup (by rfl) (pgs_cons (pg_name (i := 3) sc_check_names.nd rfl (.inl rfl)) (pgs_cons (pg_name (i := 4) sc_check_names.nd rfl (.inl rfl)) pgs_nil)))
    (pss_cons (ps_if (PW.pt (pw_and (pt_not (pt_val (pe_callD d_is_name (hr.mono (by decide)) (by rfl) (pa_cons (pv 4) pa_nil)))) (pw_and1 (pt_not (PW.pt (pw_and (pt_val (pv 2)) (pw_and1 (pt_cmpR op_eq (pv 4) pe_str (nomark _))))))))) (pss_one ps_never) pss_nil)
  (pss_one (ps_if (pt_cmpR op_in_seq (pv 4) (pe_slice sl_tup (pv 0) po_none (po_some (pv 3))) (by rfl)) (pss_one ps_never) pss_nil)))))), ?_⟩
      refine ⟨_, rfl, _, _, rfl, .inr hS, _, rfl, _, _, _, rfl, by rw [List.length_map]; omega, by rw [List.length_map]; omega, ?_⟩
      refine ⟨_, rfl, _, _, rfl, hS, for_it walk_enumT (fun i σ H2 => Same H H2 ∧ ∃ y1 y2 : Option V, σ = [some (.ref a), some (.int m), some (.bl false), y1, y2]) ⟨Same.refl H, _, _, rfl⟩ (fun i σ H2 _ hp => same_tup (hp.1) hS) ?_ ?_⟩
      · rintro i x σ H2 H3 hi ⟨sm, y1, y2, rfl⟩ ⟨T, v1, v2, rfl, nT, rfl, e1, e2⟩
        cases e1
        obtain ⟨z, ez, rfl, hz⟩ := hp i _ H2 sm e2
        have sm3 := sm.trans (same_upd (o := .tup [.int (i : Nat), vN z]) nT)
        refine ⟨_, _, rfl, tupAt upd_same, rfl, _, _, rfl, _, _, rfl, rfl, ?_⟩
        refine ⟨_, rfl, z, rfl, .inl hz, fun H4 s4 => ⟨_, rfl, ?_⟩⟩
        have sm4 := sm3.trans s4
        rw [nz_nm hz]
        refine iteF (iteF ?_)
        refine ⟨_, rfl, _, rfl, _, rfl, _, rfl, _, _, rfl, same_tup (sm4) hS, (by rintro ⟨_, hw⟩; rw [HT.sIx_nat] at hw; have hi' : i < (zs.map vN).length := hi; omega), fun p np => ?_⟩
        rw [cut_names]
        have sp := same_upd (o := .tup ((zs.take i).map vN)) np
        refine ⟨p, _, rfl, .inr (tupAt upd_same), rfl, nms_flat _, _, rfl, ?_⟩
        rw [in_nm, decide_eq_false (not_before nd ez)]
        exact iteF ⟨sm4.trans sp, _, _, rfl⟩
      · rintro σ H2 ⟨sm, y1, y2, rfl⟩
        exact q _ sm
/-! check_picks -/
def spPicks (K : PySem.W.Frag) : Sp := fun vs H Q _ => ∃ (a b : Addr) (xs ys : List (List Nat)), vs = [.ref a, .ref b] ∧ SqT K H a (xs.map vN) ∧ SqS K H b (ys.map vN) ∧ xs.Nodup ∧ (∀ x ∈ xs, x ∈ ys) ∧ ∀ H', Same H H' → Q .non H'
theorem ok_check_picks {f : Addr} {fd : FuncData} (F : Fun K "check_picks" "check_picks" s_check_picks f fd) (m_enumerate : mg "enumerate" = none) : FnOk P w K mg base CX0 1 f fd ["picks", "known"] (spPicks K) := by
  refine F.ok sc_check_picks (fun vs H Q E h => ?_) (fun cdv A outer s H vs Q E hr h => ?_)
  · obtain ⟨a, b, xs, ys, rfl, _⟩ := h
    rfl
  · obtain ⟨a, b, xs, ys, rfl, hT, hL, nd, sub, q⟩ := h
    refine ⟨_, (pss_one (ps_for PassesOwn.never rfl (pi_enumT (by rfl) m_enumerate (pa_cons (pv 0) pa_nil)) (pg_tup (by rfl) (pgs_cons (pg_name (i := 2) sc_check_picks.nd rfl (.inl rfl)) (pgs_cons (pg_name (i := 3) sc_check_picks.nd rfl (.inl rfl)) pgs_nil)))
    (pss_cons (ps_if (pt_cmpR op_notIn_seq (pv 3) (pv 1) (by rfl)) (pss_one ps_never) pss_nil)
  (pss_one (ps_if (pt_cmpR op_in_seq (pv 3) (pe_slice sl_tup (pv 0) po_none (po_some (pv 2))) (by rfl)) (pss_one ps_never) pss_nil))))), ?_⟩
    refine ⟨_, rfl, _, _, rfl, hT, for_it walk_enumT (fun _ σ H2 => Same H H2 ∧ ∃ y1 y2 : Option V, σ = [some (.ref a), some (.ref b), y1, y2]) ⟨Same.refl H, _, _, rfl⟩ (fun i σ H2 _ hp => same_tup hp.1 hT) ?_ ?_⟩
    · rintro i x σ H2 H3 hi ⟨sm, y1, y2, rfl⟩ ⟨T, z1, z2, rfl, nT, rfl, e1, e2⟩
      cases e1
      obtain ⟨z, ez, rfl⟩ := vN_at e2
      have sm3 := sm.trans (same_upd (o := .tup [.int (i : Nat), vN z]) nT)
      refine ⟨_, _, rfl, tupAt upd_same, rfl, _, _, rfl, _, _, rfl, rfl, ?_⟩
      refine ⟨_, rfl, _, rfl, _, _, rfl, hL.same sm3, rfl, nms_flat _, _, rfl, ?_⟩
      rw [notin_nm, decide_eq_true (sub _ (List.mem_of_getElem? ez))]
      refine iteF ?_
      refine ⟨_, rfl, _, rfl, _, rfl, _, rfl, _, _, rfl, same_tup sm3 hT, (by rintro ⟨_, hw⟩; rw [HT.sIx_nat] at hw; have hi' : i < (xs.map vN).length := hi; omega), fun p np => ?_⟩
      rw [cut_names]
      have sp := same_upd (o := .tup ((xs.take i).map vN)) np
      refine ⟨p, _, rfl, .inr (tupAt upd_same), rfl, nms_flat _, _, rfl, ?_⟩
      rw [in_nm, decide_eq_false (not_before nd ez)]
      exact iteF ⟨sm3.trans sp, _, _, rfl⟩
    · rintro σ H2 ⟨sm, y1, y2, rfl⟩
      exact q _ sm
end
end TK

/-! rolls: the ballots' places, and how many there are of each -/
namespace TK
open PySem PySem.Spec PyProof.Rows L2
abbrev Nam := List Nat
abbrev BRow := List Nam × Int
abbrev PRow := List Int × Int
theorem none_of {H H' : Hp} {p : Addr} (s : Same H H') (n : H' p = none) : H p = none := by
  cases e : H p with
  | none => rfl
  | some o => rw [s _ _ e] at n; cases n
theorem TL.same {H H' : Hp} {a : Addr} {xs : List V} (h : TL H a xs) (s : Same H H') : TL H' a xs := h.elim (fun h => .inl (s _ _ h)) (fun ⟨o, h⟩ => .inr ⟨o, s _ _ h⟩)
/-- a pair of a ballot and a number -/
def PairAt (H : Hp) (e : Addr) (p : BRow) : Prop := ∃ t, H e = some (.tup [.ref t, .int p.2]) ∧ H t = some (.tup (p.1.map vN))
def PairsAt (H : Hp) (es : List Addr) (ps : List BRow) : Prop := es.length = ps.length ∧ ∀ (i : Nat) (e : Addr), es[i]? = some e → ∃ p, ps[i]? = some p ∧ PairAt H e p
theorem PairAt.same {H H' : Hp} {e : Addr} {p : BRow} (h : PairAt H e p) (s : Same H H') : PairAt H' e p := by
  obtain ⟨t, a, b⟩ := h
  exact ⟨t, s _ _ a, s _ _ b⟩
theorem PairsAt.same {H H' : Hp} {es : List Addr} {ps : List BRow} (h : PairsAt H es ps) (s : Same H H') : PairsAt H' es ps := ⟨h.1, fun i e he => by
  obtain ⟨p, a, b⟩ := h.2 i e he
  exact ⟨p, a, b.same s⟩⟩
theorem pairs_at {H : Hp} {es : List Addr} {ps : List BRow} (h : PairsAt H es ps) {i : Nat} {x : V} (hx : (es.map V.ref)[i]? = some x) : ∃ e p, x = .ref e ∧ es[i]? = some e ∧ ps[i]? = some p ∧ PairAt H e p := by
  rw [List.getElem?_map] at hx
  cases e : es[i]? with
  | none => rw [e] at hx; cases hx
  | some a =>
    rw [e] at hx
    obtain ⟨t, h1, h2⟩ := h.2 i a e
    exact ⟨a, t, (Option.some.inj hx).symm, rfl, h1, h2⟩
theorem PairsAt.snoc {H H' : Hp} {es : List Addr} {ps : List BRow} {e : Addr} {p : BRow} (h : PairsAt H es ps) (s : Same H H') (k : PairAt H' e p) : PairsAt H' (es ++ [e]) (ps ++ [p]) := by
  refine ⟨by rw [List.length_append, List.length_append, h.1]; rfl, fun i x hx => ?_⟩
  by_cases hi : i < es.length
  · rw [List.getElem?_append_left hi] at hx
    obtain ⟨t', h1, h2⟩ := h.2 i x hx
    exact ⟨t', by rw [List.getElem?_append_left (by rw [← h.1]; exact hi)]; exact h1, h2.same s⟩
  · rw [List.getElem?_append_right (by omega)] at hx
    have hi2 : i - es.length = 0 := by
      have := (List.getElem?_eq_some_iff.mp hx).1
      simp at this
      omega
    rw [hi2] at hx
    cases Option.some.inj hx
    exact ⟨p, by rw [List.getElem?_append_right (by rw [← h.1]; omega), ← h.1, hi2]; rfl, k⟩
/-- the places of a ballot's names -/
def plOf (zs : List Nam) (b : List Nam) : List Int := b.map fun x => ((zs.idxOf x : Nat) : Int)
def keyI (k : List Int) : List Key := k.map Sum.inl
theorem keyI_inj : ∀ {k j : List Int}, keyI k = keyI j → k = j
  | [], [], _ => rfl
  | [], _ :: _, h => by cases h
  | _ :: _, [], h => by cases h
  | a :: k, b :: j, h => by
    injection h with h1 h2
    rw [Sum.inl.inj h1, keyI_inj h2]
theorem keyI_V (k : List Int) : (keyI k).map kV = k.map V.int := by
  unfold keyI
  rw [List.map_map]
  rfl
/-- how many there are of a ballot, if it is there -/
def tally (ts : List PRow) (k : List Int) : Option Int := ts.foldl (fun o t => if t.1 = k then some (o.getD 0 + t.2) else o) none
theorem tally_snoc {ts : List PRow} {i : Nat} {t : PRow} (h : ts[i]? = some t) (k : List Int) : tally (ts.take (i + 1)) k = if t.1 = k then some ((tally (ts.take i) k).getD 0 + t.2) else tally (ts.take i) k := by
  unfold tally
  rw [List.take_add_one, h, List.foldl_append]
  rfl
structure KvI (kvs : List (List Key × V)) (ts : List PRow) : Prop where
  at_ : ∀ k, valV kvs (keyI k) = (tally ts k).map V.int
  ks : ∀ p ∈ kvs, ∃ k v, p = (keyI k, V.int v)
  nd : (kvs.map (·.1)).Nodup
theorem KvI.nil : KvI [] [] := ⟨fun _ => rfl, (fun _ h => nomatch h), List.nodup_nil⟩
theorem nd_putI {kvs : List (List Key × V)} {k : List Key} {v : V} (h : (kvs.map (·.1)).Nodup) : ((putK kvs k v).map (·.1)).Nodup := by
  unfold putK
  split
  · rw [List.map_map]
    have e : ((fun p : List Key × V => p.1) ∘ fun kv : List Key × V => if kv.1 = k then (kv.1, v) else kv) = fun p => p.1 := by
      funext p
      show (if p.1 = k then (p.1, v) else p).1 = p.1
      split <;> rfl
    rw [e]
    exact h
  · rename_i hn
    rw [List.map_append]
    refine List.nodup_append.mpr ⟨h, by simp, fun a ha b hb => ?_⟩
    obtain ⟨p, hp, rfl⟩ := List.mem_map.mp ha
    have hb : b = k := by simpa using hb
    subst hb
    exact fun e => hn (List.any_eq_true.mpr ⟨p, hp, decide_eq_true e⟩)
theorem KvI.put {kvs : List (List Key × V)} {ts : List PRow} {i : Nat} {t : PRow} (h : KvI kvs (ts.take i)) (e : ts[i]? = some t) : KvI (putK kvs (keyI t.1) (.int ((tally (ts.take i) t.1).getD 0 + t.2))) (ts.take (i + 1)) := by
  refine ⟨fun k => ?_, ?_, nd_putI h.nd⟩
  · rw [valV_put, tally_snoc e]
    by_cases q : keyI k = keyI t.1
    · have q := keyI_inj q
      subst q
      rw [if_pos rfl, if_pos rfl]
      rfl
    · rw [if_neg q, if_neg (fun z => q (by rw [z]))]
      exact h.at_ k
  · intro p hp
    unfold putK at hp
    split at hp
    · obtain ⟨q, hq, rfl⟩ := List.mem_map.mp hp
      obtain ⟨k', v', rfl⟩ := h.ks q hq
      dsimp only
      split
      · exact ⟨k', _, rfl⟩
      · exact ⟨k', v', rfl⟩
    · rcases List.mem_append.mp hp with m | m
      · exact h.ks p m
      · rw [List.mem_singleton.mp m]; exact ⟨_, _, rfl⟩
theorem kvI_len {kvs : List (List Key × V)} {i : Nat} (h : kvs.length ≤ i) (k : List Key) (v : V) : (putK kvs k v).length ≤ i + 1 := Nat.le_trans (length_putK _ _ _) (Nat.succ_le_succ h)
/-- the rows told: sorted by their places, each with its number, none below one -/
structure IsRows (R : List PRow) (ts : List PRow) : Prop where
  srt : R.Pairwise fun a b => HT.lexLt a.1 b.1 = true
  mem : ∀ k c, (k, c) ∈ R ↔ tally ts k = some c ∧ 0 < c
section
variable {P : Program} {w : World} {K : PySem.W.Frag} {mg : Str → Option Value} {base : Heap}
/-! _ballot -/
def spBallot (K : PySem.W.Frag) : Sp := fun vs H Q _ => ∃ (a b : Addr) (zs bs : List Nam), vs = [.ref a, .ref b] ∧ SqT K H a (zs.map vN) ∧ H b = some (.tup ((plOf zs bs).map V.int)) ∧ bs.length ≤ 10 ∧ (∀ x ∈ bs, x ∈ zs) ∧
  ∀ H' t, H t = none → Same H H' → H' t = some (.tup (bs.map vN)) → Q (.ref t) H'
theorem pl_at {zs bs : List Nam} {i : Nat} {x : V} (h : ((plOf zs bs).map V.int)[i]? = some x) : ∃ b, bs[i]? = some b ∧ x = .int ((zs.idxOf b : Nat) : Int) := by
  unfold plOf at h
  rw [List.map_map, List.getElem?_map] at h
  obtain ⟨b, h1, h2⟩ := Option.map_eq_some_iff.mp h
  exact ⟨b, h1, h2.symm⟩
theorem ix_name {zs : List Nam} {b : Nam} (h : b ∈ zs) : atI (zs.map vN) ((zs.idxOf b : Nat) : Int) = some (vN b) := by
  have hl := List.idxOf_lt_length_iff.mpr h
  refine atI_in (by omega) ?_
  rw [Int.toNat_natCast, List.getElem?_map, List.getElem?_eq_getElem hl, List.getElem_idxOf hl]
  rfl
theorem ok_ballot {f : Addr} {fd : FuncData} (F : Fun K "_ballot" "_ballot" s_ballot f fd) (m_tuple : mg "tuple" = none) : FnOk P w K mg base CX0 1 f fd ["options", "places"] (spBallot K) := by
  refine F.ok sc_ballot (fun vs H Q E h => ?_) (fun cdv A outer s H vs Q E hr h => ?_)
  · obtain ⟨a, b, zs, bs, rfl, _⟩ := h
    rfl
  · obtain ⟨a, b, zs, bs, rfl, hA, hB, bl, sub, q⟩ := h
    have pl : ((plOf zs bs).map V.int).length = bs.length := by rw [List.length_map]; exact List.length_map ..
    refine ⟨_, (pss_one (ps_ret (pe_callTy call_tuple_of (by rfl) m_tuple (by decide +kernel) (pa_cons (pe_lc (own := [("place", 2)]) (by rfl) sc_ballot.nd (pi_tup (pv 1)) (blkOk_by (N := ["options", "places", "place"]) (sc := defScope s_ballot) (by decide +kernel)) (fun _ _ _ _ _ => (pg_name (i := 2) sc_ballot.nd rfl (.inl rfl))) (fun _ _ _ _ _ => pts_nil) (fun _ _ _ _ _ => (pe_ix (ix_tupK (K := K) rfl) (pv 0) (pv 2) (fun _ _ => rfl)))) pa_nil)))), ?_⟩
    refine ⟨_, rfl, b, rfl, ⟨_, tupAt hB⟩, fun D nD => ?_⟩
    refine lc_tup (K := K) (a := b) (xs := (plOf zs bs).map V.int) (fun i H' => H' = upd H D (.lst ((bs.take i).map vN))) rfl (fun i H' _ e => e ▸ same_tup (same_upd nD) (tupAt hB)) (fun i v H' hx hq => ?_) (fun H' hq => ?_)
    · subst hq
      obtain ⟨x, ex, rfl⟩ := pl_at hx
      have hi : i < bs.length := (List.getElem?_eq_some_iff.mp ex).1
      refine ⟨rfl, yesT ⟨_, rfl, _, rfl, _, _, _, _, rfl, rfl, same_tup (same_upd nD) hA, ix_name (sub x (List.mem_of_getElem? ex)), _, upd_same, by rw [List.length_map, List.length_take]; exact small1000 (by omega), ?_⟩⟩
      rw [upd_twice, List.take_add_one, ex, List.map_append]
      rfl
    · subst hq
      rw [pl, List.take_length]
      refine ⟨D, _, rfl, .inl ⟨lstAt upd_same, fun t nt => ?_⟩⟩
      exact q _ t (none_of (same_upd nD) nt) ((same_upd nD).trans (same_upd nt)) upd_same
end
end TK

/-! the sorted keys of a dict of places -/
namespace TK
open PySem PySem.Spec PyProof.Rows L2
theorem lex_tot : ∀ a b : List Int, HT.lexLt a b = false → HT.lexLt b a = false → a = b
  | [], [], _, _ => rfl
  | [], y :: ys, h, _ => by rw [HT.lexLt_nil_cons] at h; cases h
  | x :: xs, [], _, h => by rw [HT.lexLt_nil_cons] at h; cases h
  | x :: xs, y :: ys, h, k => by
    rw [HT.lexLt_cons] at h k
    by_cases e : x = y
    · rw [if_pos e] at h
      rw [if_pos e.symm] at k
      rw [e, lex_tot xs ys h k]
    · rw [if_neg e] at h
      rw [if_neg (Ne.symm e)] at k
      have h := of_decide_eq_false h
      have k := of_decide_eq_false k
      omega
theorem map_int_inj : ∀ {a b : List Int}, a.map V.int = b.map V.int → a = b
  | [], [], _ => rfl
  | [], _ :: _, h => by cases h
  | _ :: _, [], h => by cases h
  | x :: a, y :: b, h => by
    rw [List.map_cons, List.map_cons] at h
    injection h with h1 h2
    rw [V.int.inj h1, map_int_inj h2]
/-- the numbers of a tuple -/
noncomputable def kT (H : Hp) (x : V) : List Int := by
  classical
  exact if h : ∃ ns : List Int, ∃ t, x = .ref t ∧ H t = some (.tup (ns.map V.int)) then h.choose else []
theorem kT_at {H : Hp} {t : Addr} {ns : List Int} (h : H t = some (.tup (ns.map V.int))) : kT H (.ref t) = ns := by
  have e : ∃ ns : List Int, ∃ t', (V.ref t) = .ref t' ∧ H t' = some (.tup (ns.map V.int)) := ⟨ns, t, rfl, h⟩
  unfold kT
  rw [dif_pos e]
  obtain ⟨t', e1, e2⟩ := e.choose_spec
  cases e1
  rw [h] at e2
  injection e2 with e3
  injection e3 with e4
  exact (map_int_inj e4).symm
theorem tally_some : ∀ {ts : List PRow} {k : List Int} {o : Option Int} {c : Int}, ts.foldl (fun o t => if t.1 = k then some (o.getD 0 + t.2) else o) o = some c → o = some c ∨ ∃ t ∈ ts, t.1 = k
  | [], k, o, c, h => .inl h
  | t :: ts, k, o, c, h => by
    by_cases e : t.1 = k
    · exact .inr ⟨t, List.mem_cons_self, e⟩
    · have h' : ts.foldl (fun o t => if t.1 = k then some (o.getD 0 + t.2) else o) (if t.1 = k then some (o.getD 0 + t.2) else o) = some c := h
      rw [if_neg e] at h'
      rcases tally_some h' with h | ⟨t', m, e'⟩
      · exact .inl h
      · exact .inr ⟨t', List.mem_cons_of_mem _ m, e'⟩
/-- the keys, at a row of addresses -/
structure KeysAt (H : Hp) (bs : List Addr) (ks : List (List Int)) : Prop where
  len : bs.length = ks.length
  at_ : ∀ (i : Nat) (b : Addr), bs[i]? = some b → ∃ k, ks[i]? = some k ∧ H b = some (.tup (k.map V.int))
theorem KeysAt.same {H H' : Hp} {bs : List Addr} {ks : List (List Int)} (h : KeysAt H bs ks) (s : Same H H') : KeysAt H' bs ks := ⟨h.len, fun i b e => by
  obtain ⟨k, h1, h2⟩ := h.at_ i b e
  exact ⟨k, h1, s _ _ h2⟩⟩
theorem keys_of {H : Hp} : ∀ {kvs : List (List Key × V)} {bs : List Addr}, IsKeys H kvs bs → (∀ p ∈ kvs, ∃ k v, p = (keyI k, V.int v)) → ∃ ks : List (List Int), kvs.map (·.1) = ks.map keyI ∧ KeysAt H bs ks := by
  intro kvs bs h
  unfold IsKeys at h
  induction h with
  | nil => exact fun _ => ⟨[], rfl, rfl, fun _ _ h => nomatch h⟩
  | @cons p b l1 l2 h t ih =>
    intro hk
    obtain ⟨ks, e, ka⟩ := ih fun q m => hk q (List.mem_cons_of_mem _ m)
    obtain ⟨k, v, rfl⟩ := hk p List.mem_cons_self
    refine ⟨k :: ks, by rw [List.map_cons, List.map_cons, e], by rw [List.length_cons, List.length_cons, ka.len], fun i x hx => ?_⟩
    cases i with
    | zero => cases Option.some.inj hx; exact ⟨k, rfl, by rw [← keyI_V]; exact h⟩
    | succ i => exact ka.at_ i x hx
theorem keys_map {H : Hp} {bs : List Addr} {ks : List (List Int)} (h : KeysAt H bs ks) : bs.map (fun b => kT H (.ref b)) = ks := by
  refine List.ext_getElem? fun i => ?_
  rw [List.getElem?_map]
  cases e : bs[i]? with
  | none =>
    have := List.getElem?_eq_none_iff.mp e
    rw [List.getElem?_eq_none (by rw [← h.len]; exact this)]
    rfl
  | some b =>
    obtain ⟨k, h1, h2⟩ := h.at_ i b e
    rw [h1]
    exact congrArg some (kT_at h2)
/-- the sorted keys -/
theorem sorted_keys {H : Hp} {bs : List Addr} {ks : List (List Int)} {ys : List V} (h : KeysAt H bs ks) (nd : ks.Nodup) (h1 : SrtO.Srtd (ltL (kT H)) ys) (h2 : ys.Perm (bs.map V.ref)) :
    ∃ bs' ks', ys = bs'.map V.ref ∧ KeysAt H bs' ks' ∧ ks'.Perm ks ∧ ks'.Pairwise fun a b => HT.lexLt a b = true := by
  have key : ∀ x ∈ ys, ∃ b, x = .ref b ∧ b ∈ bs := fun x m => by
    obtain ⟨b, hb, rfl⟩ := List.mem_map.mp (h2.mem_iff.mp m)
    exact ⟨b, rfl, hb⟩
  obtain ⟨bs', eb⟩ : ∃ bs' : List Addr, ys = bs'.map V.ref := by
    clear h1 h2
    induction ys with
    | nil => exact ⟨[], rfl⟩
    | cons y ys ih =>
      obtain ⟨b, rfl, _⟩ := key y List.mem_cons_self
      obtain ⟨bs', e⟩ := ih fun x m => key x (List.mem_cons_of_mem _ m)
      exact ⟨b :: bs', by rw [e]; rfl⟩
  subst eb
  have pm : (bs'.map fun b => kT H (.ref b)).Perm ks := by
    have := h2.map (kT H)
    rw [List.map_map, List.map_map] at this
    rw [← keys_map h]
    exact this
  refine ⟨bs', bs'.map fun b => kT H (.ref b), rfl, ⟨by rw [List.length_map], fun i b e => ?_⟩, pm, ?_⟩
  · obtain ⟨b', e', mb⟩ := key (.ref b) (List.mem_map.mpr ⟨b, List.mem_of_getElem? e, rfl⟩)
    cases e'
    obtain ⟨j, hj⟩ := List.getElem?_of_mem mb
    obtain ⟨k, _, hk⟩ := h.at_ j b hj
    exact ⟨kT H (.ref b), by rw [List.getElem?_map, e]; rfl, by rw [kT_at hk]; exact hk⟩
  · have nd' : (bs'.map fun b => kT H (.ref b)).Nodup := pm.nodup_iff.mpr nd
    have p1 : (bs'.map fun b => kT H (.ref b)).Pairwise fun a b => HT.lexLt b a = false := by
      rw [List.pairwise_map]
      exact List.pairwise_map.mp h1
    refine List.Pairwise.imp (fun {a b} h => ?_) (List.Pairwise.and p1 (List.nodup_iff_pairwise_ne.mp nd'))
    cases e : HT.lexLt a b with
    | true => rfl
    | false => exact absurd (lex_tot a b e h.1) h.2
end TK

namespace TK
open PySem PySem.Spec PyProof.Rows L2
section
variable {P : Program} {w : World} {K : PySem.W.Frag} {mg : Str → Option Value} {base : Heap}
def cellR (ts : List PRow) (k : List Int) : Option PRow := (tally ts k).bind fun c => if 0 < c then some (k, c) else none
theorem fm_snoc {α β : Type} {f : α → Option β} {xs : List α} {i : Nat} {x : α} (h : xs[i]? = some x) : (xs.take (i + 1)).filterMap f = (xs.take i).filterMap f ++ (f x).toList := by
  rw [List.take_add_one, h, List.filterMap_append]
  cases e : f x <;> simp [e]
theorem cells_rows {ks : List (List Int)} {ts : List PRow} (pw : ks.Pairwise fun a b => HT.lexLt a b = true) (all : ∀ k c, tally ts k = some c → k ∈ ks) : IsRows (ks.filterMap (cellR ts)) ts := by
  have ck : ∀ {k : List Int} {r : PRow}, cellR ts k = some r → r.1 = k ∧ tally ts k = some r.2 ∧ 0 < r.2 := fun {k r} h => by
    unfold cellR at h
    cases e : tally ts k with
    | none => rw [e] at h; cases h
    | some c =>
      rw [e] at h
      have h' : (if 0 < c then some (k, c) else none) = some r := h
      split at h'
      · rename_i hc
        cases Option.some.inj h'
        exact ⟨rfl, rfl, hc⟩
      · cases h'
  refine ⟨?_, fun k c => ⟨fun m => ?_, fun m => ?_⟩⟩
  · refine List.Pairwise.filterMap (cellR ts) (fun a b h r hr r' hr' => ?_) pw
    rw [(ck hr).1, (ck hr').1]
    exact h
  · obtain ⟨k', _, h⟩ := List.mem_filterMap.mp m
    obtain ⟨e, h1, h2⟩ := ck h
    have e : k = k' := e
    subst e
    exact ⟨h1, h2⟩
  · refine List.mem_filterMap.mpr ⟨k, all k c m.1, ?_⟩
    unfold cellR
    rw [m.1]
    show (if 0 < c then some (k, c) else none) = _
    rw [if_pos m.2]
/-! _added_up -/
def spAdded (K : PySem.W.Frag) : Sp := fun vs H Q _ => ∃ (a b : Addr) (zs : List Nam) (es : List Addr) (ps : List BRow), vs = [.ref a, .ref b] ∧ (∃ o : Obj, H a = some (.frz o (.tup (zs.map vN))) ∧ o.cls = .type "tuple" ∧ o.dict = none) ∧ SqS K H b (es.map V.ref) ∧ PairsAt H es ps ∧ zs.Nodup ∧ ps.length ≤ 1000 ∧ (∀ p ∈ ps, p.1.length ≤ 10 ∧ ∀ x ∈ p.1, x ∈ zs) ∧
  ∀ H' t rs R, H t = none → Same H H' → H' t = some (.tup (rs.map V.ref)) → PairsAt H' rs R → IsRows (R.map fun r => (plOf zs r.1, r.2)) (ps.map fun p => (plOf zs p.1, p.2)) → (∀ r ∈ R, ∃ p ∈ ps, r.1 = p.1) → R.length ≤ 1000 → Q (.ref t) H'
theorem ok_added_up {f : Addr} {fd : FuncData} (F : Fun K "_added_up" "_added_up" s_added_up f fd) (m_tuple : mg "tuple" = none) (m_list : mg "list" = none) (m_sorted : mg "sorted" = none) (d_ballot : Def P w K mg base "_ballot" 1 ["options", "places"] (spBallot K)) : FnOk P w K mg base CX0 2 f fd ["options", "pairs"] (spAdded K) := by
  refine F.ok sc_added_up (fun vs H Q E h => ?_) (fun cdv A outer s H vs Q E hr h => ?_)
  · obtain ⟨a, b, zs, es, ps, rfl, _⟩ := h
    rfl
  · obtain ⟨a, b, zs, es, ps, rfl, ⟨ob, hA, hc, hdn⟩, hB, hP, nd, pl, hS, q⟩ := h
    have el : (es.map V.ref).length = ps.length := by rw [List.length_map, hP.1]
    obtain ⟨tsP, etsP⟩ : ∃ tsP : List PRow, tsP = ps.map fun p => (plOf zs p.1, p.2) := ⟨_, rfl⟩
    rcases hB with hB | hB
    · refine ⟨_, PSs.nox (pss_cons (ps_set (i := 2) sc_added_up.nd rfl (.inr rfl) pe_dnewT)
  (pss_cons (ps_for PassesOwn.never rfl (pi_list (pv 1)) (pg_tup (by rfl) (pgs_cons (pg_name (i := 3) sc_added_up.nd rfl (.inl rfl)) (pgs_cons (pg_name (i := 4) sc_added_up.nd rfl (.inl rfl)) pgs_nil)))
    (pss_cons (ps_set (i := 5) sc_added_up.nd rfl (.inl rfl) (pe_callTy call_tuple_of (by rfl) m_tuple (by decide +kernel) (pa_cons (pe_lc (own := [("option", 6)]) (by rfl) sc_added_up.nd (pi_tup (pv 3)) (blkOk_by (N := ["options", "pairs", "counts", "ballot", "many", "places", "option", "key"]) (sc := defScope s_added_up) (by decide +kernel)) (fun _ _ _ _ _ => (pg_name (i := 6) sc_added_up.nd rfl (.inl rfl))) (fun _ _ _ _ _ => pts_nil) (fun _ _ _ _ _ => (pe_bmF PySem.F.plainAttrs_tuple PySem.F.slot_tuple_index PySem.F.type_tuple_index (mt_tup_indexK (K := K) rfl) (pv 0) (pa_cons (pv 6) pa_nil)))) pa_nil)))
  (pss_one (ps_dput (hu_of hr) (pv 2) (pv 5) (pe_op op_add (pe_dget2 (hu_of hr) (pv 2) (pv 5) pe_int ⟨rfl, by rfl, by rfl, rfl⟩) (pv 4)) rfl))))
  (pss_one (ps_ret (pe_callTy call_tuple_of (by rfl) m_tuple (by decide +kernel) (pa_cons (pe_lc (own := [("key", 7)]) (by rfl) sc_added_up.nd (pi_list (pe_callB (call_sortedTI hr.units) (by rfl) m_sorted (by decide +kernel) (pa_cons (pe_callTy (call_list_dT rfl) (by rfl) m_list (by decide +kernel) (pa_cons (pv 2) pa_nil)) pa_nil))) (blkOk_by (N := ["options", "pairs", "counts", "ballot", "many", "places", "option", "key"]) (sc := defScope s_added_up) (by decide +kernel)) (fun _ _ _ _ _ => (pg_name (i := 7) sc_added_up.nd rfl (.inl rfl))) (fun _ _ _ _ _ => (pts_one (pt_cmpR op_gt (pe_dget (hu_of hr) (pv 2) (pv 7) (fun _ _ => rfl)) pe_int (nomark _)))) (fun _ _ _ _ _ => (pe_tup (pa_cons (pe_callD d_ballot (hr.mono (by decide)) (by rfl) (pa_cons (pv 0) (pa_cons (pv 7) pa_nil))) (pa_cons (pe_dget (hu_of hr) (pv 2) (pv 7) (fun _ _ => rfl)) pa_nil))))) pa_nil)))))), fun D nD => ?_⟩
      refine ⟨_, rfl, b, rfl, ⟨_, (same_upd nD).seq hB⟩, for_list (K := K) (a := b) (xs := es.map V.ref) (fun i σ H2 => Same H H2 ∧ ∃ (kvs : List (List Key × V)) (y1 y2 y3 : Option V), H2 D = some (.dT kvs) ∧ KvI kvs (tsP.take i) ∧ kvs.length ≤ i ∧ σ = [some (.ref a), some (.ref b), some (.ref D), y1, y2, y3, none, none]) ⟨same_upd nD, [], _, _, _, upd_same, .nil, Nat.le_refl _, rfl⟩ (fun i σ H2 _ hp => hp.1.seq hB) ?_ ?_⟩
      · rintro i x σ H2 hx ⟨sm, kvs, y1, y2, y3, hD, kv, kl, rfl⟩
        obtain ⟨e, p, rfl, _, ep, t, he, ht⟩ := pairs_at hP hx
        have hi : i < ps.length := (List.getElem?_eq_some_iff.mp ep).1
        have hz : kvs.length < sizeLine := Nat.lt_of_le_of_lt (show kvs.length ≤ 1000 by omega) (by decide)
        have hsub := hS p (List.mem_of_getElem? ep)
        have et : tsP[i]? = some (plOf zs p.1, p.2) := by rw [etsP, List.getElem?_map, ep]; rfl
        refine ⟨_, _, rfl, tupAt (sm _ _ he), rfl, _, _, rfl, _, _, rfl, rfl, ?_⟩
        -- the places
        refine ⟨_, rfl, t, rfl, ⟨_, tupAt (sm _ _ ht)⟩, fun D2 nD2 => ?_⟩
        refine lc_tup (K := K) (a := t) (xs := p.1.map vN) (fun j H' => H' = upd H2 D2 (.lst (((plOf zs p.1).take j).map V.int))) rfl (fun j H' _ e => e ▸ same_tup (sm.trans (same_upd nD2)) (tupAt ht)) (fun j v H' hx2 hq => ?_) (fun H' hq => ?_)
        · subst hq
          obtain ⟨z, ez, rfl⟩ := vN_at hx2
          have hj : j < p.1.length := (List.getElem?_eq_some_iff.mp ez).1
          have zm := hsub.2 z (List.mem_of_getElem? ez)
          have s2 := sm.trans (same_upd (o := .lst (((plOf zs p.1).take j).map V.int)) nD2)
          have l10 := hsub.1
          have zi : zs[zs.idxOf z]? = some z := by
            have hl := List.idxOf_lt_length_iff.mpr zm
            rw [List.getElem?_eq_getElem hl, List.getElem_idxOf hl]
          have zf : ∀ m, m < zs.idxOf z → zs[m]? ≠ some z := fun m hm e => by
            have := (List.getElem?_inj (List.idxOf_lt_length_iff.mpr zm) nd).mp (zi.trans e.symm)
            omega
          obtain ⟨f1, f2⟩ := str_first zi zf
          have pe : (plOf zs p.1)[j]? = some ((zs.idxOf z : Nat) : Int) := by unfold plOf; rw [List.getElem?_map, ez]; rfl
          refine ⟨rfl, yesT ⟨_, rfl, ⟨a, ob, _, rfl, s2 _ _ hA, hc, hdn⟩, _, rfl, a, zs.map sOf, sOf z, zs.idxOf z, rfl, rfl, .inl (.inr ⟨ob, by rw [← vN_strs]; exact s2 _ _ hA⟩), f1, f2, _, upd_same, by rw [List.length_map, List.length_take]; exact small1000 (by omega), ?_⟩⟩
          rw [upd_twice, List.take_add_one, pe, List.map_append]
          rfl
        · subst hq
          rw [show ((plOf zs p.1).take (p.1.map vN).length) = plOf zs p.1 from List.take_of_length_le (by unfold plOf; simp)]
          have s2 := same_upd (o := .lst ((plOf zs p.1).map V.int)) nD2
          refine ⟨D2, _, rfl, .inl ⟨lstAt upd_same, fun t2 nt2 => ?_⟩⟩
          have s3 := s2.trans (same_upd (o := .tup ((plOf zs p.1).map V.int)) nt2)
          have et2 : (upd (upd H2 D2 (.lst ((plOf zs p.1).map V.int))) t2 (.tup ((plOf zs p.1).map V.int))) t2 = some (.tup ((keyI (plOf zs p.1)).map kV)) := by rw [keyI_V]; exact upd_same
          have hD3 := s3 _ _ hD
          generalize upd (upd H2 D2 (.lst ((plOf zs p.1).map V.int))) t2 (.tup ((plOf zs p.1).map V.int)) = H5 at s3 et2 hD3 ⊢
          have g1 : DGet H5 D (.ref t2) ((tally (tsP.take i) (plOf zs p.1)).map V.int) := kv.at_ (plOf zs p.1) ▸ DGet.t (k := keyI (plOf zs p.1)) hD3 et2
          have ge : ((tally (tsP.take i) (plOf zs p.1)).map V.int).getD (V.int 0) = .int ((tally (tsP.take i) (plOf zs p.1)).getD 0) := by cases tally (tsP.take i) (plOf zs p.1) <;> rfl
          refine ⟨_, rfl, D, rfl, .inr ⟨kvs, .inl hD3⟩, _, rfl, _, g1, _, rfl, (tally (tsP.take i) (plOf zs p.1)).getD 0, p.2, ge, rfl, _, rfl, _, rfl, D, _, rfl, DPut.t (k := keyI (plOf zs p.1)) hD3 et2 hz, ?_⟩
          exact ⟨same_at (sm.trans s3) nD, _, _, _, _, upd_same, kv.put et, kvI_len kl _ _, rfl⟩
      · rintro σ H2 ⟨sm, kvs, y1, y2, y3, hD, kv, kl, rfl⟩
        rw [el, List.take_of_length_le (by rw [etsP, List.length_map]; exact Nat.le_refl _)] at kv
        rw [el] at kl
        refine ⟨_, rfl, D, kvs, rfl, .inl hD, fun W bs nW hb => ?_⟩
        obtain ⟨ks, eks, ka⟩ := keys_of hb kv.ks
        have ndk : ks.Nodup := by
          have := kv.nd
          rw [eks] at this
          exact List.Pairwise.of_map keyI (fun a b h e => h (congrArg keyI e)) this
        have inK : ∀ k ∈ ks, ∃ c, tally tsP k = some c := fun k m => by
          have hm : keyI k ∈ kvs.map (·.1) := by rw [eks]; exact List.mem_map.mpr ⟨k, m, rfl⟩
          obtain ⟨p, hp, e⟩ := List.mem_map.mp hm
          have hv := val_nodup kv.nd p hp
          rw [e, kv.at_] at hv
          cases et : tally tsP k with
          | none => rw [et] at hv; cases hv
          | some c => exact ⟨c, rfl⟩
        have ofK : ∀ k c, tally tsP k = some c → k ∈ ks := fun k c h => by
          have hv := kv.at_ k
          rw [h] at hv
          unfold valV at hv
          obtain ⟨p, hp, _⟩ := Option.map_eq_some_iff.mp hv
          have e0 := List.find?_some hp
          have e : p.1 = keyI k := of_decide_eq_true e0
          have hm : keyI k ∈ kvs.map (·.1) := List.mem_map.mpr ⟨p, List.mem_of_find?_eq_some hp, e⟩
          rw [eks] at hm
          obtain ⟨k', m, e'⟩ := List.mem_map.mp hm
          rw [← keyI_inj e']
          exact m
        have sW := same_upd (o := .lst (bs.map V.ref)) nW
        have kaW := ka.same sW
        have hDW := sW _ _ hD
        have lW : SqL K (upd H2 W (.lst (bs.map V.ref))) W (bs.map V.ref) := lstAt upd_same
        have smW := sm.trans sW
        generalize upd H2 W (.lst (bs.map V.ref)) = H3 at kaW hDW lW smW ⊢
        refine ⟨W, bs.map V.ref, kT H3, rfl, lW, fun x hx => ?_, fun ys Y h1 h2 nY => ?_⟩
        · obtain ⟨b0, hb0, rfl⟩ := List.mem_map.mp hx
          obtain ⟨j, hj⟩ := List.getElem?_of_mem hb0
          obtain ⟨k, _, hk⟩ := kaW.at_ j b0 hj
          exact ⟨b0, rfl, by rw [kT_at hk]; exact hk⟩
        obtain ⟨bs', ks', rfl, ka', pm, pw⟩ := sorted_keys kaW ndk h1 h2.perm
        have sY := same_upd (o := .lst (bs'.map V.ref)) nY
        have eY : (upd H3 Y (.lst (bs'.map V.ref))) Y = some (.lst (bs'.map V.ref)) := upd_same
        have kaY := ka'.same sY
        have hDY := sY _ _ hDW
        have smY := smW.trans sY
        generalize upd H3 Y (.lst (bs'.map V.ref)) = H4 at kaY hDY eY smY ⊢
        have kl2 : ks'.length ≤ 1000 := by
          have e1 := pm.length_eq
          have e2 := congrArg List.length eks
          rw [List.length_map, List.length_map] at e2
          omega
        refine ⟨Y, rfl, ⟨_, lstAt eY⟩, fun E' nE => ?_⟩
        refine lc_list (K := K) (a := Y) (xs := bs'.map V.ref) (fun i H' => ∃ (rs : List Addr) (R : List BRow), Same H4 H' ∧ H' E' = some (.lst (rs.map V.ref)) ∧ PairsAt H' rs R ∧ (R.map fun r => (plOf zs r.1, r.2)) = (ks'.take i).filterMap (cellR tsP) ∧ (∀ r ∈ R, ∃ p ∈ ps, r.1 = p.1)) ⟨[], [], same_upd nE, upd_same, ⟨rfl, fun _ _ h => nomatch h⟩, rfl, fun _ h => nomatch h⟩ (fun i H' _ hq => lstAt (hq.choose_spec.choose_spec.1 _ _ eY)) (fun i x H' hx hq => ?_) (fun H' hq => ?_)
        · obtain ⟨rs, R, s5, eE, hR, eR, mR⟩ := hq
          rw [List.getElem?_map] at hx
          obtain ⟨b0, hb0, rfl⟩ := Option.map_eq_some_iff.mp hx
          obtain ⟨k, ek, hk⟩ := kaY.at_ i b0 hb0
          obtain ⟨c, hc2⟩ := inK k (pm.mem_iff.mp (List.mem_of_getElem? ek))
          have hi : i < ks'.length := (List.getElem?_eq_some_iff.mp ek).1
          have l5 : rs.length ≤ i := by
            have := congrArg List.length eR
            rw [List.length_map] at this
            rw [hR.1, this]
            refine Nat.le_trans (List.length_filterMap_le _ _) ?_
            rw [List.length_take]
            omega
          have g : ∀ H5 : Hp, Same H4 H5 → DGet H5 D (.ref b0) (some (V.int c)) := fun H5 s => by
            have := DGet.t (k := keyI k) (s _ _ hDY) (show H5 b0 = some (.tup ((keyI k).map kV)) by rw [keyI_V]; exact s _ _ hk)
            rw [kv.at_, hc2] at this
            exact this
          refine ⟨rfl, _, rfl, _, rfl, D, _, rfl, g _ s5, _, _, rfl, rfl, _, rfl, ?_⟩
          rw [fm_snoc ek, show cellR tsP k = if 0 < c then some (k, c) else none by unfold cellR; rw [hc2]; rfl]
          by_cases c0 : 0 < c
          · rw [decide_eq_true c0, if_pos c0]
            have tS := tally_some (show tsP.foldl _ none = some c from hc2)
            obtain ⟨t0, mt0, et0⟩ := tS.resolve_left (fun h => nomatch h)
            rw [etsP] at mt0
            obtain ⟨p0, mp0, rfl⟩ := List.mem_map.mp mt0
            have et0 : plOf zs p0.1 = k := et0
            obtain ⟨l10, sub0⟩ := hS p0 mp0
            refine iteT ⟨_, rfl, _, rfl, a, b0, zs, p0.1, rfl, .inl (.inr ⟨ob, (smY.trans s5) _ _ hA⟩), by rw [et0]; exact s5 _ _ hk, l10, sub0, fun H6 t6 nt6 s6 ht6 => ?_⟩
            refine ⟨_, rfl, _, rfl, D, _, rfl, g _ (s5.trans s6), (show (2 : Nat) ≤ sizeLine by decide), fun e6 ne6 => ?_⟩
            have s7 := same_upd (o := .tup [V.ref t6, .int c]) ne6
            have eE2 := s7 _ _ (s6 _ _ eE)
            refine ⟨_, eE2, by rw [List.length_map]; exact small1000 (by omega), rs ++ [e6], R ++ [(p0.1, c)], same_at ((s5.trans s6).trans s7) nE, by rw [List.map_append]; exact upd_same, ?_, by rw [List.map_append, eR]; show _ ++ [(plOf zs p0.1, c)] = _; rw [et0]; rfl, fun r m => ?_⟩
            · have h8 : PairsAt (upd H6 e6 (.tup [V.ref t6, .int c])) (rs ++ [e6]) (R ++ [(p0.1, c)]) := (hR.same s6).snoc s7 ⟨t6, upd_same, s7 _ _ ht6⟩
              exact ⟨h8.1, fun j e he => by
                obtain ⟨p, h1, t, h2, h3⟩ := h8.2 j e he
                exact ⟨p, h1, t, by rw [upd_ne (ne_of h2 eE2 (by intro z; cases z))]; exact h2, by rw [upd_ne (ne_of h3 eE2 (by intro z; cases z))]; exact h3⟩⟩
            · rcases List.mem_append.mp m with m | m
              · exact mR r m
              · rw [List.mem_singleton.mp m]; exact ⟨p0, mp0, rfl⟩
          · rw [decide_eq_false c0, if_neg c0]
            exact iteF ⟨rs, R, s5, eE, hR, by rw [eR]; simp, mR⟩
        · obtain ⟨rs, R, s5, eE, hR, eR, mR⟩ := hq
          rw [show (bs'.map V.ref).length = ks'.length by rw [List.length_map, ka'.len], List.take_length] at eR
          refine ⟨E', _, rfl, .inl ⟨lstAt eE, fun t nt => ?_⟩⟩
          have s6 := s5.trans (same_upd (o := .tup (rs.map V.ref)) nt)
          refine q _ t rs R (none_of (smY.trans s5) nt) (smY.trans s6) upd_same (hR.same (same_upd nt)) ?_ mR ?_
          · rw [eR, ← etsP]
            exact cells_rows pw fun k c h => pm.mem_iff.mpr (ofK k c h)
          · have := congrArg List.length eR
            rw [List.length_map] at this
            rw [this]
            exact Nat.le_trans (List.length_filterMap_le _ _) kl2
    · refine ⟨_, PSs.nox (pss_cons (ps_set (i := 2) sc_added_up.nd rfl (.inr rfl) pe_dnewT)
  (pss_cons (ps_for PassesOwn.never rfl (pi_tup (pv 1)) (pg_tup (by rfl) (pgs_cons (pg_name (i := 3) sc_added_up.nd rfl (.inl rfl)) (pgs_cons (pg_name (i := 4) sc_added_up.nd rfl (.inl rfl)) pgs_nil)))
    (pss_cons (ps_set (i := 5) sc_added_up.nd rfl (.inl rfl) (pe_callTy call_tuple_of (by rfl) m_tuple (by decide +kernel) (pa_cons (pe_lc (own := [("option", 6)]) (by rfl) sc_added_up.nd (pi_tup (pv 3)) (blkOk_by (N := ["options", "pairs", "counts", "ballot", "many", "places", "option", "key"]) (sc := defScope s_added_up) (by decide +kernel)) (fun _ _ _ _ _ => (pg_name (i := 6) sc_added_up.nd rfl (.inl rfl))) (fun _ _ _ _ _ => pts_nil) (fun _ _ _ _ _ => (pe_bmF PySem.F.plainAttrs_tuple PySem.F.slot_tuple_index PySem.F.type_tuple_index (mt_tup_indexK (K := K) rfl) (pv 0) (pa_cons (pv 6) pa_nil)))) pa_nil)))
  (pss_one (ps_dput (hu_of hr) (pv 2) (pv 5) (pe_op op_add (pe_dget2 (hu_of hr) (pv 2) (pv 5) pe_int ⟨rfl, by rfl, by rfl, rfl⟩) (pv 4)) rfl))))
  (pss_one (ps_ret (pe_callTy call_tuple_of (by rfl) m_tuple (by decide +kernel) (pa_cons (pe_lc (own := [("key", 7)]) (by rfl) sc_added_up.nd (pi_list (pe_callB (call_sortedTI hr.units) (by rfl) m_sorted (by decide +kernel) (pa_cons (pe_callTy (call_list_dT rfl) (by rfl) m_list (by decide +kernel) (pa_cons (pv 2) pa_nil)) pa_nil))) (blkOk_by (N := ["options", "pairs", "counts", "ballot", "many", "places", "option", "key"]) (sc := defScope s_added_up) (by decide +kernel)) (fun _ _ _ _ _ => (pg_name (i := 7) sc_added_up.nd rfl (.inl rfl))) (fun _ _ _ _ _ => (pts_one (pt_cmpR op_gt (pe_dget (hu_of hr) (pv 2) (pv 7) (fun _ _ => rfl)) pe_int (nomark _)))) (fun _ _ _ _ _ => (pe_tup (pa_cons (pe_callD d_ballot (hr.mono (by decide)) (by rfl) (pa_cons (pv 0) (pa_cons (pv 7) pa_nil))) (pa_cons (pe_dget (hu_of hr) (pv 2) (pv 7) (fun _ _ => rfl)) pa_nil))))) pa_nil)))))), fun D nD => ?_⟩
      refine ⟨_, rfl, b, rfl, ⟨_, same_tup (same_upd nD) hB⟩, for_tup (K := K) (a := b) (xs := es.map V.ref) (fun i σ H2 => Same H H2 ∧ ∃ (kvs : List (List Key × V)) (y1 y2 y3 : Option V), H2 D = some (.dT kvs) ∧ KvI kvs (tsP.take i) ∧ kvs.length ≤ i ∧ σ = [some (.ref a), some (.ref b), some (.ref D), y1, y2, y3, none, none]) ⟨same_upd nD, [], _, _, _, upd_same, .nil, Nat.le_refl _, rfl⟩ (fun i σ H2 _ hp => same_tup hp.1 hB) ?_ ?_⟩
      · rintro i x σ H2 hx ⟨sm, kvs, y1, y2, y3, hD, kv, kl, rfl⟩
        obtain ⟨e, p, rfl, _, ep, t, he, ht⟩ := pairs_at hP hx
        have hi : i < ps.length := (List.getElem?_eq_some_iff.mp ep).1
        have hz : kvs.length < sizeLine := Nat.lt_of_le_of_lt (show kvs.length ≤ 1000 by omega) (by decide)
        have hsub := hS p (List.mem_of_getElem? ep)
        have et : tsP[i]? = some (plOf zs p.1, p.2) := by rw [etsP, List.getElem?_map, ep]; rfl
        refine ⟨_, _, rfl, tupAt (sm _ _ he), rfl, _, _, rfl, _, _, rfl, rfl, ?_⟩
        -- the places
        refine ⟨_, rfl, t, rfl, ⟨_, tupAt (sm _ _ ht)⟩, fun D2 nD2 => ?_⟩
        refine lc_tup (K := K) (a := t) (xs := p.1.map vN) (fun j H' => H' = upd H2 D2 (.lst (((plOf zs p.1).take j).map V.int))) rfl (fun j H' _ e => e ▸ same_tup (sm.trans (same_upd nD2)) (tupAt ht)) (fun j v H' hx2 hq => ?_) (fun H' hq => ?_)
        · subst hq
          obtain ⟨z, ez, rfl⟩ := vN_at hx2
          have hj : j < p.1.length := (List.getElem?_eq_some_iff.mp ez).1
          have zm := hsub.2 z (List.mem_of_getElem? ez)
          have s2 := sm.trans (same_upd (o := .lst (((plOf zs p.1).take j).map V.int)) nD2)
          have l10 := hsub.1
          have zi : zs[zs.idxOf z]? = some z := by
            have hl := List.idxOf_lt_length_iff.mpr zm
            rw [List.getElem?_eq_getElem hl, List.getElem_idxOf hl]
          have zf : ∀ m, m < zs.idxOf z → zs[m]? ≠ some z := fun m hm e => by
            have := (List.getElem?_inj (List.idxOf_lt_length_iff.mpr zm) nd).mp (zi.trans e.symm)
            omega
          obtain ⟨f1, f2⟩ := str_first zi zf
          have pe : (plOf zs p.1)[j]? = some ((zs.idxOf z : Nat) : Int) := by unfold plOf; rw [List.getElem?_map, ez]; rfl
          refine ⟨rfl, yesT ⟨_, rfl, ⟨a, ob, _, rfl, s2 _ _ hA, hc, hdn⟩, _, rfl, a, zs.map sOf, sOf z, zs.idxOf z, rfl, rfl, .inl (.inr ⟨ob, by rw [← vN_strs]; exact s2 _ _ hA⟩), f1, f2, _, upd_same, by rw [List.length_map, List.length_take]; exact small1000 (by omega), ?_⟩⟩
          rw [upd_twice, List.take_add_one, pe, List.map_append]
          rfl
        · subst hq
          rw [show ((plOf zs p.1).take (p.1.map vN).length) = plOf zs p.1 from List.take_of_length_le (by unfold plOf; simp)]
          have s2 := same_upd (o := .lst ((plOf zs p.1).map V.int)) nD2
          refine ⟨D2, _, rfl, .inl ⟨lstAt upd_same, fun t2 nt2 => ?_⟩⟩
          have s3 := s2.trans (same_upd (o := .tup ((plOf zs p.1).map V.int)) nt2)
          have et2 : (upd (upd H2 D2 (.lst ((plOf zs p.1).map V.int))) t2 (.tup ((plOf zs p.1).map V.int))) t2 = some (.tup ((keyI (plOf zs p.1)).map kV)) := by rw [keyI_V]; exact upd_same
          have hD3 := s3 _ _ hD
          generalize upd (upd H2 D2 (.lst ((plOf zs p.1).map V.int))) t2 (.tup ((plOf zs p.1).map V.int)) = H5 at s3 et2 hD3 ⊢
          have g1 : DGet H5 D (.ref t2) ((tally (tsP.take i) (plOf zs p.1)).map V.int) := kv.at_ (plOf zs p.1) ▸ DGet.t (k := keyI (plOf zs p.1)) hD3 et2
          have ge : ((tally (tsP.take i) (plOf zs p.1)).map V.int).getD (V.int 0) = .int ((tally (tsP.take i) (plOf zs p.1)).getD 0) := by cases tally (tsP.take i) (plOf zs p.1) <;> rfl
          refine ⟨_, rfl, D, rfl, .inr ⟨kvs, .inl hD3⟩, _, rfl, _, g1, _, rfl, (tally (tsP.take i) (plOf zs p.1)).getD 0, p.2, ge, rfl, _, rfl, _, rfl, D, _, rfl, DPut.t (k := keyI (plOf zs p.1)) hD3 et2 hz, ?_⟩
          exact ⟨same_at (sm.trans s3) nD, _, _, _, _, upd_same, kv.put et, kvI_len kl _ _, rfl⟩
      · rintro σ H2 ⟨sm, kvs, y1, y2, y3, hD, kv, kl, rfl⟩
        rw [el, List.take_of_length_le (by rw [etsP, List.length_map]; exact Nat.le_refl _)] at kv
        rw [el] at kl
        refine ⟨_, rfl, D, kvs, rfl, .inl hD, fun W bs nW hb => ?_⟩
        obtain ⟨ks, eks, ka⟩ := keys_of hb kv.ks
        have ndk : ks.Nodup := by
          have := kv.nd
          rw [eks] at this
          exact List.Pairwise.of_map keyI (fun a b h e => h (congrArg keyI e)) this
        have inK : ∀ k ∈ ks, ∃ c, tally tsP k = some c := fun k m => by
          have hm : keyI k ∈ kvs.map (·.1) := by rw [eks]; exact List.mem_map.mpr ⟨k, m, rfl⟩
          obtain ⟨p, hp, e⟩ := List.mem_map.mp hm
          have hv := val_nodup kv.nd p hp
          rw [e, kv.at_] at hv
          cases et : tally tsP k with
          | none => rw [et] at hv; cases hv
          | some c => exact ⟨c, rfl⟩
        have ofK : ∀ k c, tally tsP k = some c → k ∈ ks := fun k c h => by
          have hv := kv.at_ k
          rw [h] at hv
          unfold valV at hv
          obtain ⟨p, hp, _⟩ := Option.map_eq_some_iff.mp hv
          have e0 := List.find?_some hp
          have e : p.1 = keyI k := of_decide_eq_true e0
          have hm : keyI k ∈ kvs.map (·.1) := List.mem_map.mpr ⟨p, List.mem_of_find?_eq_some hp, e⟩
          rw [eks] at hm
          obtain ⟨k', m, e'⟩ := List.mem_map.mp hm
          rw [← keyI_inj e']
          exact m
        have sW := same_upd (o := .lst (bs.map V.ref)) nW
        have kaW := ka.same sW
        have hDW := sW _ _ hD
        have lW : SqL K (upd H2 W (.lst (bs.map V.ref))) W (bs.map V.ref) := lstAt upd_same
        have smW := sm.trans sW
        generalize upd H2 W (.lst (bs.map V.ref)) = H3 at kaW hDW lW smW ⊢
        refine ⟨W, bs.map V.ref, kT H3, rfl, lW, fun x hx => ?_, fun ys Y h1 h2 nY => ?_⟩
        · obtain ⟨b0, hb0, rfl⟩ := List.mem_map.mp hx
          obtain ⟨j, hj⟩ := List.getElem?_of_mem hb0
          obtain ⟨k, _, hk⟩ := kaW.at_ j b0 hj
          exact ⟨b0, rfl, by rw [kT_at hk]; exact hk⟩
        obtain ⟨bs', ks', rfl, ka', pm, pw⟩ := sorted_keys kaW ndk h1 h2.perm
        have sY := same_upd (o := .lst (bs'.map V.ref)) nY
        have eY : (upd H3 Y (.lst (bs'.map V.ref))) Y = some (.lst (bs'.map V.ref)) := upd_same
        have kaY := ka'.same sY
        have hDY := sY _ _ hDW
        have smY := smW.trans sY
        generalize upd H3 Y (.lst (bs'.map V.ref)) = H4 at kaY hDY eY smY ⊢
        have kl2 : ks'.length ≤ 1000 := by
          have e1 := pm.length_eq
          have e2 := congrArg List.length eks
          rw [List.length_map, List.length_map] at e2
          omega
        refine ⟨Y, rfl, ⟨_, lstAt eY⟩, fun E' nE => ?_⟩
        refine lc_list (K := K) (a := Y) (xs := bs'.map V.ref) (fun i H' => ∃ (rs : List Addr) (R : List BRow), Same H4 H' ∧ H' E' = some (.lst (rs.map V.ref)) ∧ PairsAt H' rs R ∧ (R.map fun r => (plOf zs r.1, r.2)) = (ks'.take i).filterMap (cellR tsP) ∧ (∀ r ∈ R, ∃ p ∈ ps, r.1 = p.1)) ⟨[], [], same_upd nE, upd_same, ⟨rfl, fun _ _ h => nomatch h⟩, rfl, fun _ h => nomatch h⟩ (fun i H' _ hq => lstAt (hq.choose_spec.choose_spec.1 _ _ eY)) (fun i x H' hx hq => ?_) (fun H' hq => ?_)
        · obtain ⟨rs, R, s5, eE, hR, eR, mR⟩ := hq
          rw [List.getElem?_map] at hx
          obtain ⟨b0, hb0, rfl⟩ := Option.map_eq_some_iff.mp hx
          obtain ⟨k, ek, hk⟩ := kaY.at_ i b0 hb0
          obtain ⟨c, hc2⟩ := inK k (pm.mem_iff.mp (List.mem_of_getElem? ek))
          have hi : i < ks'.length := (List.getElem?_eq_some_iff.mp ek).1
          have l5 : rs.length ≤ i := by
            have := congrArg List.length eR
            rw [List.length_map] at this
            rw [hR.1, this]
            refine Nat.le_trans (List.length_filterMap_le _ _) ?_
            rw [List.length_take]
            omega
          have g : ∀ H5 : Hp, Same H4 H5 → DGet H5 D (.ref b0) (some (V.int c)) := fun H5 s => by
            have := DGet.t (k := keyI k) (s _ _ hDY) (show H5 b0 = some (.tup ((keyI k).map kV)) by rw [keyI_V]; exact s _ _ hk)
            rw [kv.at_, hc2] at this
            exact this
          refine ⟨rfl, _, rfl, _, rfl, D, _, rfl, g _ s5, _, _, rfl, rfl, _, rfl, ?_⟩
          rw [fm_snoc ek, show cellR tsP k = if 0 < c then some (k, c) else none by unfold cellR; rw [hc2]; rfl]
          by_cases c0 : 0 < c
          · rw [decide_eq_true c0, if_pos c0]
            have tS := tally_some (show tsP.foldl _ none = some c from hc2)
            obtain ⟨t0, mt0, et0⟩ := tS.resolve_left (fun h => nomatch h)
            rw [etsP] at mt0
            obtain ⟨p0, mp0, rfl⟩ := List.mem_map.mp mt0
            have et0 : plOf zs p0.1 = k := et0
            obtain ⟨l10, sub0⟩ := hS p0 mp0
            refine iteT ⟨_, rfl, _, rfl, a, b0, zs, p0.1, rfl, .inl (.inr ⟨ob, (smY.trans s5) _ _ hA⟩), by rw [et0]; exact s5 _ _ hk, l10, sub0, fun H6 t6 nt6 s6 ht6 => ?_⟩
            refine ⟨_, rfl, _, rfl, D, _, rfl, g _ (s5.trans s6), (show (2 : Nat) ≤ sizeLine by decide), fun e6 ne6 => ?_⟩
            have s7 := same_upd (o := .tup [V.ref t6, .int c]) ne6
            have eE2 := s7 _ _ (s6 _ _ eE)
            refine ⟨_, eE2, by rw [List.length_map]; exact small1000 (by omega), rs ++ [e6], R ++ [(p0.1, c)], same_at ((s5.trans s6).trans s7) nE, by rw [List.map_append]; exact upd_same, ?_, by rw [List.map_append, eR]; show _ ++ [(plOf zs p0.1, c)] = _; rw [et0]; rfl, fun r m => ?_⟩
            · have h8 : PairsAt (upd H6 e6 (.tup [V.ref t6, .int c])) (rs ++ [e6]) (R ++ [(p0.1, c)]) := (hR.same s6).snoc s7 ⟨t6, upd_same, s7 _ _ ht6⟩
              exact ⟨h8.1, fun j e he => by
                obtain ⟨p, h1, t, h2, h3⟩ := h8.2 j e he
                exact ⟨p, h1, t, by rw [upd_ne (ne_of h2 eE2 (by intro z; cases z))]; exact h2, by rw [upd_ne (ne_of h3 eE2 (by intro z; cases z))]; exact h3⟩⟩
            · rcases List.mem_append.mp m with m | m
              · exact mR r m
              · rw [List.mem_singleton.mp m]; exact ⟨p0, mp0, rfl⟩
          · rw [decide_eq_false c0, if_neg c0]
            exact iteF ⟨rs, R, s5, eE, hR, by rw [eR]; simp, mR⟩
        · obtain ⟨rs, R, s5, eE, hR, eR, mR⟩ := hq
          rw [show (bs'.map V.ref).length = ks'.length by rw [List.length_map, ka'.len], List.take_length] at eR
          refine ⟨E', _, rfl, .inl ⟨lstAt eE, fun t nt => ?_⟩⟩
          have s6 := s5.trans (same_upd (o := .tup (rs.map V.ref)) nt)
          refine q _ t rs R (none_of (smY.trans s5) nt) (smY.trans s6) upd_same (hR.same (same_upd nt)) ?_ mR ?_
          · rw [eR, ← etsP]
            exact cells_rows pw fun k c h => pm.mem_iff.mpr (ofK k c h)
          · have := congrArg List.length eR
            rw [List.length_map] at this
            rw [this]
            exact Nat.le_trans (List.length_filterMap_le _ _) kl2
end
end TK

/-! rolls made -/
namespace TK
open PySem PySem.Spec PyProof.Rows L2
section
variable {X : Cx}
/-- tuple(x): of a list a new one, of a tuple that is known to its object itself -/
theorem call_tupleF : CallR X (.type "tuple") (fun xs H Q => ∃ p ys, xs = [.ref p] ∧ ((SqL X.K H p ys ∧ ∀ (l : Addr) (o : Obj), H l = none → o.cls = .type "tuple" → o.dict = none → Q (.ref l) (upd H l (.frz o (.tup ys)))) ∨ (SqT X.K H p ys ∧ Q (.ref p) H))) := by
  intro pins s σ H xs us Q I r h
  obtain ⟨p, ys, e, h | h⟩ := h
  · exact call_tuple_frz pins s σ H xs us Q I r ⟨p, ys, e, h.1, h.2⟩
  · exact call_tuple_of pins s σ H xs us Q I r ⟨p, ys, e, .inr h⟩
end
section
variable {P : Program} {w : World} {K : PySem.W.Frag} {mg : Str → Option Value} {base : Heap}
/-- a right row: a ballot of some of the names, each once, and how many -/
def POk (zs : List Nam) (p : BRow) : Prop := p.1.Nodup ∧ (∀ x ∈ p.1, x ∈ zs) ∧ 0 ≤ p.2 ∧ p.2 ≤ 1000000000
theorem kit_self {K : PySem.W.Frag} {C : Addr} : PySem.W.kitOne K (.ref C) (.ref C) = some true := by
  unfold PySem.W.kitOne
  rw [if_pos (beq_self_eq_true _)]
/-- the class of rows that are sums already -/
structure TxtS (K : PySem.W.Frag) (C : Addr) : Prop where
  cl : Cls K C
  nP : NoAttr K C "pairs"
  kL : PySem.W.kitOne K (.type "list") (.ref C) = some false
  kT : PySem.W.kitOne K (.type "tuple") (.ref C) = some false
  ha : PySem.W.findIn K (.ref C) "__class__" = some (some (.builtin "object.__class__"))
  hn : PySem.W.specialIn K (.builtin "object.__class__") "__get__" = some (some (.builtin "getset_descriptor.__get__"))
  htk : PySem.W.takesIn K (.builtin "object.__class__") = some true
  hm : PySem.W.mroIn K C (.type "object") = some true
def fldsS (p : Addr) : List (Str × V) := putF "pairs" (.ref p) []
theorem fldsS_pairs (p : Addr) : (fldsS p).lookup ("pairs" : Str) = some (.ref p) := by unfold fldsS; rw [lookup_putF, if_pos rfl]
/-- rows as they are given: pairs in a list or a tuple, or sums -/
def EmpK (K : PySem.W.Frag) (b : Addr) : Prop := ∃ o its n, List.lookup b K = some o ∧ o.cls = .type "tuple" ∧ o.data = .seq its n ∧ its.size ≤ sizeLine ∧ Vals [] its.toList
def RowsG (K : PySem.W.Frag) (CS : Addr) (H : Hp) (b : Addr) (es : List Addr) (zs : List Nam) (ps : List BRow) : Prop :=
  ((H b = some (.lst (es.map V.ref)) ∨ H b = some (.tup (es.map V.ref)) ∨ (EmpK K b ∧ es = [])) ∧ ∀ p ∈ ps, POk zs p) ∨ (∃ dx pb, H b = some (.ins CS dx (fldsS pb)) ∧ H pb = some (.tup (es.map V.ref)))
theorem RowsG.same {K : PySem.W.Frag} {CS : Addr} {H H' : Hp} {b : Addr} {es : List Addr} {zs : List Nam} {ps : List BRow} (h : RowsG K CS H b es zs ps) (s : Same H H') : RowsG K CS H' b es zs ps := by
  rcases h with ⟨h | h | h, k⟩ | ⟨dx, pb, h1, h2⟩
  · exact .inl ⟨.inl (s _ _ h), k⟩
  · exact .inl ⟨.inr (.inl (s _ _ h)), k⟩
  · exact .inl ⟨.inr (.inr h), k⟩
  · exact .inr ⟨dx, pb, s _ _ h1, s _ _ h2⟩
/-! _checked_pairs -/
def spChecked (K : PySem.W.Frag) (CS : Addr) : Sp := fun vs H Q _ => ∃ (a b : Addr) (zs : List Nam) (es : List Addr) (ps : List BRow), vs = [.ref a, .ref b] ∧ SqS K H a (zs.map vN) ∧ RowsG K CS H b es zs ps ∧ PairsAt H es ps ∧ ∀ H' b', Same H H' → SqS K H' b' (es.map V.ref) → Q (.ref b') H'
theorem ok_checked_pairs {f C : Addr} {fd : FuncData} (F : Fun K "_checked_pairs" "_checked_pairs" s_checked_pairs f fd) (m_isinstance : mg "isinstance" = none) (mg_SumRows : mg "SumRows" = some (.ref C)) (T : TxtS K C)
    (d_check_picks : Def P w K mg base "check_picks" 1 ["picks", "known"] (spPicks K)) (d_check_range : Def P w K mg base "check_range" 1 ["number", "low", "high"] spRange) : FnOk P w K mg base CX0 2 f fd ["options", "rows"] (spChecked K C) := by
  refine F.ok sc_checked_pairs (fun vs H Q E h => ?_) (fun cdv A outer s H vs Q E hr h => ?_)
  · obtain ⟨a, b, zs, es, ps, rfl, _⟩ := h
    rfl
  · obtain ⟨a, b, zs, es, ps, rfl, hA, hB, hP, q⟩ := h
    rcases hB with ⟨hB | hB | ⟨hB, rfl⟩, hS⟩ | ⟨dx, pb, hB, hpb⟩
    · refine ⟨_, (pss_cons (ps_if (pt_val (pe_callB call_isi (by rfl) m_isinstance (by decide +kernel) (pa_cons (pv 1) (pa_cons (pe_glob (v := .ref C) (u := .ref C) (by rfl) mg_SumRows rfl) pa_nil)))) (pss_one (ps_ret (pe_fld (pv 1) rfl))) pss_nil)
  (pss_cons (ps_for PassesOwn.never rfl (pi_list (pv 1)) (pg_tup (by rfl) (pgs_cons (pg_name (i := 2) sc_checked_pairs.nd rfl (.inl rfl)) (pgs_cons (pg_name (i := 3) sc_checked_pairs.nd rfl (.inl rfl)) pgs_nil)))
    (pss_cons (ps_expr (pe_callD d_check_picks (hr.mono (by decide)) (by rfl) (pa_cons (pv 2) (pa_cons (pv 0) pa_nil))))
  (pss_one (ps_expr (pe_callD d_check_range (hr.mono (by decide)) (by rfl) (pa_cons (pv 3) (pa_cons pe_int (pa_cons (pe_op op_pow pe_int pe_int) pa_nil))))))))
  (pss_one (ps_ret (pv 1))))), ?_⟩
      refine ⟨_, rfl, _, _, _, _, false, rfl, .own C, .base (.lst hB), T.kL, _, rfl, iteF ?_⟩
      refine ⟨_, rfl, b, rfl, ⟨_, lstAt hB⟩, for_list (K := K) (a := b) (xs := es.map V.ref) (fun i σ H2 => Same H H2 ∧ ∃ y1 y2 : Option V, σ = [some (.ref a), some (.ref b), y1, y2]) ⟨Same.refl H, _, _, rfl⟩ (fun i σ H2 _ hp => lstAt (hp.1 _ _ hB)) ?_ ?_⟩
      · rintro i x σ H2 hx ⟨sm, y1, y2, rfl⟩
        obtain ⟨e, p, rfl, _, ep, t, he, ht⟩ := pairs_at hP hx
        obtain ⟨nd1, sub1, m0, m9⟩ := hS p (List.mem_of_getElem? ep)
        refine ⟨_, _, rfl, tupAt (sm _ _ he), rfl, _, _, rfl, _, _, rfl, rfl, ?_⟩
        refine ⟨_, rfl, _, rfl, t, a, p.1, zs, rfl, tupAt (sm _ _ ht), hA.same sm, nd1, sub1, fun H3 s3 => ?_⟩
        exact ⟨_, rfl, _, _, rfl, rfl, ⟨by decide, by decide, by decide⟩, _, _, _, rfl, m0, m9, sm.trans s3, _, _, rfl⟩
      · rintro σ H2 ⟨sm, y1, y2, rfl⟩
        exact ⟨_, rfl, q _ b sm (.inl (lstAt (sm _ _ hB)))⟩
    · refine ⟨_, (pss_cons (ps_if (pt_val (pe_callB call_isi (by rfl) m_isinstance (by decide +kernel) (pa_cons (pv 1) (pa_cons (pe_glob (v := .ref C) (u := .ref C) (by rfl) mg_SumRows rfl) pa_nil)))) (pss_one (ps_ret (pe_fld (pv 1) rfl))) pss_nil)
  (pss_cons (ps_for PassesOwn.never rfl (pi_tup (pv 1)) (pg_tup (by rfl) (pgs_cons (pg_name (i := 2) sc_checked_pairs.nd rfl (.inl rfl)) (pgs_cons (pg_name (i := 3) sc_checked_pairs.nd rfl (.inl rfl)) pgs_nil)))
    (pss_cons (ps_expr (pe_callD d_check_picks (hr.mono (by decide)) (by rfl) (pa_cons (pv 2) (pa_cons (pv 0) pa_nil))))
  (pss_one (ps_expr (pe_callD d_check_range (hr.mono (by decide)) (by rfl) (pa_cons (pv 3) (pa_cons pe_int (pa_cons (pe_op op_pow pe_int pe_int) pa_nil))))))))
  (pss_one (ps_ret (pv 1))))), ?_⟩
      refine ⟨_, rfl, _, _, _, _, false, rfl, .own C, .base (.tup hB), T.kT, _, rfl, iteF ?_⟩
      refine ⟨_, rfl, b, rfl, ⟨_, tupAt hB⟩, for_tup (K := K) (a := b) (xs := es.map V.ref) (fun i σ H2 => Same H H2 ∧ ∃ y1 y2 : Option V, σ = [some (.ref a), some (.ref b), y1, y2]) ⟨Same.refl H, _, _, rfl⟩ (fun i σ H2 _ hp => tupAt (hp.1 _ _ hB)) ?_ ?_⟩
      · rintro i x σ H2 hx ⟨sm, y1, y2, rfl⟩
        obtain ⟨e, p, rfl, _, ep, t, he, ht⟩ := pairs_at hP hx
        obtain ⟨nd1, sub1, m0, m9⟩ := hS p (List.mem_of_getElem? ep)
        refine ⟨_, _, rfl, tupAt (sm _ _ he), rfl, _, _, rfl, _, _, rfl, rfl, ?_⟩
        refine ⟨_, rfl, _, rfl, t, a, p.1, zs, rfl, tupAt (sm _ _ ht), hA.same sm, nd1, sub1, fun H3 s3 => ?_⟩
        exact ⟨_, rfl, _, _, rfl, rfl, ⟨by decide, by decide, by decide⟩, _, _, _, rfl, m0, m9, sm.trans s3, _, _, rfl⟩
      · rintro σ H2 ⟨sm, y1, y2, rfl⟩
        exact ⟨_, rfl, q _ b sm (.inr (tupAt (sm _ _ hB)))⟩
    · obtain ⟨o, its, n, e1, e2, e3, e4, e5⟩ := hB
      have hT : ∀ H' : Hp, SqT K H' b (([] : List Addr).map V.ref) := fun _ => .inr ⟨o, its, n, e1, e2, e3, e4, e5⟩
      refine ⟨_, (pss_cons (ps_if (pt_val (pe_callB call_isi (by rfl) m_isinstance (by decide +kernel) (pa_cons (pv 1) (pa_cons (pe_glob (v := .ref C) (u := .ref C) (by rfl) mg_SumRows rfl) pa_nil)))) (pss_one (ps_ret (pe_fld (pv 1) rfl))) pss_nil)
  (pss_cons (ps_for PassesOwn.never rfl (pi_tup (pv 1)) (pg_tup (by rfl) (pgs_cons (pg_name (i := 2) sc_checked_pairs.nd rfl (.inl rfl)) (pgs_cons (pg_name (i := 3) sc_checked_pairs.nd rfl (.inl rfl)) pgs_nil)))
    (pss_cons (ps_expr (pe_callD d_check_picks (hr.mono (by decide)) (by rfl) (pa_cons (pv 2) (pa_cons (pv 0) pa_nil))))
  (pss_one (ps_expr (pe_callD d_check_range (hr.mono (by decide)) (by rfl) (pa_cons (pv 3) (pa_cons pe_int (pa_cons (pe_op op_pow pe_int pe_int) pa_nil))))))))
  (pss_one (ps_ret (pv 1))))), ?_⟩
      refine ⟨_, rfl, _, _, _, _, false, rfl, .own C, .kTuple e1 e2, T.kT, _, rfl, iteF ?_⟩
      refine ⟨_, rfl, b, rfl, ⟨_, hT _⟩, for_tup (K := K) (a := b) (xs := ([] : List Addr).map V.ref) (fun i σ H2 => Same H H2 ∧ ∃ y1 y2 : Option V, σ = [some (.ref a), some (.ref b), y1, y2]) ⟨Same.refl H, _, _, rfl⟩ (fun i σ H2 _ hp => hT _) ?_ ?_⟩
      · rintro i x σ H2 hx ⟨sm, y1, y2, rfl⟩
        cases i <;> cases hx
      · rintro σ H2 ⟨sm, y1, y2, rfl⟩
        exact ⟨_, rfl, q _ b sm (.inr (hT _))⟩
    · refine ⟨_, (pss_cons (ps_if (pt_val (pe_callB call_isi (by rfl) m_isinstance (by decide +kernel) (pa_cons (pv 1) (pa_cons (pe_glob (v := .ref C) (u := .ref C) (by rfl) mg_SumRows rfl) pa_nil)))) (pss_one (ps_ret (pe_fld (pv 1) rfl))) pss_nil)
  (pss_cons (ps_for PassesOwn.never rfl (pi_list (pv 1)) (pg_tup (by rfl) (pgs_cons (pg_name (i := 2) sc_checked_pairs.nd rfl (.inl rfl)) (pgs_cons (pg_name (i := 3) sc_checked_pairs.nd rfl (.inl rfl)) pgs_nil)))
    (pss_cons (ps_expr (pe_callD d_check_picks (hr.mono (by decide)) (by rfl) (pa_cons (pv 2) (pa_cons (pv 0) pa_nil))))
  (pss_one (ps_expr (pe_callD d_check_range (hr.mono (by decide)) (by rfl) (pa_cons (pv 3) (pa_cons pe_int (pa_cons (pe_op op_pow pe_int pe_int) pa_nil))))))))
  (pss_one (ps_ret (pv 1))))), ?_⟩
      refine ⟨_, rfl, _, _, _, _, true, rfl, .own C, .base (.ins hB T.cl T.ha T.hn T.htk T.hm), kit_self, _, rfl, iteT ?_⟩
      exact ⟨_, rfl, b, C, dx, _, _, rfl, hB, T.cl, T.nP, fldsS_pairs _, q _ pb (Same.refl _) (.inr (tupAt hpb))⟩
end
end TK

/-! Roll.__init__ -/
namespace TK
open PySem PySem.Spec PyProof.Rows L2
abbrev s_Roll_init : Stmt := inClass (topS 32) 0
theorem sc_Roll_init : FnScope ["self", "options", "rows", "pairs", "_", "many"] ["self", "options", "rows"] (defScope s_Roll_init) := ⟨rfl, rfl, rfl, by decide +kernel, rfl, by decide +kernel, by decide +kernel⟩
theorem putF_len (f : Str) (v : V) : ∀ fs : List (Str × V), (putF f v fs).length ≤ fs.length + 1
  | [] => Nat.le_refl _
  | (g, x) :: r => by
    show (if g = f then _ else _ : List (Str × V)).length ≤ _
    split
    · exact Nat.le_succ _
    · exact Nat.succ_le_succ (putF_len f v r)
def fldsR (a t : Addr) (n : Int) : List (Str × V) := putF "total" (.int n) (putF "_rows" (.ref t) (putF "options" (.ref a) []))
theorem nd_lenP {α : Type} [DecidableEq α] {p zs : List α} (h : p.Nodup) (s : ∀ w ∈ p, w ∈ zs) : p.length ≤ zs.length := by
  induction p generalizing zs with
  | nil => exact Nat.zero_le _
  | cons a p ih =>
    have ha := s a List.mem_cons_self
    obtain ⟨n1, n2⟩ := List.nodup_cons.mp h
    have := ih (zs := zs.erase a) n2 fun w hw => (List.mem_erase_of_ne (fun e => n1 (by rw [← e]; exact hw))).mpr (s w (List.mem_cons_of_mem _ hw))
    rw [List.length_erase_of_mem ha] at this
    have hp : 0 < zs.length := List.length_pos_of_mem ha
    simp only [List.length_cons]
    omega
theorem fldsR_o1 (a : Addr) : (putF "options" (.ref a) []).lookup ("options" : Str) = some (.ref a) := by rw [lookup_putF, if_pos rfl]
theorem fldsR_r2 (a t : Addr) : (putF "_rows" (.ref t) (putF "options" (.ref a) [])).lookup ("_rows" : Str) = some (.ref t) := by rw [lookup_putF, if_pos rfl]
theorem fldsR_options (a t : Addr) (n : Int) : (fldsR a t n).lookup ("options" : Str) = some (.ref a) := by
  unfold fldsR
  rw [lookup_putF, if_neg (by decide +kernel), lookup_putF, if_neg (by decide +kernel), lookup_putF, if_pos rfl]
theorem fldsR_rows (a t : Addr) (n : Int) : (fldsR a t n).lookup ("_rows" : Str) = some (.ref t) := by
  unfold fldsR
  rw [lookup_putF, if_neg (by decide +kernel), lookup_putF, if_pos rfl]
theorem fldsR_total (a t : Addr) (n : Int) : (fldsR a t n).lookup ("total" : Str) = some (.int n) := by
  unfold fldsR
  rw [lookup_putF, if_pos rfl]
theorem SqS.ins {K : PySem.W.Frag} {H : Hp} {a p C dx : Addr} {xs : List V} {fs : List (Str × V)} {o : HO} (h : SqS K H a xs) (hp : H p = some (.ins C dx fs)) : SqS K (upd H p o) a xs := by
  rcases h with ((h | ⟨ob, h⟩) | h) | ((h | ⟨ob, h⟩) | h)
  · exact .inl (.inl (.inl (by rw [upd_ne (ne_of h hp (by intro z; cases z))]; exact h)))
  · exact .inl (.inl (.inr ⟨ob, by rw [upd_ne (ne_of h hp (by intro z; cases z))]; exact h⟩))
  · exact .inl (.inr h)
  · exact .inr (.inl (.inl (by rw [upd_ne (ne_of h hp (by intro z; cases z))]; exact h)))
  · exact .inr (.inl (.inr ⟨ob, by rw [upd_ne (ne_of h hp (by intro z; cases z))]; exact h⟩))
  · exact .inr (.inr h)
structure TxtR (K : PySem.W.Frag) (C : Addr) : Prop where
  cl : Cls K C
  nO : NoAttr K C "options"
  nR : NoAttr K C "_rows"
  nT : NoAttr K C "total"
def sumR (R : List BRow) : Int := (R.map (·.2)).sum
/-- a roll: its options, its rows -/
def RoAt (C : Addr) (H : Hp) (p : Addr) (zs : List Nam) (R : List BRow) : Prop := ∃ dx a t rs o, H p = some (.ins C dx (fldsR a t (sumR R))) ∧ H a = some (.frz o (.tup (zs.map vN))) ∧ o.cls = .type "tuple" ∧ o.dict = none ∧ H t = some (.tup (rs.map V.ref)) ∧ PairsAt H rs R
theorem RoAt.same {C : Addr} {H H' : Hp} {p : Addr} {zs : List Nam} {R : List BRow} (h : RoAt C H p zs R) (s : Same H H') : RoAt C H' p zs R := by
  obtain ⟨dx, a, t, rs, o, h1, h2, h3, h4, h5, h6⟩ := h
  exact ⟨dx, a, t, rs, o, s _ _ h1, s _ _ h2, h3, h4, s _ _ h5, h6.same s⟩
section
variable {P : Program} {w : World} {K : PySem.W.Frag} {mg : Str → Option Value} {base : Heap}
def spInitR (K : PySem.W.Frag) (C CS : Addr) : Sp := fun vs H Q _ => ∃ (p a b dx : Addr) (zs : List Nam) (es : List Addr) (ps : List BRow), vs = [.ref p, .ref a, .ref b] ∧ H p = some (.ins C dx []) ∧ (SqL K H a (zs.map vN) ∨ ∃ o : Obj, H a = some (.frz o (.tup (zs.map vN))) ∧ o.cls = .type "tuple" ∧ o.dict = none) ∧
  RowsG K CS H b es zs ps ∧ PairsAt H es ps ∧ ps.length ≤ 1000 ∧ (∀ z ∈ zs, Nm z) ∧ zs.Nodup ∧ 1 ≤ zs.length ∧ zs.length ≤ 4 ∧ (∀ p ∈ ps, p.1.Nodup ∧ ∀ x ∈ p.1, x ∈ zs) ∧
  ∀ H' R, RoAt C H' p zs R → IsRows (R.map fun r => (plOf zs r.1, r.2)) (ps.map fun p => (plOf zs p.1, p.2)) → (∀ r ∈ R, ∃ p ∈ ps, r.1 = p.1) → (∀ c o, H c = some o → c ≠ p → H' c = some o) → Q .non H'
theorem ok_Roll {f C CS : Addr} {fd : FuncData} {dvs : List V} {kws : List (Str × V)} (F : FunD K "__init__" "Roll.__init__" (defArgs s_Roll_init) (defBody s_Roll_init) (defScope s_Roll_init) dvs kws f fd) (T : TxtR K C) (m_tuple : mg "tuple" = none) (m_sum : mg "sum" = none)
    (d_check_names : DefD P w K mg base "check_names" 2 ["names", "most", "hook"] (spCheckN K) [.bl false]) (d_checked_pairs : Def P w K mg base "_checked_pairs" 2 ["options", "rows"] (spChecked K CS)) (d_added_up : Def P w K mg base "_added_up" 2 ["options", "pairs"] (spAdded K)) :
    FnOk P w K mg base CX0 3 f fd ["self", "options", "rows"] (spInitR K C CS) := by
  refine F.ok (CX := CX0) sc_Roll_init (fun vs H Q E h => ?_) (fun cdv A outer s H vs Q E hr h => ?_)
  · obtain ⟨p, a, b, dx, zs, es, ps, rfl, _⟩ := h
    rfl
  · obtain ⟨p, a, b, dx, zs, es, ps, rfl, hp, hA, hB, hP, pl, nm, nd, z1, z4, hS, q⟩ := h
    have hQ : SqS K H a (zs.map vN) := hA.elim .inl fun ⟨o, h, _⟩ => .inr (.inl (.inr ⟨o, h⟩))
    have b10 : ∀ q ∈ ps, q.1.length ≤ 10 := fun q' m => by
      have := nd_lenP (hS q' m).1 (hS q' m).2
      omega
    refine ⟨_, PSs.nox (pss_cons (ps_expr (pe_callDD d_check_names (hr.mono (by decide)) (by rfl) (pa_cons (pv 1) (pa_cons pe_int pa_nil))))
  (pss_cons (ps_set (i := 3) sc_Roll_init.nd rfl (.inl rfl) (pe_callD d_checked_pairs (hr.mono (by decide)) (by rfl) (pa_cons (pv 1) (pa_cons (pv 2) pa_nil))))
  (pss_cons (ps_fld (pv 0) (pe_callTy call_tupleF (by rfl) m_tuple (by decide +kernel) (pa_cons (pv 1) pa_nil)) rfl)
  (pss_cons (ps_fld (pv 0) (pe_callD d_added_up (hr.mono (by decide)) (by rfl) (pa_cons (pe_fld (pv 0) rfl) (pa_cons (pv 3) pa_nil))) rfl)
  (pss_one (ps_fld (pv 0) (pe_callB (cr_sum rfl) (by rfl) m_sum (by decide +kernel) (pa_cons (pe_lc (own := [("_", 4), ("many", 5)]) (by rfl) sc_Roll_init.nd (pi_tup (pe_fld (pv 0) rfl)) (blkOk_by (N := ["self", "options", "rows", "pairs", "_", "many"]) (sc := defScope s_Roll_init) (by decide +kernel)) (fun _ _ _ _ _ => (pg_tupK (K := K) (n := 2) rfl (by rfl) (pgs_cons (pg_name (i := 4) sc_Roll_init.nd rfl (.inl rfl)) (pgs_cons (pg_name (i := 5) sc_Roll_init.nd rfl (.inl rfl)) pgs_nil)))) (fun _ _ _ _ _ => pts_nil) (fun _ _ _ _ _ => (pv 5))) pa_nil)) rfl)))))), ?_⟩
    refine ⟨_, rfl, a, 4, zs, rfl, hQ, z1, by omega, by omega, nm, nd, fun H1 s1 => ?_⟩
    refine ⟨_, rfl, _, rfl, a, b, zs, es, ps, rfl, hQ.same s1, hB.same s1, hP.same s1, fun H2 b' s2 hB2 => ?_⟩
    have s12 := s1.trans s2
    refine ⟨_, rfl, a, zs.map vN, rfl, ?_⟩
    rcases hA with hL | ⟨ob, hU, hoc, hod⟩
    · refine .inl ⟨s12.seq hL, fun l ob nl hoc hod => ?_⟩
      have s2t := same_upd (o := .frz ob (.tup (zs.map vN))) nl
      have s3 := s12.trans s2t
      have hl3 : (upd H2 l (.frz ob (.tup (zs.map vN)))) l = some (.frz ob (.tup (zs.map vN))) := upd_same
      have hp3 := s3 _ _ hp
      generalize upd H2 l (.frz ob (.tup (zs.map vN))) = H3 at s2t s3 hl3 hp3 ⊢
      refine ⟨_, rfl, p, C, dx, [], rfl, hp3, T.cl, T.nO, by decide, ?_⟩
      have f4 : ∀ (fs : List (Str × V)) c x, H3 c = some x → c ≠ p → (upd H3 p (.ins C dx fs)) c = some x := fun fs c x e n => by rw [upd_ne n]; exact e
      have hp4 : (upd H3 p (.ins C dx (putF "options" (.ref l) []))) p = some (.ins C dx (putF "options" (.ref l) [])) := upd_same
      have hl4 := f4 (putF "options" (.ref l) []) _ _ hl3 (ne_of hl3 hp3 (by intro z; cases z))
      have hB4 : SqS K (upd H3 p (.ins C dx (putF "options" (.ref l) []))) b' (es.map V.ref) := (hB2.same s2t).ins hp3
      have hP4 : PairsAt (upd H3 p (.ins C dx (putF "options" (.ref l) []))) es ps := ⟨hP.1, fun i e he => by
        obtain ⟨q', h1, t, h2, h3⟩ := hP.2 i e he
        exact ⟨q', h1, t, f4 _ _ _ (s3 _ _ h2) (ne_of (s3 _ _ h2) hp3 (by intro z; cases z)), f4 _ _ _ (s3 _ _ h3) (ne_of (s3 _ _ h3) hp3 (by intro z; cases z))⟩⟩
      have f5 : ∀ c x, H c = some x → c ≠ p → (upd H3 p (.ins C dx (putF "options" (.ref l) []))) c = some x := fun c x e n => f4 _ c x (s3 _ _ e) n
      generalize (upd H3 p (.ins C dx (putF "options" (.ref l) [])) : Hp) = H4 at hp4 hl4 hB4 hP4 f5 ⊢
      refine ⟨_, rfl, p, C, dx, _, _, rfl, hp4, T.cl, T.nO, fldsR_o1 _, _, rfl, l, b', zs, es, ps, rfl, ⟨ob, hl4, hoc, hod⟩, hB4, hP4, nd, pl, fun q' m => ⟨b10 q' m, (hS q' m).2⟩, fun H5 t rs R nt s5 et hR isR mR r1000 => ?_⟩
      have hp5 := s5 _ _ hp4
      have hl5 := s5 _ _ hl4
      refine ⟨_, rfl, p, C, dx, _, rfl, hp5, T.cl, T.nR, Nat.lt_of_le_of_lt (putF_len _ _ _) (by decide), ?_⟩
      have f6 : ∀ (fs : List (Str × V)) c x, H5 c = some x → c ≠ p → (upd H5 p (.ins C dx fs)) c = some x := fun fs c x e n => by rw [upd_ne n]; exact e
      have hp6 : (upd H5 p (.ins C dx (putF "_rows" (.ref t) (putF "options" (.ref l) [])))) p = some (.ins C dx (putF "_rows" (.ref t) (putF "options" (.ref l) []))) := upd_same
      have hl6 := f6 (putF "_rows" (.ref t) (putF "options" (.ref l) [])) _ _ hl5 (ne_of hl5 hp5 (by intro z; cases z))
      have et6 := f6 (putF "_rows" (.ref t) (putF "options" (.ref l) [])) _ _ et (ne_of et hp5 (by intro z; cases z))
      have hR6 : PairsAt (upd H5 p (.ins C dx (putF "_rows" (.ref t) (putF "options" (.ref l) [])))) rs R := ⟨hR.1, fun i e he => by
        obtain ⟨q', h1, t, h2, h3⟩ := hR.2 i e he
        exact ⟨q', h1, t, f6 _ _ _ h2 (ne_of h2 hp5 (by intro z; cases z)), f6 _ _ _ h3 (ne_of h3 hp5 (by intro z; cases z))⟩⟩
      have f7 : ∀ c x, H c = some x → c ≠ p → (upd H5 p (.ins C dx (putF "_rows" (.ref t) (putF "options" (.ref l) [])))) c = some x := fun c x e n => f6 _ c x (s5 _ _ (f5 c x e n)) n
      generalize (upd H5 p (.ins C dx (putF "_rows" (.ref t) (putF "options" (.ref l) []))) : Hp) = H6 at hp6 hl6 et6 hR6 f7 ⊢
      refine ⟨_, rfl, p, C, dx, _, _, rfl, hp6, T.cl, T.nR, fldsR_r2 _ _, t, rfl, ⟨_, tupAt et6⟩, fun D nD => ?_⟩
      have rl : (rs.map V.ref).length = R.length := by rw [List.length_map, hR6.1]
      refine lc_tup (K := K) (a := t) (xs := rs.map V.ref) (fun i H' => H' = upd H6 D (.lst (((R.take i).map (·.2)).map V.int))) rfl (fun i H' _ e => e ▸ same_tup (same_upd nD) (tupAt et6)) (fun i v H' hx hq => ?_) (fun H' hq => ?_)
      · subst hq
        obtain ⟨e, r, rfl, _, er, t2, he, ht⟩ := pairs_at hR6 hx
        have hi : i < R.length := (List.getElem?_eq_some_iff.mp er).1
        refine ⟨_, _, rfl, tupAt ((same_upd nD) _ _ he), rfl, _, _, rfl, _, _, rfl, rfl, rfl, yesT ⟨_, rfl, _, upd_same, by rw [List.length_map, List.length_map, List.length_take]; exact Nat.lt_of_le_of_lt (show min i R.length ≤ 1000 by omega) (by decide), ?_⟩⟩
        rw [upd_twice, List.take_add_one, er, List.map_append, List.map_append]
        rfl
      · subst hq
        rw [rl, List.take_length]
        have s8 := same_upd (o := .lst ((R.map (·.2)).map V.int)) nD
        have hp8 := s8 _ _ hp6
        have f9 : ∀ (fs : List (Str × V)) c x, H6 c = some x → c ≠ p → (upd (upd H6 D (.lst ((R.map (·.2)).map V.int))) p (.ins C dx fs)) c = some x := fun fs c x e n => by rw [upd_ne n]; exact s8 _ _ e
        refine ⟨D, R.map (·.2), rfl, lstAt upd_same, _, rfl, p, C, dx, _, rfl, hp8, T.cl, T.nT, Nat.lt_of_le_of_lt (Nat.le_trans (putF_len _ _ _) (Nat.succ_le_succ (putF_len _ _ []))) (show 2 < 1000 by decide), ?_⟩
        refine q _ R ⟨dx, l, t, rs, ob, upd_same, f9 _ _ _ hl6 (ne_of hl6 hp6 (by intro z; cases z)), hoc, hod, f9 _ _ _ et6 (ne_of et6 hp6 (by intro z; cases z)), hR6.1, fun i e he => ?_⟩ isR mR fun c x e n => f9 _ c x (f7 c x e n) n
        obtain ⟨q', h1, t2, h2, h3⟩ := hR6.2 i e he
        exact ⟨q', h1, t2, f9 _ _ _ h2 (ne_of h2 hp6 (by intro z; cases z)), f9 _ _ _ h3 (ne_of h3 hp6 (by intro z; cases z))⟩
    · refine .inr ⟨.inl (.inr ⟨ob, s12 _ _ hU⟩), ?_⟩
      have s3 := s12
      have hl3 := s12 _ _ hU
      have hp3 := s3 _ _ hp
      generalize eH3 : H2 = H3 at s3 hl3 hp3 ⊢
      have s2t : Same H2 H3 := by rw [← eH3]; exact Same.refl _
      clear eH3
      refine ⟨_, rfl, p, C, dx, [], rfl, hp3, T.cl, T.nO, by decide, ?_⟩
      have f4 : ∀ (fs : List (Str × V)) c x, H3 c = some x → c ≠ p → (upd H3 p (.ins C dx fs)) c = some x := fun fs c x e n => by rw [upd_ne n]; exact e
      have hp4 : (upd H3 p (.ins C dx (putF "options" (.ref a) []))) p = some (.ins C dx (putF "options" (.ref a) [])) := upd_same
      have hl4 := f4 (putF "options" (.ref a) []) _ _ hl3 (ne_of hl3 hp3 (by intro z; cases z))
      have hB4 : SqS K (upd H3 p (.ins C dx (putF "options" (.ref a) []))) b' (es.map V.ref) := (hB2.same s2t).ins hp3
      have hP4 : PairsAt (upd H3 p (.ins C dx (putF "options" (.ref a) []))) es ps := ⟨hP.1, fun i e he => by
        obtain ⟨q', h1, t, h2, h3⟩ := hP.2 i e he
        exact ⟨q', h1, t, f4 _ _ _ (s3 _ _ h2) (ne_of (s3 _ _ h2) hp3 (by intro z; cases z)), f4 _ _ _ (s3 _ _ h3) (ne_of (s3 _ _ h3) hp3 (by intro z; cases z))⟩⟩
      have f5 : ∀ c x, H c = some x → c ≠ p → (upd H3 p (.ins C dx (putF "options" (.ref a) []))) c = some x := fun c x e n => f4 _ c x (s3 _ _ e) n
      generalize (upd H3 p (.ins C dx (putF "options" (.ref a) [])) : Hp) = H4 at hp4 hl4 hB4 hP4 f5 ⊢
      refine ⟨_, rfl, p, C, dx, _, _, rfl, hp4, T.cl, T.nO, fldsR_o1 _, _, rfl, a, b', zs, es, ps, rfl, ⟨ob, hl4, hoc, hod⟩, hB4, hP4, nd, pl, fun q' m => ⟨b10 q' m, (hS q' m).2⟩, fun H5 t rs R nt s5 et hR isR mR r1000 => ?_⟩
      have hp5 := s5 _ _ hp4
      have hl5 := s5 _ _ hl4
      refine ⟨_, rfl, p, C, dx, _, rfl, hp5, T.cl, T.nR, Nat.lt_of_le_of_lt (putF_len _ _ _) (by decide), ?_⟩
      have f6 : ∀ (fs : List (Str × V)) c x, H5 c = some x → c ≠ p → (upd H5 p (.ins C dx fs)) c = some x := fun fs c x e n => by rw [upd_ne n]; exact e
      have hp6 : (upd H5 p (.ins C dx (putF "_rows" (.ref t) (putF "options" (.ref a) [])))) p = some (.ins C dx (putF "_rows" (.ref t) (putF "options" (.ref a) []))) := upd_same
      have hl6 := f6 (putF "_rows" (.ref t) (putF "options" (.ref a) [])) _ _ hl5 (ne_of hl5 hp5 (by intro z; cases z))
      have et6 := f6 (putF "_rows" (.ref t) (putF "options" (.ref a) [])) _ _ et (ne_of et hp5 (by intro z; cases z))
      have hR6 : PairsAt (upd H5 p (.ins C dx (putF "_rows" (.ref t) (putF "options" (.ref a) [])))) rs R := ⟨hR.1, fun i e he => by
        obtain ⟨q', h1, t, h2, h3⟩ := hR.2 i e he
        exact ⟨q', h1, t, f6 _ _ _ h2 (ne_of h2 hp5 (by intro z; cases z)), f6 _ _ _ h3 (ne_of h3 hp5 (by intro z; cases z))⟩⟩
      have f7 : ∀ c x, H c = some x → c ≠ p → (upd H5 p (.ins C dx (putF "_rows" (.ref t) (putF "options" (.ref a) [])))) c = some x := fun c x e n => f6 _ c x (s5 _ _ (f5 c x e n)) n
      generalize (upd H5 p (.ins C dx (putF "_rows" (.ref t) (putF "options" (.ref a) []))) : Hp) = H6 at hp6 hl6 et6 hR6 f7 ⊢
      refine ⟨_, rfl, p, C, dx, _, _, rfl, hp6, T.cl, T.nR, fldsR_r2 _ _, t, rfl, ⟨_, tupAt et6⟩, fun D nD => ?_⟩
      have rl : (rs.map V.ref).length = R.length := by rw [List.length_map, hR6.1]
      refine lc_tup (K := K) (a := t) (xs := rs.map V.ref) (fun i H' => H' = upd H6 D (.lst (((R.take i).map (·.2)).map V.int))) rfl (fun i H' _ e => e ▸ same_tup (same_upd nD) (tupAt et6)) (fun i v H' hx hq => ?_) (fun H' hq => ?_)
      · subst hq
        obtain ⟨e, r, rfl, _, er, t2, he, ht⟩ := pairs_at hR6 hx
        have hi : i < R.length := (List.getElem?_eq_some_iff.mp er).1
        refine ⟨_, _, rfl, tupAt ((same_upd nD) _ _ he), rfl, _, _, rfl, _, _, rfl, rfl, rfl, yesT ⟨_, rfl, _, upd_same, by rw [List.length_map, List.length_map, List.length_take]; exact Nat.lt_of_le_of_lt (show min i R.length ≤ 1000 by omega) (by decide), ?_⟩⟩
        rw [upd_twice, List.take_add_one, er, List.map_append, List.map_append]
        rfl
      · subst hq
        rw [rl, List.take_length]
        have s8 := same_upd (o := .lst ((R.map (·.2)).map V.int)) nD
        have hp8 := s8 _ _ hp6
        have f9 : ∀ (fs : List (Str × V)) c x, H6 c = some x → c ≠ p → (upd (upd H6 D (.lst ((R.map (·.2)).map V.int))) p (.ins C dx fs)) c = some x := fun fs c x e n => by rw [upd_ne n]; exact s8 _ _ e
        refine ⟨D, R.map (·.2), rfl, lstAt upd_same, _, rfl, p, C, dx, _, rfl, hp8, T.cl, T.nT, Nat.lt_of_le_of_lt (Nat.le_trans (putF_len _ _ _) (Nat.succ_le_succ (putF_len _ _ []))) (show 2 < 1000 by decide), ?_⟩
        refine q _ R ⟨dx, a, t, rs, ob, upd_same, f9 _ _ _ hl6 (ne_of hl6 hp6 (by intro z; cases z)), hoc, hod, f9 _ _ _ et6 (ne_of et6 hp6 (by intro z; cases z)), hR6.1, fun i e he => ?_⟩ isR mR fun c x e n => f9 _ c x (f7 c x e n) n
        obtain ⟨q', h1, t2, h2, h3⟩ := hR6.2 i e he
        exact ⟨q', h1, t2, f9 _ _ _ h2 (ne_of h2 hp6 (by intro z; cases z)), f9 _ _ _ h3 (ne_of h3 hp6 (by intro z; cases z))⟩
end
end TK

/-! what a roll tells -/
namespace TK
open PySem PySem.Spec PyProof.Rows L2
theorem nmH_ok {l : List Nat} (h : NmH l) : PyData.strOk (sOf l) = true := by
  show (sOf l).cps.all (· < 0x110000) = true
  rw [← Array.all_toList, sOf_codes, List.all_eq_true]
  intro c hc
  rcases h with h | rfl
  · have := h.2.2 c hc
    exact decide_eq_true (by omega)
  · cases hc
theorem namesH_dp {K : PySem.W.Frag} {H : Hp} : ∀ {zs : List (List Nat)}, (∀ z ∈ zs, NmH z) → DpAll K H (zs.map vN) (zs.map fun z => PyData.str (sOf z)) ∧ PyData.canLayAll0 (zs.map fun z => PyData.str (sOf z)) = true ∧ PyData.depthAll (zs.map fun z => PyData.str (sOf z)) ≤ 1
  | [], _ => ⟨.nil, by simp [PyData.canLayAll0], by simp [PyData.depthAll]⟩
  | z :: zs, ok => by
    obtain ⟨h1, h3, h4⟩ := namesH_dp (K := K) (H := H) (zs := zs) fun c hc => ok c (List.mem_cons_of_mem _ hc)
    refine ⟨.cons (.str _) h1, ?_, ?_⟩
    · simp only [List.map_cons, PyData.canLayAll0, PyData.canLay0, Bool.and_eq_true]
      exact ⟨nmH_ok (ok z (List.mem_cons_self ..)), h3⟩
    · simp only [List.map_cons, PyData.depthAll, PyData.depth]
      omega
theorem nmT_lay {ds : List PyData} (h3 : PyData.canLayAll0 ds = true) : (PyData.tuple ds).canLay0 = true := by simp only [PyData.canLay0, h3]
theorem nmT_shape {ds : List PyData} (h3 : PyData.canLayAll0 ds = true) (h4 : PyData.depthAll ds ≤ 1) : SeqAt.shaped (.tuple ds) = true := by
  show ((PyData.tuple ds).canLay0 && decide ((PyData.tuple ds).depth ≤ 64)) = true
  rw [nmT_lay h3, show (PyData.tuple ds).depth = PyData.depthAll ds + 1 by simp only [PyData.depth]]
  exact decide_eq_true (by omega)
theorem eqv_nms : ∀ zs us : List Nam, PyData.eqvAll (zs.map fun z => PyData.str (sOf z)) (us.map fun z => PyData.str (sOf z)) = decide (zs = us)
  | [], [] => by simp [PyData.eqvAll]
  | [], q :: qs => by simp [PyData.eqvAll]
  | o :: os, [] => by simp [PyData.eqvAll]
  | o :: os, q :: qs => by
    simp only [List.map_cons, PyData.eqvAll, PyData.eqv]
    rw [eqv_nms os qs]
    by_cases h1 : o = q
    · subst h1
      by_cases h2 : os = qs <;> simp [h2]
    · have : (sOf o == sOf q) = false := by
        cases e : (sOf o == sOf q) with
        | false => rfl
        | true => exact absurd (sOf_inj (eq_of_beq e)) h1
      simp [h1, this]
theorem eqv_nmT (zs us : List Nam) : PyData.eqv (.tuple (zs.map fun z => PyData.str (sOf z))) (.tuple (us.map fun z => PyData.str (sOf z))) = decide (zs = us) := by
  simp only [PyData.eqv]
  exact eqv_nms zs us
abbrev s_Roll_len : Stmt := inClass (topS 32) 6
theorem sc_Roll_len : FnScope ["self"] ["self"] (defScope s_Roll_len) := ⟨rfl, rfl, rfl, by decide +kernel, rfl, by decide +kernel, by decide +kernel⟩
abbrev s_Roll_iter : Stmt := inClass (topS 32) 7
theorem sc_Roll_iter : FnScope ["self"] ["self"] (defScope s_Roll_iter) := ⟨rfl, rfl, rfl, by decide +kernel, rfl, by decide +kernel, by decide +kernel⟩
abbrev s_Roll_getitem : Stmt := inClass (topS 32) 5
theorem sc_Roll_getitem : FnScope ["self", "at", "ballot", "many"] ["self", "at"] (defScope s_Roll_getitem) := ⟨rfl, rfl, rfl, by decide +kernel, rfl, by decide +kernel, by decide +kernel⟩
/-- how many there are of a ballot -/
def tkR (R : List BRow) (b : List Nam) : List Int := (R.filter fun r => decide (r.1 = b)).map (·.2)
def timesR (R : List BRow) (b : List Nam) : Int := (tkR R b).sum
theorem tkR_snoc {R : List BRow} {i : Nat} {r : BRow} (h : R[i]? = some r) (b : List Nam) : tkR (R.take (i + 1)) b = tkR (R.take i) b ++ if r.1 = b then [r.2] else [] := by
  unfold tkR
  rw [List.take_add_one, h, List.filter_append, List.map_append]
  congr 1
  by_cases e : r.1 = b <;> simp [e]
theorem tkR_len (R : List BRow) (b : List Nam) : (tkR R b).length ≤ R.length := by
  unfold tkR
  rw [List.length_map]
  exact List.length_filter_le _ _
section
variable {P : Program} {w : World} {K : PySem.W.Frag} {mg : Str → Option Value} {base : Heap}
/-! Roll.__iter__ -/
def RRo (K : PySem.W.Frag) (C : Addr) (a t : Addr) (H : Hp) : Prop := ∃ dx b n xs, H a = some (.ins C dx (fldsR b t n)) ∧ SqT K H t xs
theorem ok_Roll_iter {f C : Addr} {fd : FuncData} (F : Fun K "__iter__" "Roll.__iter__" s_Roll_iter f fd) (b : Binds K fd ["self"] []) (T : TxtR K C) (m_iter : mg "iter" = none) : FnIt P w K mg base 1 f (RRo K C) := by
  refine fnIt_of (k := 0) F sc_Roll_iter b fun cdv A outer s H a t hr hR => ?_
  obtain ⟨dx, b, n, xs, ha, ht⟩ := hR
  refine ⟨_, PSs.nox (pss_one (ps_ret (pe_callB call_iterT (by rfl) m_iter (by decide +kernel) (pa_cons (pe_fld (pv 0) rfl) pa_nil)))), ?_⟩
  exact ⟨_, rfl, a, C, dx, _, _, rfl, ha, T.cl, T.nR, fldsR_rows _ _ _, t, xs, rfl, ht, fun it hn hs => ⟨it, rfl, hn, hs, rfl⟩⟩
/-! len of a roll -/
def spLenR (C : Addr) : Sp := fun vs H Q _ => ∃ (p : Addr) (zs : List Nam) (R : List BRow), vs = [.ref p] ∧ RoAt C H p zs R ∧ Q (.int ((R.length : Nat) : Int)) H
theorem ok_Roll_len {f C : Addr} {fd : FuncData} (F : Fun K "__len__" "Roll.__len__" s_Roll_len f fd) (T : TxtR K C) (m_len : mg "len" = none) : FnOk P w K mg base CX0 1 f fd ["self"] (spLenR C) := by
  refine F.ok sc_Roll_len (fun vs H Q E h => ?_) (fun cdv A outer s H vs Q E hr h => ?_)
  · obtain ⟨p, zs, R, rfl, _⟩ := h
    rfl
  · obtain ⟨p, zs, R, rfl, ⟨dx, a, t, rs, o, hp, _, _, _, ht, hR⟩, q⟩ := h
    refine ⟨_, (pss_one (ps_ret (pe_callB call_len_seq (by rfl) m_len (by decide +kernel) (pa_cons (pe_fld (pv 0) rfl) pa_nil)))), ?_⟩
    refine ⟨_, rfl, p, C, dx, _, _, rfl, hp, T.cl, T.nR, fldsR_rows _ _ _, t, _, rfl, .inr (tupAt ht), ?_⟩
    rw [List.length_map, hR.1]
    exact q
/-! roll[ballot] -/
def spGetR (C : Addr) : Sp := fun vs H Q _ => ∃ (p x : Addr) (zs : List Nam) (R : List BRow) (b : List Nam), vs = [.ref p, .ref x] ∧ RoAt C H p zs R ∧ R.length ≤ 1000 ∧ (∀ r ∈ R, ∀ z ∈ r.1, NmH z) ∧ H x = some (.tup (b.map vN)) ∧ (∀ z ∈ b, NmH z) ∧ ∀ H', Same H H' → Q (.int (timesR R b)) H'
theorem ok_Roll_getitem {f C : Addr} {fd : FuncData} (F : Fun K "__getitem__" "Roll.__getitem__" s_Roll_getitem f fd) (T : TxtR K C) (m_sum : mg "sum" = none) : FnOk P w K mg base CX0 1 f fd ["self", "at"] (spGetR C) := by
  refine F.ok sc_Roll_getitem (fun vs H Q E h => ?_) (fun cdv A outer s H vs Q E hr h => ?_)
  · obtain ⟨p, x, zs, R, b, rfl, _⟩ := h
    rfl
  · obtain ⟨p, x, zs, R, b, rfl, ⟨dx, a, t, rs, o, hp, _, _, _, ht, hR⟩, r1000, hn, hx, hb, q⟩ := h
    refine ⟨_, (pss_one (ps_ret (pe_callB (cr_sum rfl) (by rfl) m_sum (by decide +kernel) (pa_cons (pe_lc (own := [("ballot", 2), ("many", 3)]) (by rfl) sc_Roll_getitem.nd (pi_tup (pe_fld (pv 0) rfl)) (blkOk_by (N := ["self", "at", "ballot", "many"]) (sc := defScope s_Roll_getitem) (by decide +kernel)) (fun _ _ _ _ _ => (pg_tupK (K := K) (n := 2) rfl (by rfl) (pgs_cons (pg_name (i := 2) sc_Roll_getitem.nd rfl (.inl rfl)) (pgs_cons (pg_name (i := 3) sc_Roll_getitem.nd rfl (.inl rfl)) pgs_nil)))) (fun _ _ _ _ _ => (pts_one (pt_cmpR (op_eqDK (K := K) rfl hr.units) (pv 2) (pv 1) (nomark _)))) (fun _ _ _ _ _ => (pv 3))) pa_nil)))), ?_⟩
    refine ⟨_, rfl, p, C, dx, _, _, rfl, hp, T.cl, T.nR, fldsR_rows _ _ _, t, rfl, ⟨_, tupAt ht⟩, fun D nD => ?_⟩
    have rl : (rs.map V.ref).length = R.length := by rw [List.length_map, hR.1]
    refine lc_tup (K := K) (a := t) (xs := rs.map V.ref) (fun i H' => H' = upd H D (.lst ((tkR (R.take i) b).map V.int))) rfl (fun i H' _ e => e ▸ same_tup (same_upd nD) (tupAt ht)) (fun i v H' hx2 hq => ?_) (fun H' hq => ?_)
    · subst hq
      obtain ⟨e, r, rfl, _, er, t2, he, ht2⟩ := pairs_at hR hx2
      have hi : i < R.length := (List.getElem?_eq_some_iff.mp er).1
      have s1 := same_upd (o := .lst ((tkR (R.take i) b).map V.int)) nD
      obtain ⟨d1, d3, d4⟩ := namesH_dp (K := K) (H := upd H D (.lst ((tkR (R.take i) b).map V.int))) (hn r (List.mem_of_getElem? er))
      obtain ⟨d1', d3', d4'⟩ := namesH_dp (K := K) (H := upd H D (.lst ((tkR (R.take i) b).map V.int))) hb
      refine ⟨_, _, rfl, tupAt (s1 _ _ he), rfl, _, _, rfl, _, _, rfl, rfl, rfl, _, rfl, _, rfl, .tuple _, .tuple _, .tup (tupAt (s1 _ _ ht2)) d1, .tup (tupAt (s1 _ _ hx)) d1', nmT_shape d3 d4, nmT_shape d3' d4', _, rfl, ?_⟩
      rw [eqv_nmT, tkR_snoc er]
      by_cases h : r.1 = b
      · rw [decide_eq_true h, if_pos h]
        refine iteT ⟨_, rfl, _, upd_same, ?_, ?_⟩
        · have h1 := tkR_len (R.take i) b
          rw [List.length_take] at h1
          rw [List.length_map]
          exact Nat.lt_of_le_of_lt (show _ ≤ 1000 by omega) (by decide)
        · rw [upd_twice, List.map_append]
          rfl
      · rw [decide_eq_false h, if_neg h, List.append_nil]
        exact iteF rfl
    · subst hq
      rw [rl, List.take_length]
      exact ⟨D, _, rfl, lstAt upd_same, q _ (same_upd nD)⟩
end
end TK

/-! rolls added -/
namespace TK
open PySem PySem.Spec PyProof.Rows L2
abbrev s_SumRows_init : Stmt := inClass (topS 28) 0
theorem sc_SumRows_init : FnScope ["self", "pairs"] ["self", "pairs"] (defScope s_SumRows_init) := ⟨rfl, rfl, rfl, by decide +kernel, rfl, by decide +kernel, by decide +kernel⟩
abbrev s_Roll_add : Stmt := inClass (topS 32) 2
theorem sc_Roll_add : FnScope ["self", "other"] ["self", "other"] (defScope s_Roll_add) := ⟨rfl, rfl, rfl, by decide +kernel, rfl, by decide +kernel, by decide +kernel⟩
theorem PairsAt.app {H : Hp} {es fs : List Addr} {ps qs : List BRow} (h : PairsAt H es ps) (k : PairsAt H fs qs) : PairsAt H (es ++ fs) (ps ++ qs) := by
  refine ⟨by rw [List.length_append, List.length_append, h.1, k.1], fun i e he => ?_⟩
  by_cases hi : i < es.length
  · rw [List.getElem?_append_left hi] at he
    obtain ⟨t, h1, h2⟩ := h.2 i e he
    exact ⟨t, by rw [List.getElem?_append_left (by rw [← h.1]; exact hi)]; exact h1, h2⟩
  · rw [List.getElem?_append_right (by omega)] at he
    obtain ⟨t, h1, h2⟩ := k.2 _ e he
    exact ⟨t, by rw [List.getElem?_append_right (by rw [← h.1]; omega), ← h.1]; exact h1, h2⟩
section
variable {P : Program} {w : World} {K : PySem.W.Frag} {mg : Str → Option Value} {base : Heap}
/-! SumRows.__init__ -/
def spInitS (C : Addr) : Sp := fun vs H Q _ => ∃ (p b dx : Addr) (xs : List V), vs = [.ref p, .ref b] ∧ H p = some (.ins C dx []) ∧ H b = some (.tup xs) ∧ ∀ H' dx', H' p = some (.ins C dx' (fldsS b)) → (∀ c o, H c = some o → c ≠ p → H' c = some o) → Q .non H'
theorem ok_SumRows {f C : Addr} {fd : FuncData} (F : Fun K "__init__" "SumRows.__init__" s_SumRows_init f fd) (T : TxtS K C) (m_tuple : mg "tuple" = none) : FnOk P w K mg base CX0 1 f fd ["self", "pairs"] (spInitS C) := by
  refine F.ok sc_SumRows_init (fun vs H Q E h => ?_) (fun cdv A outer s H vs Q E hr h => ?_)
  · obtain ⟨p, b, dx, xs, rfl, _⟩ := h
    rfl
  · obtain ⟨p, b, dx, xs, rfl, hp, hb, q⟩ := h
    refine ⟨_, (pss_one (ps_fld (pv 0) (pe_callTy call_tuple_of (by rfl) m_tuple (by decide +kernel) (pa_cons (pv 1) pa_nil)) rfl)), ?_⟩
    refine ⟨_, rfl, b, xs, rfl, .inr ⟨tupAt hb, _, rfl, p, C, dx, [], rfl, hp, T.cl, T.nP, by decide, ?_⟩⟩
    exact q _ dx upd_same fun c o e n => by rw [upd_ne n]; exact e
/-! roll + roll -/
def spAddR (C : Addr) : Sp := fun vs H Q _ => ∃ (p p' : Addr) (zs : List Nam) (R R' : List BRow), vs = [.ref p, .ref p'] ∧ RoAt C H p zs R ∧ RoAt C H p' zs R' ∧ (∀ z ∈ zs, Nm z) ∧ zs.Nodup ∧ 1 ≤ zs.length ∧ zs.length ≤ 4 ∧ R.length ≤ 500 ∧ R'.length ≤ 500 ∧
  (∀ p ∈ R, p.1.Nodup ∧ ∀ x ∈ p.1, x ∈ zs) ∧ (∀ p ∈ R', p.1.Nodup ∧ ∀ x ∈ p.1, x ∈ zs) ∧
  ∀ H' r R6, H r = none → Same H H' → RoAt C H' r zs R6 → IsRows (R6.map fun r => (plOf zs r.1, r.2)) ((R ++ R').map fun p => (plOf zs p.1, p.2)) → (∀ r ∈ R6, ∃ p ∈ R ++ R', r.1 = p.1) → Q (.ref r) H'
theorem ok_Roll_add {f C CS fI fS : Addr} {fd fdI fdS : FuncData} (F : Fun K "__add__" "Roll.__add__" s_Roll_add f fd) (T : TxtR K C) (M_Roll : Mk K C fI) (G_Roll : FnOk P w K mg base CX0 3 fI fdI ["self", "options", "rows"] (spInitR K C CS)) (mg_Roll : mg "Roll" = some (.ref C)) (b_Roll : Binds K fdI ["self", "options", "rows"] [])
    (M_SumRows : Mk K CS fS) (G_SumRows : FnOk P w K mg base CX0 1 fS fdS ["self", "pairs"] (spInitS CS)) (mg_SumRows : mg "SumRows" = some (.ref CS)) (b_SumRows : Binds K fdS ["self", "pairs"] []) : FnOk P w K mg base CX0 5 f fd ["self", "other"] (spAddR C) := by
  refine F.ok sc_Roll_add (fun vs H Q E h => ?_) (fun cdv A outer s H vs Q E hr h => ?_)
  · obtain ⟨p, p', zs, R, R', rfl, _⟩ := h
    rfl
  · obtain ⟨p, p', zs, R, R', rfl, ⟨dx, a, t, rs, o, hp, ha, hoc, hod, ht, hR⟩, ⟨dx', a', t', rs', o', hp', ha', hoc', hod', ht', hR'⟩, nm, nd, z1, z4, r5, r5', hS, hS', q⟩ := h
    refine ⟨_, PSs.nox (pss_cons (ps_if (pt_cmpR (op_neD hr.units) (pe_fld (pv 0) rfl) (pe_fld (pv 1) rfl) (nomark _)) (pss_one ps_never) pss_nil)
  (pss_one (ps_ret (pe_make M_Roll G_Roll (hr.mono (by decide)) (by rfl) mg_Roll b_Roll .nil pass0 (pa_cons (pe_fld (pv 0) rfl) (pa_cons (pe_make M_SumRows G_SumRows (hr.mono (by decide)) (by rfl) mg_SumRows b_SumRows .nil pass0 (pa_cons (pe_op op_catA (pe_fld (pv 0) rfl) (pe_fld (pv 1) rfl)) pa_nil)) pa_nil)))))), ?_⟩
    obtain ⟨d1, d3, d4⟩ := namesH_dp (K := K) (H := H) (zs := zs) fun z m => .inl (nm z m)
    refine ⟨_, rfl, p, C, dx, _, _, rfl, hp, T.cl, T.nO, fldsR_options _ _ _, _, rfl, p', C, dx', _, _, rfl, hp', T.cl, T.nO, fldsR_options _ _ _, .tuple _, .tuple _, .tup (.inl (.inr ⟨o, ha⟩)) d1, .tup (.inl (.inr ⟨o', ha'⟩)) d1, nmT_shape d3 d4, nmT_shape d3 d4, _, rfl, ?_⟩
    rw [eqv_nmT, decide_eq_true rfl]
    refine iteF ?_
    have l1 : (rs.map V.ref).length = R.length := by rw [List.length_map, hR.1]
    have l2 : (rs'.map V.ref).length = R'.length := by rw [List.length_map, hR'.1]
    refine ⟨_, rfl, p, C, dx, _, _, rfl, hp, T.cl, T.nO, fldsR_options _ _ _, _, rfl, p, C, dx, _, _, rfl, hp, T.cl, T.nR, fldsR_rows _ _ _, _, rfl, p', C, dx', _, _, rfl, hp', T.cl, T.nR, fldsR_rows _ _ _, t, t', _, _, rfl, rfl, tupAt ht, tupAt ht', ?_, ?_, ?_, ?_⟩
    · exact Nat.le_of_lt (Nat.lt_of_le_of_lt (show _ ≤ 1000 by omega) (by decide))
    · intro e
      have e0 : rs.map V.ref = [] := e
      obtain ⟨H3, eH3⟩ : ∃ H3, H3 = H := ⟨_, rfl⟩
      rw [← eH3]
      have s3 : Same H H3 := by rw [eH3]; exact Same.refl _
      obtain ⟨tt, ett0⟩ : ∃ tt, tt = t' := ⟨_, rfl⟩
      rw [← ett0]
      have ett : H3 tt = some (.tup ((rs ++ rs').map V.ref)) := by rw [eH3, ett0, List.map_append, e0]; exact ht'
      intro q1 d1 n1 n2 ne1
      have sd := same_upd (o := .own q1) n2
      have nq : (upd H3 d1 (.own q1)) q1 = none := by rw [upd_ne ne1.symm]; exact n1
      have sm := sd.trans (same_upd (o := .ins CS d1 []) nq)
      refine ⟨q1, tt, d1, _, rfl, upd_same, sm _ _ ett, fun H4 dq eq4 f4 => ⟨rfl, ?_⟩⟩
      have s4 : Same H3 H4 := fun c o e => f4 c o (sm _ _ e) (ne_of_none e n1)
      intro q2 d2 n3 n4 ne2
      have sd2 := same_upd (o := .own q2) n4
      have nq2 : (upd H4 d2 (.own q2)) q2 = none := by rw [upd_ne ne2.symm]; exact n3
      have sm2 := sd2.trans (same_upd (o := .ins C d2 []) nq2)
      have s5 := (s3.trans s4).trans sm2
      refine ⟨q2, a, q1, d2, zs, rs ++ rs', R ++ R', rfl, upd_same, .inr ⟨o, s5 _ _ ha, hoc, hod⟩, .inr ⟨dq, tt, sm2 _ _ eq4, sm2 _ _ (s4 _ _ ett)⟩, (PairsAt.app hR hR').same s5, by rw [List.length_append]; omega, nm, nd, z1, z4, fun r m => (List.mem_append.mp m).elim (hS r) (hS' r), fun H6 R6 ro isR mR f6 => ⟨rfl, q H6 q2 R6 (none_of (s3.trans s4) n3) (fun c x e => f6 c x (s5 _ _ e) (ne_of_none ((s3.trans s4) _ _ e) n3)) ro isR mR⟩⟩
    · intro _ e
      have e0 : rs'.map V.ref = [] := e
      obtain ⟨H3, eH3⟩ : ∃ H3, H3 = H := ⟨_, rfl⟩
      rw [← eH3]
      have s3 : Same H H3 := by rw [eH3]; exact Same.refl _
      obtain ⟨tt, ett0⟩ : ∃ tt, tt = t := ⟨_, rfl⟩
      rw [← ett0]
      have ett : H3 tt = some (.tup ((rs ++ rs').map V.ref)) := by rw [eH3, ett0, List.map_append, e0, List.append_nil]; exact ht
      intro q1 d1 n1 n2 ne1
      have sd := same_upd (o := .own q1) n2
      have nq : (upd H3 d1 (.own q1)) q1 = none := by rw [upd_ne ne1.symm]; exact n1
      have sm := sd.trans (same_upd (o := .ins CS d1 []) nq)
      refine ⟨q1, tt, d1, _, rfl, upd_same, sm _ _ ett, fun H4 dq eq4 f4 => ⟨rfl, ?_⟩⟩
      have s4 : Same H3 H4 := fun c o e => f4 c o (sm _ _ e) (ne_of_none e n1)
      intro q2 d2 n3 n4 ne2
      have sd2 := same_upd (o := .own q2) n4
      have nq2 : (upd H4 d2 (.own q2)) q2 = none := by rw [upd_ne ne2.symm]; exact n3
      have sm2 := sd2.trans (same_upd (o := .ins C d2 []) nq2)
      have s5 := (s3.trans s4).trans sm2
      refine ⟨q2, a, q1, d2, zs, rs ++ rs', R ++ R', rfl, upd_same, .inr ⟨o, s5 _ _ ha, hoc, hod⟩, .inr ⟨dq, tt, sm2 _ _ eq4, sm2 _ _ (s4 _ _ ett)⟩, (PairsAt.app hR hR').same s5, by rw [List.length_append]; omega, nm, nd, z1, z4, fun r m => (List.mem_append.mp m).elim (hS r) (hS' r), fun H6 R6 ro isR mR f6 => ⟨rfl, q H6 q2 R6 (none_of (s3.trans s4) n3) (fun c x e => f6 c x (s5 _ _ e) (ne_of_none ((s3.trans s4) _ _ e) n3)) ro isR mR⟩⟩
    · intro _ _ tt ntt
      have s3 := same_upd (o := .tup (rs.map V.ref ++ rs'.map V.ref)) ntt
      have ett : (upd H tt (.tup (rs.map V.ref ++ rs'.map V.ref))) tt = some (.tup ((rs ++ rs').map V.ref)) := by rw [List.map_append]; exact upd_same
      generalize upd H tt (.tup (rs.map V.ref ++ rs'.map V.ref)) = H3 at s3 ett ⊢
      intro q1 d1 n1 n2 ne1
      have sd := same_upd (o := .own q1) n2
      have nq : (upd H3 d1 (.own q1)) q1 = none := by rw [upd_ne ne1.symm]; exact n1
      have sm := sd.trans (same_upd (o := .ins CS d1 []) nq)
      refine ⟨q1, tt, d1, _, rfl, upd_same, sm _ _ ett, fun H4 dq eq4 f4 => ⟨rfl, ?_⟩⟩
      have s4 : Same H3 H4 := fun c o e => f4 c o (sm _ _ e) (ne_of_none e n1)
      intro q2 d2 n3 n4 ne2
      have sd2 := same_upd (o := .own q2) n4
      have nq2 : (upd H4 d2 (.own q2)) q2 = none := by rw [upd_ne ne2.symm]; exact n3
      have sm2 := sd2.trans (same_upd (o := .ins C d2 []) nq2)
      have s5 := (s3.trans s4).trans sm2
      refine ⟨q2, a, q1, d2, zs, rs ++ rs', R ++ R', rfl, upd_same, .inr ⟨o, s5 _ _ ha, hoc, hod⟩, .inr ⟨dq, tt, sm2 _ _ eq4, sm2 _ _ (s4 _ _ ett)⟩, (PairsAt.app hR hR').same s5, by rw [List.length_append]; omega, nm, nd, z1, z4, fun r m => (List.mem_append.mp m).elim (hS r) (hS' r), fun H6 R6 ro isR mR f6 => ⟨rfl, q H6 q2 R6 (none_of (s3.trans s4) n3) (fun c x e => f6 c x (s5 _ _ e) (ne_of_none ((s3.trans s4) _ _ e) n3)) ro isR mR⟩⟩
end
end TK

/-! x in roll, roll == x -/
namespace TK
open PySem PySem.Spec PyProof.Rows L2
abbrev s_Roll_eq : Stmt := inClass (topS 32) 3
theorem sc_Roll_eq : FnScope ["self", "other"] ["self", "other"] (defScope s_Roll_eq) := ⟨rfl, rfl, rfl, by decide +kernel, rfl, by decide +kernel, by decide +kernel⟩
abbrev s_Roll_contains : Stmt := inClass (topS 32) 4
theorem sc_Roll_contains : FnScope ["self", "x", "ballot", "_"] ["self", "x"] (defScope s_Roll_contains) := ⟨rfl, rfl, rfl, by decide +kernel, rfl, by decide +kernel, by decide +kernel⟩
/-! rows as data -/
def dN (z : Nam) : PyData := .str (sOf z)
def dP (r : BRow) : PyData := .tuple [.tuple (r.1.map fun z => PyData.str (sOf z)), .int r.2]
theorem pairs_dp {K : PySem.W.Frag} {H : Hp} : ∀ {es : List Addr} {ps : List BRow}, PairsAt H es ps → (∀ r ∈ ps, ∀ z ∈ r.1, NmH z) → DpAll K H (es.map V.ref) (ps.map dP)
  | [], [], _, _ => .nil
  | [], o :: os, h, _ => by cases h.1
  | t :: ts, [], h, _ => by cases h.1
  | t :: ts, o :: os, h, n => by
    obtain ⟨o', h1, t2, h2, h3⟩ := h.2 0 t rfl
    cases Option.some.inj h1
    exact .cons (.tup (tupAt h2) (.cons (.tup (tupAt h3) (namesH_dp (n o List.mem_cons_self)).1) (.cons (.int _) .nil))) (pairs_dp ⟨Nat.succ.inj h.1, fun i t' a => h.2 (i + 1) t' a⟩ fun r m => n r (List.mem_cons_of_mem _ m))
theorem pairs_lay : ∀ {ps : List BRow}, (∀ r ∈ ps, ∀ z ∈ r.1, NmH z) → PyData.canLayAll0 (ps.map dP) = true ∧ PyData.depthAll (ps.map dP) ≤ 3
  | [], _ => ⟨by simp [PyData.canLayAll0], by simp [PyData.depthAll]⟩
  | o :: os, h => by
    obtain ⟨h1, h2⟩ := pairs_lay (ps := os) fun t m => h t (List.mem_cons_of_mem _ m)
    obtain ⟨_, d3, d4⟩ := namesH_dp (K := []) (H := fun _ => none) (h o List.mem_cons_self)
    refine ⟨?_, ?_⟩
    · simp only [List.map_cons, PyData.canLayAll0, Bool.and_eq_true]
      exact ⟨by simp [dP, PyData.canLay0, PyData.canLayAll0, d3], h1⟩
    · simp only [List.map_cons, PyData.depthAll]
      have : (dP o).depth ≤ 3 := by simp [dP, PyData.depth, PyData.depthAll]; omega
      omega
theorem shape_pairsT {ps : List BRow} (h : ∀ r ∈ ps, ∀ z ∈ r.1, NmH z) : SeqAt.shaped (.tuple (ps.map dP)) = true := by
  obtain ⟨h1, h2⟩ := pairs_lay h
  show ((PyData.tuple _).canLay0 && decide ((PyData.tuple _).depth ≤ 64)) = true
  rw [show (PyData.tuple (ps.map dP)).canLay0 = true by simp only [PyData.canLay0, h1], show (PyData.tuple (ps.map dP)).depth = PyData.depthAll (ps.map dP) + 1 by simp only [PyData.depth]]
  exact decide_eq_true (by omega)
theorem eqv_dP (o q : BRow) : PyData.eqv (dP o) (dP q) = decide (o = q) := by
  obtain ⟨a, c⟩ := o
  obtain ⟨a', c'⟩ := q
  simp only [dP, PyData.eqv, PyData.eqvAll, Bool.and_true, Prod.mk.injEq, Bool.decide_and]
  rw [eqv_nms]
  by_cases e : c = c' <;> simp [e]
theorem eqv_rows : ∀ os qs : List BRow, PyData.eqvAll (os.map dP) (qs.map dP) = decide (os = qs)
  | [], [] => by simp [PyData.eqvAll]
  | [], q :: qs => by simp [PyData.eqvAll]
  | o :: os, [] => by simp [PyData.eqvAll]
  | o :: os, q :: qs => by
    simp only [List.map_cons, PyData.eqvAll]
    rw [eqv_rows os qs, eqv_dP]
    by_cases h1 : o = q <;> by_cases h2 : os = qs <;> simp [h1, h2]
section
variable {P : Program} {w : World} {K : PySem.W.Frag} {mg : Str → Option Value} {base : Heap}
/-! x in roll -/
def hasR (R : List BRow) (b : List Nam) : List Bool := R.map fun r => decide (r.1 = b)
def spInR (C : Addr) : Sp := fun vs H Q _ => ∃ (p x : Addr) (zs : List Nam) (R : List BRow) (b : List Nam), vs = [.ref p, .ref x] ∧ RoAt C H p zs R ∧ R.length ≤ 1000 ∧ (∀ r ∈ R, ∀ z ∈ r.1, NmH z) ∧ H x = some (.tup (b.map vN)) ∧ (∀ z ∈ b, NmH z) ∧ ∀ H', Same H H' → Q (.bl ((hasR R b).any id)) H'
theorem ok_Roll_contains {f C : Addr} {fd : FuncData} (F : Fun K "__contains__" "Roll.__contains__" s_Roll_contains f fd) (T : TxtR K C) (m_any : mg "any" = none) : FnOk P w K mg base CX0 1 f fd ["self", "x"] (spInR C) := by
  refine F.ok sc_Roll_contains (fun vs H Q E h => ?_) (fun cdv A outer s H vs Q E hr h => ?_)
  · obtain ⟨p, x, zs, R, b, rfl, _⟩ := h
    rfl
  · obtain ⟨p, x, zs, R, b, rfl, ⟨dx, a, t, rs, o, hp, _, _, _, ht, hR⟩, r1000, hn, hx, hb, q⟩ := h
    refine ⟨_, (pss_one (ps_ret (pe_callB (cr_any rfl) (by rfl) m_any (by decide +kernel) (pa_cons (pe_lc (own := [("ballot", 2), ("_", 3)]) (by rfl) sc_Roll_contains.nd (pi_tup (pe_fld (pv 0) rfl)) (blkOk_by (N := ["self", "x", "ballot", "_"]) (sc := defScope s_Roll_contains) (by decide +kernel)) (fun _ _ _ _ _ => (pg_tupK (K := K) (n := 2) rfl (by rfl) (pgs_cons (pg_name (i := 2) sc_Roll_contains.nd rfl (.inl rfl)) (pgs_cons (pg_name (i := 3) sc_Roll_contains.nd rfl (.inl rfl)) pgs_nil)))) (fun _ _ _ _ _ => pts_nil) (fun _ _ _ _ _ => (pe_cmpR (op_eqDK (K := K) rfl hr.units) (pv 2) (pv 1) (nomark _)))) pa_nil)))), ?_⟩
    refine ⟨_, rfl, p, C, dx, _, _, rfl, hp, T.cl, T.nR, fldsR_rows _ _ _, t, rfl, ⟨_, tupAt ht⟩, fun D nD => ?_⟩
    have rl : (rs.map V.ref).length = R.length := by rw [List.length_map, hR.1]
    refine lc_tup (K := K) (a := t) (xs := rs.map V.ref) (fun i H' => H' = upd H D (.lst ((hasR (R.take i) b).map V.bl))) rfl (fun i H' _ e => e ▸ same_tup (same_upd nD) (tupAt ht)) (fun i v H' hx2 hq => ?_) (fun H' hq => ?_)
    · subst hq
      obtain ⟨e, r, rfl, _, er, t2, he, ht2⟩ := pairs_at hR hx2
      have hi : i < R.length := (List.getElem?_eq_some_iff.mp er).1
      have s1 := same_upd (o := .lst ((hasR (R.take i) b).map V.bl)) nD
      obtain ⟨d1, d3, d4⟩ := namesH_dp (K := K) (H := upd H D (.lst ((hasR (R.take i) b).map V.bl))) (hn r (List.mem_of_getElem? er))
      obtain ⟨d1', d3', d4'⟩ := namesH_dp (K := K) (H := upd H D (.lst ((hasR (R.take i) b).map V.bl))) hb
      refine ⟨_, _, rfl, tupAt (s1 _ _ he), rfl, _, _, rfl, _, _, rfl, rfl, rfl, yesT ⟨_, rfl, _, rfl, .tuple _, .tuple _, .tup (tupAt (s1 _ _ ht2)) d1, .tup (tupAt (s1 _ _ hx)) d1', nmT_shape d3 d4, nmT_shape d3' d4', _, upd_same, ?_, ?_⟩⟩
      · unfold hasR
        rw [List.length_map, List.length_map, List.length_take]
        exact Nat.lt_of_le_of_lt (show min i R.length ≤ 1000 by omega) (by decide)
      · rw [upd_twice, eqv_nmT]
        unfold hasR
        rw [List.take_add_one, er, List.map_append, List.map_append]
        rfl
    · subst hq
      rw [rl, List.take_length]
      exact ⟨D, _, rfl, lstAt upd_same, q _ (same_upd nD)⟩
/-! roll == anything -/
def spEqR (K : PySem.W.Frag) (C : Addr) : Sp := fun vs H Q _ => ∃ (p : Addr) (y : V) (zs : List Nam) (R : List BRow), vs = [.ref p, y] ∧ RoAt C H p zs R ∧ (∀ z ∈ zs, NmH z) ∧ (∀ r ∈ R, ∀ z ∈ r.1, NmH z) ∧
  ((∃ t, TyX K H y t ∧ PySem.W.kitOne K t (.ref C) = some false ∧ Q (.bl false) H) ∨
   (∃ (p' : Addr) (us : List Nam) (R' : List BRow), y = .ref p' ∧ RoAt C H p' us R' ∧ (∀ z ∈ us, NmH z) ∧ (∀ r ∈ R', ∀ z ∈ r.1, NmH z) ∧ Q (.bl (decide (zs = us ∧ R = R'))) H))
theorem ok_Roll_eq {f C : Addr} {fd : FuncData} (F : Fun K "__eq__" "Roll.__eq__" s_Roll_eq f fd) (T : TxtR K C) (m_isinstance : mg "isinstance" = none) (mg_Roll : mg "Roll" = some (.ref C))
    (ha : PySem.W.findIn K (.ref C) "__class__" = some (some (.builtin "object.__class__"))) (hn : PySem.W.specialIn K (.builtin "object.__class__") "__get__" = some (some (.builtin "getset_descriptor.__get__")))
    (htk : PySem.W.takesIn K (.builtin "object.__class__") = some true) (hm : PySem.W.mroIn K C (.type "object") = some true) : FnOk P w K mg base CX0 1 f fd ["self", "other"] (spEqR K C) := by
  refine F.ok sc_Roll_eq (fun vs H Q E h => ?_) (fun cdv A outer s H vs Q E hr h => ?_)
  · obtain ⟨p, y, zs, R, rfl, _⟩ := h
    rfl
  · obtain ⟨p, y, zs, R, rfl, ⟨dx, a, t, rs, o, hp, hA, _, _, ht, hR⟩, nz, nr, h⟩ := h
    refine ⟨_, (pss_one (ps_ret (pe_and (pe_callB call_isi (by rfl) m_isinstance (by decide +kernel) (pa_cons (pv 1) (pa_cons (pe_glob (v := .ref C) (u := .ref C) (by rfl) mg_Roll rfl) pa_nil))) (pe_and (pe_cmpR (op_eqD hr.units) (pe_fld (pv 0) rfl) (pe_fld (pv 1) rfl) (nomark _)) (pe_one (pe_cmpR (op_eqD hr.units) (pe_fld (pv 0) rfl) (pe_fld (pv 1) rfl) (nomark _))))))), ?_⟩
    rcases h with ⟨t', ty, kt, q⟩ | ⟨p', us, R', rfl, ⟨dx', a', t', rs', o', hp', hA', _, _, ht', hR'⟩, nz', nr', q⟩
    · refine ⟨_, rfl, _, _, _, _, false, rfl, .own C, ty, kt, _, rfl, iteF ?_⟩
      exact q
    · refine ⟨_, rfl, _, _, _, _, true, rfl, .own C, .base (.ins hp' T.cl ha hn htk hm), kit_self, _, rfl, iteT ?_⟩
      obtain ⟨d1, d3, d4⟩ := namesH_dp (K := K) (H := H) nz
      obtain ⟨d1', d3', d4'⟩ := namesH_dp (K := K) (H := H) nz'
      refine ⟨_, rfl, p, C, dx, _, _, rfl, hp, T.cl, T.nO, fldsR_options _ _ _, _, rfl, p', C, dx', _, _, rfl, hp', T.cl, T.nO, fldsR_options _ _ _, .tuple _, .tuple _, .tup (.inl (.inr ⟨o, hA⟩)) d1, .tup (.inl (.inr ⟨o', hA'⟩)) d1', nmT_shape d3 d4, nmT_shape d3' d4', _, rfl, ?_⟩
      rw [eqv_nmT]
      by_cases e : zs = us
      · rw [decide_eq_true e]
        refine iteT ⟨_, rfl, p, C, dx, _, _, rfl, hp, T.cl, T.nR, fldsR_rows _ _ _, _, rfl, p', C, dx', _, _, rfl, hp', T.cl, T.nR, fldsR_rows _ _ _, .tuple _, .tuple _, .tup (tupAt ht) (pairs_dp hR nr), .tup (tupAt ht') (pairs_dp hR' nr'), shape_pairsT nr, shape_pairsT nr', ?_⟩
        rw [show PyData.eqv (.tuple (R.map dP)) (.tuple (R'.map dP)) = decide (R = R') by simp only [PyData.eqv]; exact eqv_rows R R']
        by_cases e2 : R = R'
        · rw [decide_eq_true e2]; rw [decide_eq_true ⟨e, e2⟩] at q; exact q
        · rw [decide_eq_false e2]; rw [decide_eq_false (fun z => e2 z.2)] at q; exact q
      · rw [decide_eq_false e]
        rw [decide_eq_false (fun z => e z.1)] at q
        exact iteF q
end
end TK

/-! the first of a ballot's names that remains -/
namespace TK
open PySem PySem.Spec PyProof.Rows L2
def nmO : Option Nam → V
  | none => .non
  | some z => vN z
def topN (ks : List Nam) (bs : List Nam) : Option Nam := bs.find? fun z => decide (z ∈ ks)
theorem top_step {ks bs : List Nam} {i : Nat} {z : Nam} (h : bs[i]? = some z) (n : topN ks (bs.take i) = none) : topN ks (bs.take (i + 1)) = if z ∈ ks then some z else none := by
  unfold topN at n ⊢
  rw [List.take_add_one, h, List.find?_append, n]
  by_cases e : z ∈ ks <;> simp [e]
theorem top_stop {ks bs : List Nam} {i : Nat} {z : Nam} (h : bs[i]? = some z) (n : topN ks (bs.take i) = none) (e : z ∈ ks) : topN ks bs = some z := by
  have := top_step h n
  rw [if_pos e] at this
  unfold topN at this ⊢
  rw [← List.take_append_drop (i + 1) bs, List.find?_append, this]
  rfl
section
variable {P : Program} {w : World} {K : PySem.W.Frag} {mg : Str → Option Value} {base : Heap}
/-! top -/
def spTop (K : PySem.W.Frag) : Sp := fun vs H Q _ => ∃ (a b : Addr) (bs ks : List Nam), vs = [.ref a, .ref b] ∧ SqT K H a (bs.map vN) ∧ SqS K H b (ks.map vN) ∧ Q (nmO (topN ks bs)) H
theorem ok_top {f : Addr} {fd : FuncData} (F : Fun K "top" "top" s_top f fd) : FnOk P w K mg base CX0 1 f fd ["ballot", "remaining"] (spTop K) := by
  refine F.ok sc_top (fun vs H Q E h => ?_) (fun cdv A outer s H vs Q E hr h => ?_)
  · obtain ⟨a, b, bs, ks, rfl, _⟩ := h
    rfl
  · obtain ⟨a, b, bs, ks, rfl, hA, hB, q⟩ := h
    refine ⟨_, (pss_cons (ps_for PassesOwn.never rfl (pi_tup (pv 0)) (pg_name (i := 2) sc_top.nd rfl (.inl rfl))
    (pss_one (ps_if (pt_cmpR op_in_seq (pv 2) (pv 1) (by rfl)) (pss_one (ps_ret (pv 2))) pss_nil)))
  (pss_one (ps_ret pe_non))), ?_⟩
    refine ⟨_, rfl, a, rfl, ⟨_, hA⟩, for_tup (K := K) (a := a) (xs := bs.map vN) (fun i σ H' => H' = H ∧ (∃ y : Option V, σ = [some (.ref a), some (.ref b), y]) ∧ topN ks (bs.take i) = none) ⟨rfl, ⟨none, rfl⟩, rfl⟩ (fun i σ H' _ hq => by rw [hq.1]; exact hA) ?_ ?_⟩
    · rintro i x σ H1 hx ⟨rfl, ⟨y, rfl⟩, hn⟩
      obtain ⟨z, ez, rfl⟩ := vN_at hx
      refine ⟨_, rfl, _, rfl, b, _, rfl, hB, rfl, nms_flat _, _, rfl, ?_⟩
      rw [in_nm]
      by_cases h : z ∈ ks
      · rw [decide_eq_true h]
        rw [top_stop ez hn h] at q
        exact iteT ⟨_, rfl, q⟩
      · rw [decide_eq_false h]
        exact iteF ⟨rfl, ⟨_, rfl⟩, by rw [top_step ez hn, if_neg h]⟩
    · rintro σ H1 ⟨rfl, ⟨y, rfl⟩, hn⟩
      rw [List.length_map, List.take_length] at hn
      rw [hn] at q
      exact q
end
end TK

/-! the votes for each that remains -/
namespace TK
open PySem PySem.Spec PyProof.Rows L2
section
variable {X : Cx} {K : PySem.W.Frag}
theorem cr_sumK (h : X.K = K) (hc : X.calm = true) : CallR X (.builtin "sum") (rSum K) := h ▸ cr_sum hc
theorem pi_listK {tg e : Expr} {te : TE} (h : X.K = K) (he : PE X e te) : PI X tg e (iList K te) := h ▸ pi_list he
end
/-- the scope of the comprehension around the other -/
abbrev scV : Scope := { kind := ScopeKind.function, names := [(".0", NameKind.local), ("option", NameKind.cell), ("sum", NameKind.globalImplicit), ("tops", NameKind.cell)], isGenerator := false, isCoroutine := false, more := [] }
def topsL (R : List BRow) (ks : List Nam) : List (Option Nam × Int) := R.map fun r => (topN ks r.1, r.2)
def TopsAt (H : Hp) (es : List Addr) (ts : List (Option Nam × Int)) : Prop := es.length = ts.length ∧ ∀ (i : Nat) (e : Addr), es[i]? = some e → ∃ t, ts[i]? = some t ∧ H e = some (.tup [nmO t.1, .int t.2])
theorem TopsAt.same {H H' : Hp} {es : List Addr} {ts : List (Option Nam × Int)} (h : TopsAt H es ts) (s : Same H H') : TopsAt H' es ts := ⟨h.1, fun i e he => by
  obtain ⟨t, a, b⟩ := h.2 i e he
  exact ⟨t, a, s _ _ b⟩⟩
theorem tops_at {H : Hp} {es : List Addr} {ts : List (Option Nam × Int)} (h : TopsAt H es ts) {i : Nat} {x : V} (hx : (es.map V.ref)[i]? = some x) : ∃ e t, x = .ref e ∧ ts[i]? = some t ∧ H e = some (.tup [nmO t.1, .int t.2]) := by
  rw [List.getElem?_map] at hx
  cases e : es[i]? with
  | none => rw [e] at hx; cases hx
  | some a =>
    rw [e] at hx
    obtain ⟨t, h1, h2⟩ := h.2 i a e
    exact ⟨a, t, (Option.some.inj hx).symm, h1, h2⟩
theorem nmO_eq (o : Option Nam) (z : Nam) : decide (nmO o = vN z) = decide (o = some z) := by
  cases o with
  | none => rw [decide_eq_false (fun h => nomatch h), decide_eq_false (fun h => nomatch h)]
  | some y =>
    by_cases e : y = z
    · subst e; simp [nmO]
    · exact (decide_eq_false (p := vN y = vN z) (fun h => e (sOf_inj (V.str.inj h)))).trans (decide_eq_false (fun h => e (Option.some.inj h))).symm
theorem scal_nmO (o : Option Nam) (z : Nam) : scal (nmO o) (vN z) = true := by cases o <;> rfl
def voL (ts : List (Option Nam × Int)) (z : Nam) : List Int := (ts.filter fun t => decide (t.1 = some z)).map (·.2)
theorem voL_snoc {ts : List (Option Nam × Int)} {i : Nat} {t : Option Nam × Int} (h : ts[i]? = some t) (z : Nam) : voL (ts.take (i + 1)) z = voL (ts.take i) z ++ if t.1 = some z then [t.2] else [] := by
  unfold voL
  rw [List.take_add_one, h, List.filter_append, List.map_append]
  congr 1
  by_cases e : t.1 = some z <;> simp [e]
theorem voL_len (ts : List (Option Nam × Int)) (z : Nam) : (voL ts z).length ≤ ts.length := by
  unfold voL
  rw [List.length_map]
  exact List.length_filter_le _ _
def votesR (R : List BRow) (ks : List Nam) (z : Nam) : Int := (voL (topsL R ks) z).sum
section
variable {P : Program} {w : World} {K : PySem.W.Frag} {mg : Str → Option Value} {base : Heap}
def spVotes (K : PySem.W.Frag) (C : Addr) : Sp := fun vs H Q _ => ∃ (p b : Addr) (zs : List Nam) (R : List BRow) (ks : List Nam), vs = [.ref p, .ref b] ∧ RoAt C H p zs R ∧ R.length ≤ 1000 ∧ SqS K H b (ks.map vN) ∧ ks.length ≤ 10 ∧
  ∀ H' t, H t = none → Same H H' → H' t = some (.tup ((ks.map (votesR R ks)).map V.int)) → Q (.ref t) H'
theorem ok_votes_for {f C gi : Addr} {fd : FuncData} (F : Fun K "votes_for" "votes_for" s_votes_for f fd) (T : TxtR K C) (O_Roll_iter : Own K C "__iter__" gi) (I_Roll : FnIt P w K mg base 1 gi (RRo K C)) (m_tuple : mg "tuple" = none) (m_sum : mg "sum" = none)
    (d_top : Def P w K mg base "top" 1 ["ballot", "remaining"] (spTop K)) : FnOk P w K mg base CX0 2 f fd ["roll", "remaining"] (spVotes K C) := by
  refine F.ok sc_votes_for (fun vs H Q E h => ?_) (fun cdv A outer s H vs Q E hr h => ?_)
  · obtain ⟨p, b, zs, R, ks, rfl, _⟩ := h
    rfl
  · obtain ⟨p, b, zs, R, ks, rfl, ⟨dx, a, t, rs, o, hp, _, _, _, ht, hR⟩, r1000, hB, k10, q⟩ := h
    have rl : (rs.map V.ref).length = R.length := by rw [List.length_map, hR.1]
    refine ⟨_, (pss_cons (ps_set (i := 2) sc_votes_for.nd rfl (.inr rfl) (pe_lc (own := [("ballot", 3), ("many", 4)]) (by rfl) sc_votes_for.nd (pi_own O_Roll_iter I_Roll (hr.mono (by decide)) (pv 0)) (blkOk_by (N := ["roll", "remaining", "tops", "ballot", "many", "option", "first"]) (sc := defScope s_votes_for) (by decide +kernel)) (fun _ _ _ _ _ => (pg_tupK (K := K) (n := 2) rfl (by rfl) (pgs_cons (pg_name (i := 3) sc_votes_for.nd rfl (.inl rfl)) (pgs_cons (pg_name (i := 4) sc_votes_for.nd rfl (.inl rfl)) pgs_nil)))) (fun _ _ _ _ _ => pts_nil) (fun _ _ _ _ _ => (pe_tup (pa_cons (pe_callD d_top (hr.mono (by decide)) (by rfl) (pa_cons (pv 3) (pa_cons (pv 1) pa_nil))) (pa_cons (pv 4) pa_nil))))))
  (pss_one (ps_ret (pe_callTy call_tuple_of (by rfl) m_tuple (by decide +kernel) (pa_cons (pe_lc (own := [("option", 5)]) (by rfl) sc_votes_for.nd (pi_or (pi_list (pv 1)) (pi_tup (pv 1))) (blkOk_by (N := ["roll", "remaining", "tops", "ballot", "many", "option", "first"]) (sc := defScope s_votes_for) (by decide +kernel)) (fun _ _ _ _ _ => (pg_name (i := 5) sc_votes_for.nd rfl (.inr rfl))) (fun _ _ _ _ _ => pts_nil) (fun _ _ _ _ _ => (pe_callB (cr_sumK (K := K) rfl rfl) (by rfl) m_sum (by decide +kernel) (pa_cons (pe_lc (own := [("first", 6), ("many", 4)]) (by rfl) sc_votes_for.nd (pi_listK (K := K) rfl (pv 2)) (blkOk_by (N := ["roll", "remaining", "tops", "ballot", "many", "option", "first"]) (sc := scV) (by decide +kernel)) (fun _ _ _ _ _ => (pg_tupK (K := K) (n := 2) rfl (by rfl) (pgs_cons (pg_name (i := 6) sc_votes_for.nd rfl (.inl rfl)) (pgs_cons (pg_name (i := 4) sc_votes_for.nd rfl (.inl rfl)) pgs_nil)))) (fun _ _ _ _ _ => (pts_one (pt_cmpR op_eq (pv 6) (pv 5) (nomark _)))) (fun _ _ _ _ _ => (pv 4))) pa_nil)))) pa_nil))))), ?_⟩
    refine ⟨_, rfl, p, dx, _, t, rfl, hp, ⟨dx, a, _, _, hp, tupAt ht⟩, ⟨_, tupAt ht⟩, fun D nD => ?_⟩
    refine lc_tup (K := K) (a := t) (xs := rs.map V.ref) (fun i H' => ∃ es : List Addr, Same H H' ∧ H' D = some (.lst (es.map V.ref)) ∧ TopsAt H' es ((topsL R ks).take i)) ⟨[], same_upd nD, upd_same, rfl, fun _ _ h => nomatch h⟩ (fun i H' _ hq => same_tup hq.choose_spec.1 (tupAt ht)) (fun i v H' hx hq => ?_) (fun H1 hq => ?_)
    · obtain ⟨es, s1, eD, hT⟩ := hq
      obtain ⟨e, r, rfl, _, er, t2, he, ht2⟩ := pairs_at hR hx
      have hi : i < R.length := (List.getElem?_eq_some_iff.mp er).1
      have l5 : es.length ≤ i := by rw [hT.1, List.length_take]; omega
      have et : (topsL R ks)[i]? = some (topN ks r.1, r.2) := by unfold topsL; rw [List.getElem?_map, er]; rfl
      refine ⟨_, _, rfl, tupAt (s1 _ _ he), rfl, _, _, rfl, _, _, rfl, rfl, rfl, yesT ⟨_, rfl, _, rfl, t2, b, r.1, ks, rfl, tupAt (s1 _ _ ht2), hB.same s1, _, rfl, (show (2 : Nat) ≤ sizeLine by decide), fun x nx => ?_⟩⟩
      have sx := same_upd (o := .tup [nmO (topN ks r.1), .int r.2]) nx
      have eD2 := sx _ _ eD
      refine ⟨_, eD2, by rw [List.length_map]; exact Nat.lt_of_le_of_lt (show es.length ≤ 1000 by omega) (by decide), es ++ [x], same_at (s1.trans sx) nD, by rw [List.map_append]; exact upd_same, ?_⟩
      rw [List.take_add_one, et]
      refine ⟨by rw [List.length_append, List.length_append, hT.1]; rfl, fun j y hy => ?_⟩
      by_cases hj : j < es.length
      · rw [List.getElem?_append_left hj] at hy
        obtain ⟨t', h1, h2⟩ := hT.2 j y hy
        have h3 := sx _ _ h2
        exact ⟨t', by rw [List.getElem?_append_left (by rw [← hT.1]; exact hj)]; exact h1, by rw [upd_ne (ne_of h3 eD2 (by intro z; cases z))]; exact h3⟩
      · rw [List.getElem?_append_right (by omega)] at hy
        have hj2 : j - es.length = 0 := by
          have := (List.getElem?_eq_some_iff.mp hy).1
          simp at this
          omega
        rw [hj2] at hy
        cases Option.some.inj hy
        exact ⟨_, by rw [List.getElem?_append_right (by rw [← hT.1]; omega), ← hT.1, hj2]; rfl, by rw [upd_ne (ne_of_none eD nx).symm]; exact upd_same⟩
    obtain ⟨es, s1, eD, hT⟩ := hq
    rw [show (rs.map V.ref).length = (topsL R ks).length by rw [rl]; exact (List.length_map ..).symm, List.take_length] at hT
    rcases hB with hB | hB
    · refine .inl ⟨_, rfl, b, rfl, ⟨_, s1.seq hB⟩, fun W nW => ?_⟩
      refine lc_list (K := K) (a := b) (xs := ks.map vN) (fun i H' => Same H1 H' ∧ H' W = some (.lst (((ks.take i).map (votesR R ks)).map V.int))) ⟨same_upd nW, upd_same⟩ (fun i H' _ hq => (s1.trans hq.1).seq hB) (fun i v H' hx hq => ?_) (fun H' hq => ?_)
      · obtain ⟨s2, eW⟩ := hq
        obtain ⟨z, ez, rfl⟩ := vN_at hx
        have hi : i < ks.length := (List.getElem?_eq_some_iff.mp ez).1
        refine ⟨rfl, yesT ⟨_, rfl, D, rfl, ⟨_, lstAt (s2 _ _ eD)⟩, fun U nU => ?_⟩⟩
        refine lc_list (K := K) (a := D) (xs := es.map V.ref) (fun j H'' => H'' = upd H' U (.lst ((voL ((topsL R ks).take j) z).map V.int))) rfl (fun j H'' _ e => e ▸ lstAt ((same_upd nU) _ _ (s2 _ _ eD))) (fun j v H'' hx2 hq2 => ?_) (fun H'' hq2 => ?_)
        · subst hq2
          obtain ⟨e, tt, rfl, et, he⟩ := tops_at (hT.same s2) hx2
          refine ⟨_, _, rfl, tupAt ((same_upd nU) _ _ he), rfl, _, _, rfl, _, _, rfl, rfl, rfl, _, rfl, _, rfl, scal_nmO _ _, _, rfl, ?_⟩
          rw [nmO_eq, voL_snoc et]
          by_cases h : tt.1 = some z
          · rw [decide_eq_true h, if_pos h]
            refine iteT ⟨_, rfl, _, upd_same, ?_, ?_⟩
            · have h1 := voL_len ((topsL R ks).take j) z
              rw [List.length_take] at h1
              have h2 : (topsL R ks).length = R.length := List.length_map ..
              rw [List.length_map]
              exact Nat.lt_of_le_of_lt (show _ ≤ 1000 by omega) (by decide)
            · rw [upd_twice, List.map_append]
              rfl
          · rw [decide_eq_false h, if_neg h, List.append_nil]
            exact iteF rfl
        · subst hq2
          rw [show (es.map V.ref).length = (topsL R ks).length by rw [List.length_map, hT.1], List.take_length]
          have sU := same_upd (o := .lst ((voL (topsL R ks) z).map V.int)) nU
          refine ⟨U, _, rfl, lstAt upd_same, _, sU _ _ eW, by rw [List.length_map, List.length_map, List.length_take]; exact small1000 (by omega), same_at (s2.trans sU) nW, ?_⟩
          rw [List.take_add_one, ez, List.map_append, List.map_append]
          exact upd_same
      · obtain ⟨s2, eW⟩ := hq
        rw [List.length_map, List.take_length] at eW
        refine ⟨W, _, rfl, .inl ⟨lstAt eW, fun t9 nt9 => ?_⟩⟩
        exact q _ t9 (none_of (s1.trans s2) nt9) ((s1.trans s2).trans (same_upd nt9)) upd_same
    · refine .inr ⟨_, rfl, b, rfl, ⟨_, same_tup s1 hB⟩, fun W nW => ?_⟩
      refine lc_tup (K := K) (a := b) (xs := ks.map vN) (fun i H' => Same H1 H' ∧ H' W = some (.lst (((ks.take i).map (votesR R ks)).map V.int))) ⟨same_upd nW, upd_same⟩ (fun i H' _ hq => same_tup (s1.trans hq.1) hB) (fun i v H' hx hq => ?_) (fun H' hq => ?_)
      · obtain ⟨s2, eW⟩ := hq
        obtain ⟨z, ez, rfl⟩ := vN_at hx
        have hi : i < ks.length := (List.getElem?_eq_some_iff.mp ez).1
        refine ⟨rfl, yesT ⟨_, rfl, D, rfl, ⟨_, lstAt (s2 _ _ eD)⟩, fun U nU => ?_⟩⟩
        refine lc_list (K := K) (a := D) (xs := es.map V.ref) (fun j H'' => H'' = upd H' U (.lst ((voL ((topsL R ks).take j) z).map V.int))) rfl (fun j H'' _ e => e ▸ lstAt ((same_upd nU) _ _ (s2 _ _ eD))) (fun j v H'' hx2 hq2 => ?_) (fun H'' hq2 => ?_)
        · subst hq2
          obtain ⟨e, tt, rfl, et, he⟩ := tops_at (hT.same s2) hx2
          refine ⟨_, _, rfl, tupAt ((same_upd nU) _ _ he), rfl, _, _, rfl, _, _, rfl, rfl, rfl, _, rfl, _, rfl, scal_nmO _ _, _, rfl, ?_⟩
          rw [nmO_eq, voL_snoc et]
          by_cases h : tt.1 = some z
          · rw [decide_eq_true h, if_pos h]
            refine iteT ⟨_, rfl, _, upd_same, ?_, ?_⟩
            · have h1 := voL_len ((topsL R ks).take j) z
              rw [List.length_take] at h1
              have h2 : (topsL R ks).length = R.length := List.length_map ..
              rw [List.length_map]
              exact Nat.lt_of_le_of_lt (show _ ≤ 1000 by omega) (by decide)
            · rw [upd_twice, List.map_append]
              rfl
          · rw [decide_eq_false h, if_neg h, List.append_nil]
            exact iteF rfl
        · subst hq2
          rw [show (es.map V.ref).length = (topsL R ks).length by rw [List.length_map, hT.1], List.take_length]
          have sU := same_upd (o := .lst ((voL (topsL R ks) z).map V.int)) nU
          refine ⟨U, _, rfl, lstAt upd_same, _, sU _ _ eW, by rw [List.length_map, List.length_map, List.length_take]; exact small1000 (by omega), same_at (s2.trans sU) nW, ?_⟩
          rw [List.take_add_one, ez, List.map_append, List.map_append]
          exact upd_same
      · obtain ⟨s2, eW⟩ := hq
        rw [List.length_map, List.take_length] at eW
        refine ⟨W, _, rfl, .inl ⟨lstAt eW, fun t9 nt9 => ?_⟩⟩
        exact q _ t9 (none_of (s1.trans s2) nt9) ((s1.trans s2).trans (same_upd nt9)) upd_same
end
end TK

/-! min(t), max(t) of a tuple of ints; zip of two tuples -/
namespace TK
open PySem PySem.Spec PyProof.Rows L2
section
variable {prog : Program} {w : World} {A : Around} {E : Value → Shared → Prop} {s : Shared} {t : Addr}
theorem min_intTup {xs : Array (Int × Tok)} {Q : Value → Shared → Prop} (hh : A.handled = none) (ht : s.heap.IsTuple t (intItems xs)) (hne : 0 < xs.size)
    (h : ∀ v h' tk, (intItems xs)[argBest (fun i j => decide (numAt xs i < numAt xs j)) (xs.size - 1)]? = some v → (∀ b o, s.heap.get? b = some o → h'.get? b = some o) → Q v { s with heap := h', toks := tk }) :
    wpAny (model prog w) A (call (.builtin "min") [.ref t]) Q E s := by
  obtain ⟨o, ho, hc, n, hd⟩ := id ht
  have hne2 : t ≠ s.heap.objs.size := Nat.ne_of_lt (Heap.lt_size ho)
  refine call_min_walk (wpAny_pyIter_tuple ht ?_)
  refine ⟨s.heap.objs.size, _, _, _, _, _, _, rfl, Walks.tuple (prog := prog) (w := w) (A := A.in1) hh s.heap.objs.size t hne2 (intItems xs), ⟨⟨_, Heap.get?_push_size _ rfl, rfl, rfl⟩, ht.at fun o e => Heap.get?_push_of_some _ e⟩, fun b hb => ?_, by simpa [intItems] using hne, CmpOf.ints_lt (numAt xs) (fun _ _ => intItems_at), fun v h' tk hP hk => ?_⟩
  · rcases List.mem_cons.mp hb with rfl | hb
    · exact Heap.lt_size (Heap.get?_push_size _ rfl)
    · obtain rfl := List.mem_singleton.mp hb
      exact Heap.lt_size (Heap.get?_push_of_some _ ho)
  · exact h v h' tk (by simpa [intItems] using hP) fun b o e => hk b o (fun hb => absurd (Heap.lt_size e) ((List.mem_singleton.mp hb) ▸ Nat.lt_irrefl _)) (Heap.get?_push_of_some _ e)
theorem max_intTup {xs : Array (Int × Tok)} {Q : Value → Shared → Prop} (hh : A.handled = none) (ht : s.heap.IsTuple t (intItems xs)) (hne : 0 < xs.size)
    (h : ∀ v h' tk, (intItems xs)[argBest (fun i j => decide (numAt xs i > numAt xs j)) (xs.size - 1)]? = some v → (∀ b o, s.heap.get? b = some o → h'.get? b = some o) → Q v { s with heap := h', toks := tk }) :
    wpAny (model prog w) A (call (.builtin "max") [.ref t]) Q E s := by
  obtain ⟨o, ho, hc, n, hd⟩ := id ht
  have hne2 : t ≠ s.heap.objs.size := Nat.ne_of_lt (Heap.lt_size ho)
  refine call_max_walk (wpAny_pyIter_tuple ht ?_)
  refine ⟨s.heap.objs.size, _, _, _, _, _, _, rfl, Walks.tuple (prog := prog) (w := w) (A := A.in1) hh s.heap.objs.size t hne2 (intItems xs), ⟨⟨_, Heap.get?_push_size _ rfl, rfl, rfl⟩, ht.at fun o e => Heap.get?_push_of_some _ e⟩, fun b hb => ?_, by simpa [intItems] using hne, CmpOf.ints_gt (numAt xs) (fun _ _ => intItems_at), fun v h' tk hP hk => ?_⟩
  · rcases List.mem_cons.mp hb with rfl | hb
    · exact Heap.lt_size (Heap.get?_push_size _ rfl)
    · obtain rfl := List.mem_singleton.mp hb
      exact Heap.lt_size (Heap.get?_push_of_some _ ho)
  · exact h v h' tk (by simpa [intItems] using hP) fun b o e => hk b o (fun hb => absurd (Heap.lt_size e) ((List.mem_singleton.mp hb) ▸ Nat.lt_irrefl _)) (Heap.get?_push_of_some _ e)
end
section
variable {X : Cx}
def rMinT (K : PySem.W.Frag) : List V → Hp → VK → Prop := fun vs H Q => ∃ (a : Addr) (ns : List Int), vs = [V.ref a] ∧ SqT K H a (ns.map V.int) ∧ 0 < ns.length ∧ ∀ m, m ∈ ns → (∀ y, y ∈ ns → m ≤ y) → Q (.int m) H
def rMaxT (K : PySem.W.Frag) : List V → Hp → VK → Prop := fun vs H Q => ∃ (a : Addr) (ns : List Int), vs = [V.ref a] ∧ SqT K H a (ns.map V.int) ∧ 0 < ns.length ∧ ∀ m, m ∈ ns → (∀ y, y ∈ ns → y ≤ m) → Q (.int m) H
theorem cr_minT (hc : X.calm = true) : CallR X (.builtin "min") (rMinT X.K) := by
  intro pins s σ H vs us Q I r h
  obtain ⟨a, ns, rfl, hs, hne, q⟩ := h
  obtain ⟨itm, rv, p, _⟩ := I.tuple hs
  rw [Vals.ref1 r]
  obtain ⟨xs, e⟩ := rv.ints.allInts.items
  have hn : numsOf itm.toArray.toList = ns := rv.ints.numsOf
  rw [e, nums_intItems] at hn
  subst hn
  have hsz : 0 < xs.size := by simpa using hne
  refine min_intTup (I.ok.hd hc) (e ▸ p) hsz fun v h' tk hv hk => ?_
  obtain ⟨t, rfl⟩ := intItems_at hv
  obtain ⟨h1, h2⟩ := argBest_lt (numAt xs) (xs.size - 1)
  refine ⟨.int _, H, I.kept hk, ⟨_, rfl⟩, q _ ?_ fun a ha => ?_⟩
  · rw [numAt_eq]; exact PySem.getD_mem (by rw [List.length_map, Array.length_toList]; omega)
  · obtain ⟨j, hj, rfl⟩ := mem_getD ha
    rw [List.length_map, Array.length_toList] at hj
    rw [← numAt_eq]; exact h2 j (by omega)
theorem cr_maxT (hc : X.calm = true) : CallR X (.builtin "max") (rMaxT X.K) := by
  intro pins s σ H vs us Q I r h
  obtain ⟨a, ns, rfl, hs, hne, q⟩ := h
  obtain ⟨itm, rv, p, _⟩ := I.tuple hs
  rw [Vals.ref1 r]
  obtain ⟨xs, e⟩ := rv.ints.allInts.items
  have hn : numsOf itm.toArray.toList = ns := rv.ints.numsOf
  rw [e, nums_intItems] at hn
  subst hn
  have hsz : 0 < xs.size := by simpa using hne
  refine max_intTup (I.ok.hd hc) (e ▸ p) hsz fun v h' tk hv hk => ?_
  obtain ⟨t, rfl⟩ := intItems_at hv
  obtain ⟨h1, h2⟩ := argBest_gt (numAt xs) (xs.size - 1)
  refine ⟨.int _, H, I.kept hk, ⟨_, rfl⟩, q _ ?_ fun a ha => ?_⟩
  · rw [numAt_eq]; exact PySem.getD_mem (by rw [List.length_map, Array.length_toList]; omega)
  · obtain ⟨j, hj, rfl⟩ := mem_getD ha
    rw [List.length_map, Array.length_toList] at hj
    rw [← numAt_eq]; exact h2 j (by omega)
end
theorem walk_zipT {K : PySem.W.Frag} {a b : Addr} {xs ys : List V} (hl : xs.length = ys.length) : Walk (RZ.ItzT K a b) xs.length (fun H => SqT K H a xs ∧ SqT K H b ys) (YPair (fun i => xs[i]?) (fun i => ys[i]?)) where
  goes := fun i H hi q => ⟨xs, ys, _, _, q.1, q.2, List.getElem?_eq_getElem hi, List.getElem?_eq_getElem (hl ▸ hi)⟩
  stops := fun H q => ⟨xs, ys, q.1, q.2, .inl (Nat.le_refl _)⟩
  yields := fun i H v H' _ q y => by
    obtain ⟨T, x, z, h1, h2, h3, h4, h5⟩ := y
    exact ⟨T, x, z, h1, h2, h3, h4 xs q.1, h5 ys q.2⟩
end TK

/-! who leaves; lead -/
namespace TK
open PySem PySem.Spec PyProof.Rows L2
def lowL (ks : List Nam) (vs : List Int) : List Nam := ((ks.zip vs).filter fun p => decide (∀ y ∈ vs, p.2 ≤ y)).map (·.1)
def leaverN (ks : List Nam) (vs : List Int) : Option Nam := if ks.length = 1 then none else (lowL ks vs).getLast?
def lowT (vs : List Int) (l : List (Nam × Int)) : List Nam := (l.filter fun p => decide (∀ y ∈ vs, p.2 ≤ y)).map (·.1)
theorem lowT_snoc {vs : List Int} {l : List (Nam × Int)} {i : Nat} {p : Nam × Int} (h : l[i]? = some p) : lowT vs (l.take (i + 1)) = lowT vs (l.take i) ++ if ∀ y ∈ vs, p.2 ≤ y then [p.1] else [] := by
  unfold lowT
  rw [List.take_add_one, h, List.filter_append, List.map_append]
  congr 1
  by_cases e : ∀ y ∈ vs, p.2 ≤ y
  · rw [if_pos e]
    show List.map (fun x : Nam × Int => x.1) (List.filter (fun p => decide (∀ y ∈ vs, p.2 ≤ y)) [p]) = _
    rw [List.filter_cons, if_pos (decide_eq_true e)]
    rfl
  · rw [if_neg e]
    show List.map (fun x : Nam × Int => x.1) (List.filter (fun p => decide (∀ y ∈ vs, p.2 ≤ y)) [p]) = _
    rw [List.filter_cons, if_neg (fun z => e (of_decide_eq_true z))]
    rfl
theorem lowT_len (vs : List Int) (l : List (Nam × Int)) : (lowT vs l).length ≤ l.length := by
  unfold lowT
  rw [List.length_map]
  exact List.length_filter_le _ _
theorem low_ne {ks : List Nam} {vs : List Int} {m : Int} (hl : ks.length = vs.length) (hm : m ∈ vs) (h : ∀ y ∈ vs, m ≤ y) : lowL ks vs ≠ [] := by
  obtain ⟨i, hi, rfl⟩ := List.mem_iff_getElem.mp hm
  have hk : i < ks.length := by omega
  intro e
  have : ks[i] ∈ lowL ks vs := by
    unfold lowL
    refine List.mem_map.mpr ⟨(ks[i], vs[i]), List.mem_filter.mpr ⟨?_, decide_eq_true h⟩, rfl⟩
    exact List.mem_iff_getElem.mpr ⟨i, by rw [List.length_zip]; omega, List.getElem_zip ..⟩
  rw [e] at this
  cases this
theorem atI_last {xs : List V} (h : xs ≠ []) : atI xs (-1) = some (xs.getLast h) := by
  have hp : 0 < xs.length := List.length_pos_iff.mpr h
  have : ixN xs.length (-1) = some (xs.length - 1) := by
    unfold ixN
    simp
    omega
  unfold atI
  rw [this, List.getLast_eq_getElem]
  exact List.getElem?_eq_getElem (by omega)
/-- who stands later -/
def leadN (zs : List Nam) (x y : Nam) : Int := if zs.idxOf y < zs.idxOf x then 0 else 1
theorem idx_at {zs : List Nam} {z : Nam} (nd : zs.Nodup) (m : z ∈ zs) : zs[zs.idxOf z]? = some z ∧ ∀ j, j < zs.idxOf z → zs[j]? ≠ some z := by
  have hl := List.idxOf_lt_length_iff.mpr m
  have h1 : zs[zs.idxOf z]? = some z := by rw [List.getElem?_eq_getElem hl, List.getElem_idxOf hl]
  exact ⟨h1, fun j hj e => by
    have := (List.getElem?_inj hl nd).mp (h1.trans e.symm)
    omega⟩
theorem nmV_first {zs : List Nam} {z : Nam} (nd : zs.Nodup) (m : z ∈ zs) : (zs.map vN)[zs.idxOf z]? = some (vN z) ∧ eqV (vN z) (vN z) = true ∧ ∀ (j : Nat) (z' : V), j < zs.idxOf z → (zs.map vN)[j]? = some z' → eqV z' (vN z) = false := by
  obtain ⟨h1, h2⟩ := idx_at nd m
  refine ⟨by rw [List.getElem?_map, h1]; rfl, by rw [eqv_nm]; exact decide_eq_true rfl, fun j z' hj e => ?_⟩
  obtain ⟨u, eu, rfl⟩ := vN_at e
  rw [eqv_nm]
  exact decide_eq_false fun z => h2 j hj (z ▸ eu)
section
variable {P : Program} {w : World} {K : PySem.W.Frag} {mg : Str → Option Value} {base : Heap}
/-! _leaver -/
def spLeaver (K : PySem.W.Frag) : Sp := fun vs H Q _ => ∃ (a b : Addr) (ks : List Nam) (ns : List Int), vs = [.ref a, .ref b] ∧ SqT K H a (ks.map vN) ∧ SqT K H b (ns.map V.int) ∧ ks.length = ns.length ∧ 1 ≤ ks.length ∧ ks.length ≤ 1000 ∧ ∀ H', Same H H' → Q (nmO (leaverN ks ns)) H'
/-! lead -/
def spLead (K : PySem.W.Frag) : Sp := fun vs H Q _ => ∃ (a : Addr) (zs : List Nam) (x y : Nam), vs = [.ref a, vN x, vN y] ∧ (SqL K H a (zs.map vN) ∨ ∃ o : Obj, H a = some (.frz o (.tup (zs.map vN))) ∧ o.cls = .type "tuple" ∧ o.dict = none) ∧ zs.Nodup ∧ x ∈ zs ∧ y ∈ zs ∧ Q (.int (leadN zs x y)) H
theorem ok_lead {f : Addr} {fd : FuncData} (F : Fun K "lead" "lead" s_lead f fd) : FnOk P w K mg base CX0 1 f fd ["options", "leaver", "other"] (spLead K) := by
  refine F.ok sc_lead (fun vs H Q E h => ?_) (fun cdv A outer s H vs Q E hr h => ?_)
  · obtain ⟨a, zs, x, y, rfl, _⟩ := h
    rfl
  · obtain ⟨a, zs, x, y, rfl, hA, nd, hx, hy, q⟩ := h
    obtain ⟨x1, x2⟩ := idx_at nd hx
    obtain ⟨y1, y2⟩ := idx_at nd hy
    rcases hA with hA | ⟨ob, hA, hc, hdn⟩
    · refine ⟨_, (pss_cons (ps_if (pt_cmpR op_gt (pe_bm PySem.F.plainAttrs_list PySem.F.slot_list_index PySem.F.type_list_index mt_index (pv 0) (pa_cons (pv 1) pa_nil)) (pe_bm PySem.F.plainAttrs_list PySem.F.slot_list_index PySem.F.type_list_index mt_index (pv 0) (pa_cons (pv 2) pa_nil)) (nomark _)) (pss_one (ps_ret pe_int)) pss_nil)
  (pss_one (ps_ret pe_int))), ?_⟩
      obtain ⟨f1, f2, f3⟩ := nmV_first nd hx
      obtain ⟨g1, g2, g3⟩ := nmV_first nd hy
      refine ⟨_, rfl, .inl ⟨rfl, _, hA⟩, _, rfl, a, _, _, _, _, rfl, rfl, hA, rfl, nms_flat _, f1, f2, f3, ?_⟩
      refine ⟨_, rfl, .inl ⟨rfl, _, hA⟩, _, rfl, a, _, _, _, _, rfl, rfl, hA, rfl, nms_flat _, g1, g2, g3, ?_⟩
      refine ⟨_, _, rfl, rfl, _, rfl, ?_⟩
      unfold leadN at q
      by_cases h : zs.idxOf y < zs.idxOf x
      · rw [if_pos h] at q
        rw [decide_eq_true (show ((zs.idxOf y : Nat) : Int) < ((zs.idxOf x : Nat) : Int) by omega)]
        exact iteT q
      · rw [if_neg h] at q
        rw [decide_eq_false (show ¬ ((zs.idxOf y : Nat) : Int) < ((zs.idxOf x : Nat) : Int) by omega)]
        exact iteF q
    · refine ⟨_, (pss_cons (ps_if (pt_cmpR op_gt (pe_bmF PySem.F.plainAttrs_tuple PySem.F.slot_tuple_index PySem.F.type_tuple_index L2.mt_tup_index (pv 0) (pa_cons (pv 1) pa_nil)) (pe_bmF PySem.F.plainAttrs_tuple PySem.F.slot_tuple_index PySem.F.type_tuple_index L2.mt_tup_index (pv 0) (pa_cons (pv 2) pa_nil)) (nomark _)) (pss_one (ps_ret pe_int)) pss_nil)
  (pss_one (ps_ret pe_int))), ?_⟩
      obtain ⟨f1, f2⟩ := str_first x1 x2
      obtain ⟨g1, g2⟩ := str_first y1 y2
      refine ⟨_, rfl, ⟨a, ob, _, rfl, hA, hc, hdn⟩, _, rfl, a, zs.map sOf, sOf x, zs.idxOf x, rfl, rfl, .inl (.inr ⟨ob, by rw [← vN_strs]; exact hA⟩), f1, f2, ?_⟩
      refine ⟨_, rfl, ⟨a, ob, _, rfl, hA, hc, hdn⟩, _, rfl, a, zs.map sOf, sOf y, zs.idxOf y, rfl, rfl, .inl (.inr ⟨ob, by rw [← vN_strs]; exact hA⟩), g1, g2, ?_⟩
      refine ⟨_, _, rfl, rfl, _, rfl, ?_⟩
      unfold leadN at q
      by_cases h : zs.idxOf y < zs.idxOf x
      · rw [if_pos h] at q
        rw [decide_eq_true (show ((zs.idxOf y : Nat) : Int) < ((zs.idxOf x : Nat) : Int) by omega)]
        exact iteT q
      · rw [if_neg h] at q
        rw [decide_eq_false (show ¬ ((zs.idxOf y : Nat) : Int) < ((zs.idxOf x : Nat) : Int) by omega)]
        exact iteF q
end
end TK

/-! Count; count -/
namespace TK
open PySem PySem.Spec PyProof.Rows L2
def fldsC (o t : Addr) (z : Nam) : List (Str × V) := putF "table" (.ref t) (putF "winner" (vN z) (putF "order" (.ref o) []))
theorem fldsC_order (o t : Addr) (z : Nam) : (fldsC o t z).lookup ("order" : Str) = some (.ref o) := by
  unfold fldsC
  rw [lookup_putF, if_neg (by decide +kernel), lookup_putF, if_neg (by decide +kernel), lookup_putF, if_pos rfl]
theorem fldsC_winner (o t : Addr) (z : Nam) : (fldsC o t z).lookup ("winner" : Str) = some (vN z) := by
  unfold fldsC
  rw [lookup_putF, if_neg (by decide +kernel), lookup_putF, if_pos rfl]
theorem fldsC_table (o t : Addr) (z : Nam) : (fldsC o t z).lookup ("table" : Str) = some (.ref t) := by
  unfold fldsC
  rw [lookup_putF, if_pos rfl]
structure TxtC (K : PySem.W.Frag) (C : Addr) : Prop where
  cl : Cls K C
  nO : NoAttr K C "order"
  nW : NoAttr K C "winner"
  nT : NoAttr K C "table"
/-! the rounds -/
def votesL (R : List BRow) (ks : List Nam) : List Int := ks.map (votesR R ks)
def leaverK (R : List BRow) (ks : List Nam) : Option Nam := leaverN ks (votesL R ks)
def stepK (R : List BRow) (ks : List Nam) : List Nam := ks.filter fun y => decide (leaverK R ks ≠ some y)
def remK (R : List BRow) (zs : List Nam) : Nat → List Nam
  | 0 => zs
  | n + 1 => stepK R (remK R zs n)
theorem flt_snoc {α : Type} {p : α → Bool} {l : List α} {i : Nat} {x : α} (h : l[i]? = some x) : (l.take (i + 1)).filter p = (l.take i).filter p ++ if p x then [x] else [] := by
  rw [List.take_add_one, h, List.filter_append]
  congr 1
  by_cases e : p x <;> simp [e]
theorem has_min : ∀ {l : List Int}, l ≠ [] → ∃ m ∈ l, ∀ y ∈ l, m ≤ y
  | [x], _ => ⟨x, List.mem_singleton.mpr rfl, fun y h => by rw [List.mem_singleton.mp h]; exact Int.le_refl _⟩
  | x :: y :: l, _ => by
    obtain ⟨m, h1, h2⟩ := has_min (l := y :: l) (List.cons_ne_nil _ _)
    by_cases h : x ≤ m
    · exact ⟨x, List.mem_cons_self .., fun u hu => (List.mem_cons.mp hu).elim (fun e => by rw [e]; exact Int.le_refl _) fun e => Int.le_trans h (h2 u e)⟩
    · exact ⟨m, List.mem_cons_of_mem _ h1, fun u hu => (List.mem_cons.mp hu).elim (fun e => by rw [e]; omega) fun e => h2 u e⟩
theorem leaver_some {R : List BRow} {ks : List Nam} (h : 1 < ks.length) : ∃ z, leaverK R ks = some z ∧ z ∈ ks := by
  have hv : votesL R ks ≠ [] := fun e => by
    have := congrArg List.length e
    unfold votesL at this
    rw [List.length_map] at this
    have : ks.length = 0 := this
    omega
  obtain ⟨m, h1, h2⟩ := has_min hv
  have hne := low_ne (ks := ks) (vs := votesL R ks) (List.length_map _).symm h1 h2
  have hl : leaverK R ks = some ((lowL ks (votesL R ks)).getLast hne) := by
    unfold leaverK leaverN
    rw [if_neg (by omega)]
    exact List.getLast?_eq_some_getLast hne
  refine ⟨_, hl, ?_⟩
  have hm := List.getLast_mem hne
  unfold lowL at hm
  obtain ⟨p, hp, e⟩ := List.mem_map.mp hm
  unfold lowL
  rw [← e]
  exact (List.of_mem_zip (List.mem_filter.mp hp).1).1
theorem leaver_one {R : List BRow} {ks : List Nam} (h : ks.length = 1) : leaverK R ks = none := if_pos h
theorem step_one {R : List BRow} {ks : List Nam} (h : ks.length = 1) : stepK R ks = ks := by
  unfold stepK
  rw [leaver_one h]
  exact List.filter_eq_self.mpr fun a _ => decide_eq_true (fun e => nomatch e)
theorem len_less {ks : List Nam} {z : Nam} (nd : ks.Nodup) (m : z ∈ ks) : (ks.filter fun y => decide (some z ≠ some y)).length = ks.length - 1 := by
  have : (ks.filter fun y => decide (some z ≠ some y)) = ks.erase z := by
    rw [nd.erase_eq_filter]
    refine List.filter_congr fun y _ => ?_
    by_cases e : z = y
    · subst e; simp
    · have e2 : y ≠ z := fun h => e h.symm
      simp [e, e2]
  rw [this, List.length_erase_of_mem m]
theorem rem_ok {R : List BRow} {zs : List Nam} (nd : zs.Nodup) : ∀ n, n + 1 ≤ zs.length → (remK R zs n).length = zs.length - n ∧ (remK R zs n).Nodup ∧ ∀ z ∈ remK R zs n, z ∈ zs
  | 0, _ => ⟨rfl, nd, fun _ h => h⟩
  | n + 1, h => by
    obtain ⟨h1, h2, h3⟩ := rem_ok (R := R) nd n (by omega)
    obtain ⟨z, e, m⟩ := leaver_some (R := R) (ks := remK R zs n) (by omega)
    have es : remK R zs (n + 1) = (remK R zs n).filter fun y => decide (some z ≠ some y) := by
      show stepK R (remK R zs n) = _
      unfold stepK
      rw [e]
    rw [es]
    exact ⟨by rw [len_less h2 m]; omega, h2.filter _, fun y hy => h3 y (List.mem_filter.mp hy).1⟩
theorem rem_last {R : List BRow} {zs : List Nam} (nd : zs.Nodup) (h : 1 ≤ zs.length) : remK R zs zs.length = remK R zs (zs.length - 1) ∧ ∃ z, remK R zs zs.length = [z] := by
  obtain ⟨n, e⟩ : ∃ n, zs.length = n + 1 := ⟨zs.length - 1, by omega⟩
  obtain ⟨h1, _, _⟩ := rem_ok (R := R) nd n (by omega)
  have h1' : (remK R zs n).length = 1 := by omega
  have e2 : remK R zs (n + 1) = remK R zs n := step_one h1'
  rw [e, show n + 1 - 1 = n from rfl, e2]
  exact ⟨rfl, List.length_eq_one_iff.mp h1'⟩
/-- a round of the table: who remains, their votes, the votes of none, who leaves -/
abbrev CRow : Type := List Nam × List Int × Int × Option Nam
def rowK (R : List BRow) (ks : List Nam) : CRow := (ks, votesL R ks, sumR R - (votesL R ks).sum, leaverK R ks)
def tabK (R : List BRow) (zs : List Nam) (n : Nat) : List CRow := (List.range n).map fun i => rowK R (remK R zs i)
theorem tab_snoc (R : List BRow) (zs : List Nam) (n : Nat) : tabK R zs (n + 1) = tabK R zs n ++ [rowK R (remK R zs n)] := by
  unfold tabK
  rw [List.range_succ, List.map_append]
  rfl
theorem tab_len (R : List BRow) (zs : List Nam) (n : Nat) : (tabK R zs n).length = n := by unfold tabK; rw [List.length_map, List.length_range]
theorem tab_at {R : List BRow} {zs : List Nam} {n i : Nat} (h : i < n) : (tabK R zs n)[i]? = some (rowK R (remK R zs i)) := by
  unfold tabK
  rw [List.getElem?_map, List.getElem?_range h]
  rfl
def CRowAt (K : PySem.W.Frag) (H : Hp) (e : Addr) (r : CRow) : Prop := ∃ a b, H e = some (.tup [.ref a, .ref b, .int r.2.2.1, nmO r.2.2.2]) ∧ TL H a (r.1.map vN) ∧ TL H b (r.2.1.map V.int)
def CRowsAt (K : PySem.W.Frag) (H : Hp) (es : List Addr) (rs : List CRow) : Prop := es.length = rs.length ∧ ∀ (i : Nat) (e : Addr), es[i]? = some e → ∃ r, rs[i]? = some r ∧ CRowAt K H e r
theorem CRowAt.same {K : PySem.W.Frag} {H H' : Hp} {e : Addr} {r : CRow} (h : CRowAt K H e r) (s : Same H H') : CRowAt K H' e r := by
  obtain ⟨a, b, h1, h2, h3⟩ := h
  exact ⟨a, b, s _ _ h1, h2.same s, h3.same s⟩
theorem CRowsAt.same {K : PySem.W.Frag} {H H' : Hp} {es : List Addr} {rs : List CRow} (h : CRowsAt K H es rs) (s : Same H H') : CRowsAt K H' es rs := ⟨h.1, fun i e he => by
  obtain ⟨r, a, b⟩ := h.2 i e he
  exact ⟨r, a, b.same s⟩⟩
theorem TL.upd {H : Hp} {a D : Addr} {xs l : List V} {o : HO} (h : TL H a xs) (hd : H D = some (.lst l)) : TL (upd H D o) a xs := by
  rcases h with h | ⟨ob, h⟩
  · exact .inl (by rw [upd_ne (ne_of h hd (by intro z; cases z))]; exact h)
  · exact .inr ⟨ob, by rw [upd_ne (ne_of h hd (by intro z; cases z))]; exact h⟩
theorem CRowAt.upd {K : PySem.W.Frag} {H : Hp} {e D : Addr} {r : CRow} {l : List V} {o : HO} (h : CRowAt K H e r) (hd : H D = some (.lst l)) : CRowAt K (upd H D o) e r := by
  obtain ⟨a, b, h1, h2, h3⟩ := h
  exact ⟨a, b, by rw [upd_ne (ne_of h1 hd (by intro z; cases z))]; exact h1, h2.upd hd, h3.upd hd⟩
theorem CRowsAt.upd {K : PySem.W.Frag} {H : Hp} {es : List Addr} {rs : List CRow} {D : Addr} {l : List V} {o : HO} (h : CRowsAt K H es rs) (hd : H D = some (.lst l)) : CRowsAt K (upd H D o) es rs := ⟨h.1, fun i e he => by
  obtain ⟨r, a, b⟩ := h.2 i e he
  exact ⟨r, a, b.upd hd⟩⟩
theorem CRowsAt.snoc {K : PySem.W.Frag} {H : Hp} {es : List Addr} {rs : List CRow} {e : Addr} {r : CRow} (h : CRowsAt K H es rs) (k : CRowAt K H e r) : CRowsAt K H (es ++ [e]) (rs ++ [r]) := by
  refine ⟨by rw [List.length_append, List.length_append, h.1]; rfl, fun i x he => ?_⟩
  by_cases hi : i < es.length
  · rw [List.getElem?_append_left hi] at he
    obtain ⟨t, h1, h2⟩ := h.2 i x he
    exact ⟨t, by rw [List.getElem?_append_left (by rw [← h.1]; exact hi)]; exact h1, h2⟩
  · rw [List.getElem?_append_right (by omega)] at he
    have hj2 : i - es.length = 0 := by
      have := (List.getElem?_eq_some_iff.mp he).1
      simp at this
      omega
    rw [hj2] at he
    cases Option.some.inj he
    exact ⟨_, by rw [List.getElem?_append_right (by rw [← h.1]; omega), ← h.1, hj2]; rfl, k⟩
/-- who leaves, in turn -/
def ordK (R : List BRow) (zs : List Nam) : List Nam := (List.range (zs.length - 1)).map fun i => (leaverK R (remK R zs i)).getD []
theorem ord_at {R : List BRow} {zs : List Nam} (nd : zs.Nodup) {i : Nat} (h : i + 1 < zs.length) : ∃ z, (ordK R zs)[i]? = some z ∧ leaverK R (remK R zs i) = some z ∧ z ∈ remK R zs i := by
  obtain ⟨h1, _, _⟩ := rem_ok (R := R) nd i (by omega)
  obtain ⟨z, e, m⟩ := leaver_some (R := R) (ks := remK R zs i) (by omega)
  refine ⟨z, ?_, e, m⟩
  unfold ordK
  rw [List.getElem?_map, List.getElem?_range (by omega)]
  show some ((leaverK R (remK R zs i)).getD []) = _
  rw [e]
  rfl
theorem ord_len (R : List BRow) (zs : List Nam) : (ordK R zs).length = zs.length - 1 := by unfold ordK; rw [List.length_map, List.length_range]
/-- a count -/
def CtAt (K : PySem.W.Frag) (C : Addr) (H : Hp) (p : Addr) (zs : List Nam) (R : List BRow) : Prop := ∃ dx o t es z, H p = some (.ins C dx (fldsC o t z)) ∧ H o = some (.tup ((ordK R zs).map vN)) ∧ H t = some (.tup (es.map V.ref)) ∧ CRowsAt K H es (tabK R zs zs.length) ∧ remK R zs zs.length = [z]
theorem CtAt.same {K : PySem.W.Frag} {C : Addr} {H H' : Hp} {p : Addr} {zs : List Nam} {R : List BRow} (h : CtAt K C H p zs R) (s : Same H H') : CtAt K C H' p zs R := by
  obtain ⟨dx, o, t, es, z, h1, h2, h3, h4, h5⟩ := h
  exact ⟨dx, o, t, es, z, s _ _ h1, s _ _ h2, s _ _ h3, h4.same s, h5⟩
theorem cut_last (xs : List V) : cutV xs none (some (-1)) = xs.take (xs.length - 1) := by
  unfold cutV HT.sIx
  simp
  omega
theorem scal_nmO2 (z : Nam) (o : Option Nam) : scal (vN z) (nmO o) = true := by cases o <;> rfl
theorem nmO_ne (z : Nam) (o : Option Nam) : decide (vN z = nmO o) = decide (o = some z) := by
  rw [← nmO_eq]
  by_cases h : vN z = nmO o
  · rw [decide_eq_true h, decide_eq_true h.symm]
  · rw [decide_eq_false h, decide_eq_false fun e => h e.symm]
section
variable {P : Program} {w : World} {K : PySem.W.Frag} {mg : Str → Option Value} {base : Heap}
/-! Count.__init__ -/
def spInitC (K : PySem.W.Frag) (C : Addr) : Sp := fun vs H Q _ => ∃ (p a b dx : Addr) (xs ys : List V) (z : Nam), vs = [.ref p, .ref a, vN z, .ref b] ∧ H p = some (.ins C dx []) ∧ H a = some (.lst xs) ∧ H b = some (.lst ys) ∧
  ∀ H' o t, H' p = some (.ins C dx (fldsC o t z)) → H' o = some (.tup xs) → H' t = some (.tup ys) → (∀ c x, H c = some x → c ≠ p → H' c = some x) → Q .non H'
/-! count -/
def spCount (K : PySem.W.Frag) (C CC : Addr) : Sp := fun vs H Q _ => ∃ (p : Addr) (zs : List Nam) (R : List BRow), vs = [.ref p] ∧ RoAt C H p zs R ∧ R.length ≤ 1000 ∧ zs.Nodup ∧ 1 ≤ zs.length ∧ zs.length ≤ 10 ∧
  ∀ H' r, H r = none → Same H H' → CtAt K CC H' r zs R → Q (.ref r) H'
end
end TK

/-! sums over rows; who leaves, told by leads -/
namespace TK
open PySem PySem.Spec PyProof.Rows L2
/-- the sum of the rows that are of a kind -/
def wsum (f : List Nam → Bool) (R : List BRow) : Int := ((R.filter fun r => f r.1).map (·.2)).sum
def totB (ps : List BRow) (b : List Nam) : Int := ((ps.filter fun p => decide (p.1 = b)).map (·.2)).sum
theorem wsum_cons (f : List Nam → Bool) (r : BRow) (R : List BRow) : wsum f (r :: R) = (if f r.1 then r.2 else 0) + wsum f R := by
  unfold wsum
  rw [List.filter_cons]
  by_cases h : f r.1
  · rw [if_pos h, if_pos h, List.map_cons, List.sum_cons]
  · rw [if_neg h, if_neg h]
    omega
theorem wsum_app (f : List Nam → Bool) : ∀ R S : List BRow, wsum f (R ++ S) = wsum f R + wsum f S
  | [], S => by show wsum f S = 0 + wsum f S; omega
  | r :: R, S => by rw [List.cons_append, wsum_cons, wsum_cons, wsum_app f R S]; omega
theorem votesR_w (R : List BRow) (ks : List Nam) (z : Nam) : votesR R ks z = wsum (fun b => decide (topN ks b = some z)) R := by
  unfold votesR voL topsL wsum
  rw [List.filter_map, List.map_map]
  rfl
theorem totB_w (ps : List BRow) (b : List Nam) : totB ps b = wsum (fun c => decide (c = b)) ps := rfl
theorem wsum_nn {f : List Nam → Bool} : ∀ {ps : List BRow}, (∀ p ∈ ps, 0 ≤ p.2) → 0 ≤ wsum f ps
  | [], _ => Int.le_refl _
  | p :: ps, h => by
    rw [wsum_cons]
    have h1 := h p List.mem_cons_self
    have h2 := wsum_nn (f := f) (ps := ps) fun q m => h q (List.mem_cons_of_mem _ m)
    split <;> omega
theorem wsum_split (f : List Nam → Bool) (b : List Nam) : ∀ ps : List BRow, wsum f ps = wsum f (ps.filter fun p => decide (p.1 ≠ b)) + if f b then totB ps b else 0
  | [] => by
    show (0 : Int) = 0 + if f b then (0 : Int) else 0
    split <;> rfl
  | p :: ps => by
    have ih := wsum_split f b ps
    rw [wsum_cons, ih, totB_w, totB_w, wsum_cons]
    by_cases h : p.1 = b
    · rw [List.filter_cons_of_neg (by simp [h]), if_pos (decide_eq_true h), h]
      split <;> omega
    · rw [List.filter_cons_of_pos (by simp [h]), wsum_cons, show decide (p.1 = b) = false from decide_eq_false h]
      by_cases h1 : f p.1 = true <;> by_cases h2 : f b = true <;> simp only [h1, h2, if_true, if_false, Bool.false_eq_true] <;> omega
theorem totB_mem {ps : List BRow} {b : List Nam} (h : totB ps b ≠ 0) : ∃ p ∈ ps, p.1 = b := by
  cases e : ps.filter fun p => decide (p.1 = b) with
  | nil => exact absurd (by unfold totB; rw [e]; rfl) h
  | cons p l =>
    have m : p ∈ ps.filter fun p => decide (p.1 = b) := by rw [e]; exact List.mem_cons_self
    exact ⟨p, (List.mem_filter.mp m).1, of_decide_eq_true (List.mem_filter.mp m).2⟩
theorem tot_drop {ps : List BRow} {b c : List Nam} : totB (ps.filter fun p => decide (p.1 ≠ b)) c = if c = b then 0 else totB ps c := by
  unfold totB
  rw [List.filter_filter]
  by_cases h : c = b
  · subst h
    rw [if_pos rfl]
    have : (ps.filter fun p => decide (p.1 = c) && decide (p.1 ≠ c)) = [] := List.filter_eq_nil_iff.mpr fun p _ => by by_cases e : p.1 = c <;> simp [e]
    rw [this]
    rfl
  · rw [if_neg h]
    congr 2
    refine List.filter_congr fun p _ => ?_
    by_cases e : p.1 = c
    · have : p.1 ≠ b := fun z => h (e.symm.trans z)
      simp [e, h]
    · simp [e]
/-- rows of one number for each ballot sum up like what they were told from -/
theorem wsum_rows {f : List Nam → Bool} : ∀ {R ps : List BRow}, (R.map (·.1)).Nodup → (∀ b c, (b, c) ∈ R ↔ totB ps b = c ∧ 0 < c) → (∀ p ∈ ps, 0 ≤ p.2) → wsum f R = wsum f ps
  | [], ps, _, h, nn => by
    have : ∀ p ∈ ps, p.2 = 0 := fun p m => by
      have h1 : ¬ 0 < totB ps p.1 := fun e => nomatch (h p.1 _).mpr ⟨rfl, e⟩
      have h2 : p.2 ≤ totB ps p.1 := by
        rw [totB_w]
        clear h h1
        induction ps with
        | nil => cases m
        | cons q ps ih =>
          rw [wsum_cons]
          have n1 := nn q List.mem_cons_self
          rcases List.mem_cons.mp m with e | m
          · subst e
            rw [if_pos (decide_eq_true rfl)]
            have := wsum_nn (f := fun c => decide (c = p.1)) (ps := ps) fun x m => nn x (List.mem_cons_of_mem _ m)
            omega
          · have := ih (fun x m => nn x (List.mem_cons_of_mem _ m)) m
            split <;> omega
      have := nn p m
      omega
    have z : ∀ l : List BRow, (∀ p ∈ l, p.2 = 0) → wsum f l = 0 := fun l => by
      induction l with
      | nil => intro _; rfl
      | cons q l ih =>
        intro k
        rw [wsum_cons, ih fun x m => k x (List.mem_cons_of_mem _ m), k q List.mem_cons_self]
        split <;> rfl
    rw [z ps this]
    rfl
  | r :: R, ps, nd, h, nn => by
    obtain ⟨n1, n2⟩ := List.nodup_cons.mp (show (r.1 :: R.map (·.1)).Nodup from nd)
    have hr := (h r.1 r.2).mp List.mem_cons_self
    rw [wsum_split f r.1 ps, wsum_cons, hr.1, wsum_rows (f := f) (R := R) (ps := ps.filter fun p => decide (p.1 ≠ r.1)) n2 (fun b c => ?_) fun p m => nn p (List.mem_filter.mp m).1]
    · omega
    · rw [tot_drop]
      constructor
      · intro m
        have hb : b ≠ r.1 := fun e => n1 (List.mem_map.mpr ⟨(b, c), m, e⟩)
        rw [if_neg hb]
        exact (h b c).mp (List.mem_cons_of_mem _ m)
      · rintro ⟨e1, e2⟩
        by_cases hb : b = r.1
        · rw [if_pos hb] at e1; omega
        · rw [if_neg hb] at e1
          rcases List.mem_cons.mp ((h b c).mpr ⟨e1, e2⟩) with e | m
          · exact absurd (by rw [← e]) hb
          · exact m
theorem lex_irr : ∀ a : List Int, HT.lexLt a a = false
  | [] => rfl
  | x :: xs => by rw [HT.lexLt_cons]; simp [lex_irr xs]
/-! from places to ballots -/
theorem pl_inj {zs : List Nam} : ∀ {b c : List Nam}, (∀ x ∈ b, x ∈ zs) → (∀ x ∈ c, x ∈ zs) → plOf zs b = plOf zs c → b = c
  | [], [], _, _, _ => rfl
  | [], _ :: _, _, _, h => by cases h
  | _ :: _, [], _, _, h => by cases h
  | a :: b, d :: c, hb, hc, h => by
    have h : ((zs.idxOf a : Nat) : Int) :: plOf zs b = ((zs.idxOf d : Nat) : Int) :: plOf zs c := h
    injection h with h1 h2
    have ea := List.getElem_idxOf (List.idxOf_lt_length_iff.mpr (hb a List.mem_cons_self))
    have ed := List.getElem_idxOf (List.idxOf_lt_length_iff.mpr (hc d List.mem_cons_self))
    have hi : zs.idxOf a = zs.idxOf d := by omega
    have : a = d := by rw [← ea, ← ed]; simp [hi]
    rw [this, pl_inj (fun x m => hb x (List.mem_cons_of_mem _ m)) (fun x m => hc x (List.mem_cons_of_mem _ m)) h2]
theorem tally_tot (ts : List PRow) (k : List Int) : ∀ o : Option Int, (ts.foldl (fun o t => if t.1 = k then some (o.getD 0 + t.2) else o) o).getD 0 = o.getD 0 + ((ts.filter fun t => decide (t.1 = k)).map (·.2)).sum := by
  induction ts with
  | nil => intro o; show o.getD 0 = o.getD 0 + 0; omega
  | cons t ts ih =>
    intro o
    rw [List.foldl_cons, ih, List.filter_cons]
    by_cases h : t.1 = k
    · rw [if_pos h, if_pos (decide_eq_true h), List.map_cons, List.sum_cons]
      show o.getD 0 + t.2 + _ = _
      omega
    · rw [if_neg h, if_neg (by simp [h])]
theorem tally_B {zs : List Nam} {ps : List BRow} {b : List Nam} (hs : ∀ p ∈ ps, ∀ x ∈ p.1, x ∈ zs) (hb : ∀ x ∈ b, x ∈ zs) : (tally (ps.map fun p => (plOf zs p.1, p.2)) (plOf zs b)).getD 0 = totB ps b := by
  unfold tally
  rw [tally_tot]
  show (0 : Int) + _ = _
  unfold totB
  rw [List.filter_map, List.map_map, Int.zero_add]
  show ((ps.filter _).map fun p => p.2).sum = _
  congr 2
  refine List.filter_congr fun p m => ?_
  show decide (plOf zs p.1 = plOf zs b) = _
  by_cases e : p.1 = b
  · simp [e]
  · have : plOf zs p.1 ≠ plOf zs b := fun h => e (pl_inj (hs p m) hb h)
    simp [e, this]
/-- a roll's rows hold what they were told from -/
theorem rows_sum {f : List Nam → Bool} {zs : List Nam} {R ps : List BRow} (isR : IsRows (R.map fun r => (plOf zs r.1, r.2)) (ps.map fun p => (plOf zs p.1, p.2))) (mR : ∀ r ∈ R, ∃ p ∈ ps, r.1 = p.1) (hs : ∀ p ∈ ps, ∀ x ∈ p.1, x ∈ zs) (nn : ∀ p ∈ ps, 0 ≤ p.2) : wsum f R = wsum f ps := by
  have hR : ∀ r ∈ R, ∀ x ∈ r.1, x ∈ zs := fun r m x hx => by
    obtain ⟨p, mp, e⟩ := mR r m
    rw [e] at hx
    exact hs p mp x hx
  refine wsum_rows ?_ (fun b c => ?_) nn
  · have hp := isR.srt
    rw [List.pairwise_map] at hp
    rw [List.nodup_iff_pairwise_ne, List.pairwise_map]
    refine hp.imp fun {x y} h e => ?_
    have h : HT.lexLt (plOf zs x.1) (plOf zs y.1) = true := h
    rw [e] at h
    rw [lex_irr] at h
    cases h
  · constructor
    · intro m
      have hb := hR _ m
      have := (isR.mem (plOf zs b) c).mp (List.mem_map.mpr ⟨(b, c), m, rfl⟩)
      have e := tally_B hs hb
      rw [this.1] at e
      exact ⟨e.symm, this.2⟩
    · rintro ⟨e1, e2⟩
      obtain ⟨p, mp, ep⟩ := totB_mem (ps := ps) (b := b) (by omega)
      have hb : ∀ x ∈ b, x ∈ zs := ep ▸ hs p mp
      have e := tally_B hs hb
      have : tally (ps.map fun p => (plOf zs p.1, p.2)) (plOf zs b) = some c := by
        cases h : tally (ps.map fun p => (plOf zs p.1, p.2)) (plOf zs b) with
        | none =>
          rw [h] at e
          have : (0 : Int) = totB ps b := e
          omega
        | some d =>
          rw [h] at e
          have : d = totB ps b := e
          rw [this, e1]
      obtain ⟨r, mr, er⟩ := List.mem_map.mp ((isR.mem _ _).mpr ⟨this, e2⟩)
      have er1 : plOf zs r.1 = plOf zs b := congrArg Prod.fst er
      have er2 : r.2 = c := congrArg Prod.snd er
      have : r.1 = b := pl_inj (hR r mr) hb er1
      rw [← this, ← er2]
      exact mr
/-! leads -/
theorem lead_two {zs : List Nam} {x y : Nam} (hx : x ∈ zs) (hy : y ∈ zs) (h : x ≠ y) : leadN zs x y + leadN zs y x = 1 := by
  have ea := List.getElem_idxOf (List.idxOf_lt_length_iff.mpr hx)
  have ed := List.getElem_idxOf (List.idxOf_lt_length_iff.mpr hy)
  have : zs.idxOf x ≠ zs.idxOf y := fun e => h (by rw [← ea, ← ed]; simp [e])
  unfold leadN
  split <;> split <;> omega
theorem low_filter (f : Nam → Int) (ks : List Nam) (vs : List Int) : ((ks.zip (ks.map f)).filter fun p => decide (∀ y ∈ vs, p.2 ≤ y)).map (·.1) = ks.filter fun k => decide (∀ y ∈ vs, f k ≤ y) := by
  induction ks with
  | nil => rfl
  | cons k ks ih =>
    rw [List.map_cons, List.zip_cons_cons, List.filter_cons, List.filter_cons]
    by_cases h : ∀ y ∈ vs, f k ≤ y
    · rw [if_pos (decide_eq_true h), if_pos (decide_eq_true h), List.map_cons, ih]
    · rw [if_neg (by simpa using h), if_neg (by simpa using h), ih]
theorem last_later {α : Type} {r : α → α → Prop} {l : List α} (h : l ≠ []) (p : l.Pairwise r) {a : α} (m : a ∈ l) : a = l.getLast h ∨ r a (l.getLast h) := by
  rw [← List.dropLast_concat_getLast h] at m p
  rcases List.mem_append.mp m with m | m
  · exact .inr ((List.pairwise_append.mp p).2.2 a m _ (List.mem_singleton.mpr rfl))
  · exact .inl (List.mem_singleton.mp m)
/-- the one who leaves has with its lead at most the votes of each other one -/
theorem leaver_holds {R : List BRow} {zs ks : List Nam} (up : ks.Pairwise fun a b => zs.idxOf a < zs.idxOf b) {z : Nam} (e : leaverK R ks = some z) : ∀ y ∈ ks, y ≠ z → votesR R ks z + leadN zs z y ≤ votesR R ks y := by
  intro y hy hne
  unfold leaverK leaverN at e
  split at e
  · cases e
  · have le : lowL ks (votesL R ks) = ks.filter fun k => decide (∀ v ∈ votesL R ks, votesR R ks k ≤ v) := low_filter _ _ _
    rw [le] at e
    have hn : (ks.filter fun k => decide (∀ v ∈ votesL R ks, votesR R ks k ≤ v)) ≠ [] := fun h => by rw [h] at e; cases e
    rw [List.getLast?_eq_some_getLast hn] at e
    have e := Option.some.inj e
    have mz := List.getLast_mem hn
    rw [e] at mz
    obtain ⟨m1, m2⟩ := List.mem_filter.mp mz
    have lz := of_decide_eq_true m2
    have l1 : votesR R ks z ≤ votesR R ks y := lz _ (List.mem_map.mpr ⟨y, hy, rfl⟩)
    unfold leadN
    split
    · omega
    · rename_i h
      by_cases q : votesR R ks y = votesR R ks z
      · have my : y ∈ ks.filter fun k => decide (∀ v ∈ votesL R ks, votesR R ks k ≤ v) := List.mem_filter.mpr ⟨hy, decide_eq_true (by rw [q]; exact lz)⟩
        rcases last_later hn (up.filter _) my with h1 | h1
        · exact absurd (h1.trans e) hne
        · rw [e] at h1; omega
      · omega
/-- and no other one has -/
theorem holds_leaver {R : List BRow} {zs ks : List Nam} (up : ks.Pairwise fun a b => zs.idxOf a < zs.idxOf b) (sub : ∀ x ∈ ks, x ∈ zs) (l : 1 < ks.length) {z : Nam} (mz : z ∈ ks) (h : ∀ y ∈ ks, y ≠ z → votesR R ks z + leadN zs z y ≤ votesR R ks y) : leaverK R ks = some z := by
  obtain ⟨u, eu, mu⟩ := leaver_some (R := R) l
  by_cases q : u = z
  · rw [eu, q]
  · have h1 := h u mu q
    have h2 := leaver_holds up eu z mz (fun e => q e.symm)
    have h3 := lead_two (sub z mz) (sub u mu) (fun e => q e.symm)
    omega
theorem up_zs {zs : List Nam} (nd : zs.Nodup) : zs.Pairwise fun a b => zs.idxOf a < zs.idxOf b := by
  rw [List.pairwise_iff_getElem]
  intro i j hi hj hij
  rw [nd.idxOf_getElem i hi, nd.idxOf_getElem j hj]
  exact hij
theorem up_rem {R : List BRow} {zs : List Nam} (nd : zs.Nodup) : ∀ n, (remK R zs n).Pairwise fun a b => zs.idxOf a < zs.idxOf b
  | 0 => up_zs nd
  | n + 1 => (up_rem nd n).filter _
end TK

/-! all ballots of the law -/
namespace TK
open PySem PySem.Spec PyProof.Rows L2
theorem op_catAK {X : Cx} {K : PySem.W.Frag} (h : X.K = K) : OpR X (binaryOp .Add) (rCatA K) := h ▸ op_catA
def extB (zs b : List Nam) : List (List Nam) := (zs.filter fun z => decide (z ∉ b)).map fun z => b ++ [z]
def oneB (zs : List Nam) (k : Nat) (b : List Nam) : List (List Nam) := b :: if b.length = k then extB zs b else []
def growB (zs : List Nam) (k : Nat) (l : List (List Nam)) : List (List Nam) := l.flatMap (oneB zs k)
def allB (zs : List Nam) : Nat → List (List Nam)
  | 0 => [[]]
  | k + 1 => growB zs k (allB zs k)
def BOk (zs : List Nam) (b : List Nam) : Prop := b.Nodup ∧ ∀ x ∈ b, x ∈ zs
theorem one_ok {zs b c : List Nam} {k : Nat} (h : BOk zs b) (hk : b.length ≤ k) (m : c ∈ oneB zs k b) : BOk zs c ∧ c.length ≤ k + 1 := by
  unfold oneB at m
  rcases List.mem_cons.mp m with e | m
  · rw [e]; exact ⟨h, by omega⟩
  · split at m
    · rename_i hl
      unfold extB at m
      obtain ⟨z, hz, rfl⟩ := List.mem_map.mp m
      obtain ⟨h1, h2⟩ := List.mem_filter.mp hz
      have h2 := of_decide_eq_true h2
      refine ⟨⟨List.nodup_append.mpr ⟨h.1, List.nodup_cons.mpr ⟨List.not_mem_nil, List.nodup_nil⟩, fun a ha c hc e => ?_⟩, fun x hx => ?_⟩, by rw [List.length_append]; show b.length + 1 ≤ _; omega⟩
      · rw [List.mem_singleton.mp hc] at e
        exact h2 (e ▸ ha)
      · rcases List.mem_append.mp hx with hx | hx
        · exact h.2 x hx
        · rw [List.mem_singleton.mp hx]; exact h1
    · cases m
theorem all_ok (zs : List Nam) : ∀ (k : Nat) (b : List Nam), b ∈ allB zs k → BOk zs b ∧ b.length ≤ k
  | 0, b, m => by rw [List.mem_singleton.mp m]; exact ⟨⟨List.nodup_nil, fun _ h => nomatch h⟩, Nat.le_refl _⟩
  | k + 1, b, m => by
    obtain ⟨c, hc, m⟩ := List.mem_flatMap.mp (show b ∈ growB zs k (allB zs k) from m)
    obtain ⟨h1, h2⟩ := all_ok zs k c hc
    exact one_ok h1 h2 m
theorem ext_len {zs b : List Nam} (h : BOk zs b) : (extB zs b).length ≤ zs.length - b.length := by
  unfold extB
  rw [List.length_map]
  have h1 : b.length ≤ (zs.filter fun z => decide (z ∈ b)).length := nd_lenP h.1 fun x m => List.mem_filter.mpr ⟨h.2 x m, decide_eq_true m⟩
  have h2 : (zs.filter fun z => decide (z ∈ b)).length + (zs.filter fun z => decide (z ∉ b)).length = zs.length := by
    clear h h1
    induction zs with
    | nil => rfl
    | cons z zs ih =>
      by_cases m : z ∈ b
      · rw [List.filter_cons_of_pos (by simp [m]), List.filter_cons_of_neg (by simp [m]), List.length_cons, List.length_cons]; omega
      · rw [List.filter_cons_of_neg (by simp [m]), List.filter_cons_of_pos (by simp [m]), List.length_cons, List.length_cons]; omega
  omega
/-- how many are of a length -/
def cntB (l : List (List Nam)) (k : Nat) : Nat := (l.filter fun b => decide (b.length = k)).length
theorem cntB_cons (b : List Nam) (l : List (List Nam)) (k : Nat) : cntB (b :: l) k = (if b.length = k then 1 else 0) + cntB l k := by
  unfold cntB
  by_cases h : b.length = k
  · rw [List.filter_cons_of_pos (by simp [h]), List.length_cons, if_pos h]; omega
  · rw [List.filter_cons_of_neg (by simp [h]), if_neg h]; omega
theorem grow_cons (zs : List Nam) (k : Nat) (b : List Nam) (l : List (List Nam)) : growB zs k (b :: l) = oneB zs k b ++ growB zs k l := rfl
theorem grow_len {zs : List Nam} {k : Nat} : ∀ {l : List (List Nam)}, (∀ b ∈ l, BOk zs b ∧ b.length ≤ k) → (growB zs k l).length ≤ l.length + cntB l k * (zs.length - k) ∧ cntB (growB zs k l) (k + 1) ≤ cntB l k * (zs.length - k)
  | [], _ => ⟨Nat.zero_le _, Nat.zero_le _⟩
  | b :: l, h => by
    obtain ⟨h1, h2⟩ := grow_len (l := l) fun c m => h c (List.mem_cons_of_mem _ m)
    obtain ⟨hb, hk⟩ := h b List.mem_cons_self
    have he := ext_len hb
    have hc : ∀ m : List (List Nam), cntB m (k + 1) ≤ m.length := fun m => List.length_filter_le _ _
    have ca : ∀ m n : List (List Nam), cntB (m ++ n) (k + 1) = cntB m (k + 1) + cntB n (k + 1) := fun m n => by unfold cntB; rw [List.filter_append, List.length_append]
    rw [grow_cons, ca, List.length_append, cntB_cons b l k]
    unfold oneB
    by_cases e : b.length = k
    · rw [if_pos e, if_pos e, cntB_cons, if_neg (by omega), List.length_cons, List.length_cons]
      have := hc (extB zs b)
      rw [e] at he
      rw [Nat.add_mul, Nat.one_mul]
      omega
    · rw [if_neg e, if_neg e, cntB_cons, if_neg (by omega), List.length_cons, List.length_cons]
      have : cntB ([] : List (List Nam)) (k + 1) = 0 := rfl
      rw [Nat.zero_add]
      simp only [List.length_nil]
      omega
theorem all_len {zs : List Nam} (z4 : zs.length ≤ 4) {k : Nat} (hk : k ≤ 4) : (allB zs k).length ≤ 65 := by
  have g := fun j => grow_len (zs := zs) (k := j) (l := allB zs j) (all_ok zs j)
  have g0 : (allB zs 1).length ≤ 1 + 1 * (zs.length - 0) ∧ cntB (allB zs 1) 1 ≤ 1 * (zs.length - 0) := g 0
  have g1 : (allB zs 2).length ≤ (allB zs 1).length + cntB (allB zs 1) 1 * (zs.length - 1) ∧ cntB (allB zs 2) 2 ≤ cntB (allB zs 1) 1 * (zs.length - 1) := g 1
  have g2 : (allB zs 3).length ≤ (allB zs 2).length + cntB (allB zs 2) 2 * (zs.length - 2) ∧ cntB (allB zs 3) 3 ≤ cntB (allB zs 2) 2 * (zs.length - 2) := g 2
  have g3 : (allB zs 4).length ≤ (allB zs 3).length + cntB (allB zs 3) 3 * (zs.length - 3) ∧ cntB (allB zs 4) 4 ≤ cntB (allB zs 3) 3 * (zs.length - 3) := g 3
  have e0 : (allB zs 0).length = 1 := rfl
  have m1 : cntB (allB zs 1) 1 ≤ 4 := by omega
  have m1' := Nat.mul_le_mul m1 (show zs.length - 1 ≤ 3 by omega)
  have m2 : cntB (allB zs 2) 2 ≤ 12 := by omega
  have m2' := Nat.mul_le_mul m2 (show zs.length - 2 ≤ 2 by omega)
  have m3 : cntB (allB zs 3) 3 ≤ 24 := by omega
  have m3' := Nat.mul_le_mul m3 (show zs.length - 3 ≤ 1 by omega)
  rcases (by omega : k = 0 ∨ k = 1 ∨ k = 2 ∨ k = 3 ∨ k = 4) with rfl | rfl | rfl | rfl | rfl <;> omega
theorem grow_app (zs : List Nam) (k : Nat) (l m : List (List Nam)) : growB zs k (l ++ m) = growB zs k l ++ growB zs k m := List.flatMap_append
theorem grow_take (zs : List Nam) (k j : Nat) (l : List (List Nam)) : (growB zs k (l.take j)).length ≤ (growB zs k l).length := by
  have := congrArg List.length (grow_app zs k (l.take j) (l.drop j))
  rw [List.take_append_drop, List.length_append] at this
  omega
theorem grow_snoc {zs : List Nam} {k j : Nat} {l : List (List Nam)} {b : List Nam} (h : l[j]? = some b) : growB zs k (l.take (j + 1)) = growB zs k (l.take j) ++ oneB zs k b := by
  rw [List.take_add_one, h, grow_app]
  congr 1
  show oneB zs k b ++ [] = _
  rw [List.append_nil]
/-- ballots, each in a tuple -/
def BsAt (H : Hp) (es : List Addr) (bs : List (List Nam)) : Prop := es.length = bs.length ∧ ∀ (i : Nat) (e : Addr), es[i]? = some e → ∃ b : List Nam, bs[i]? = some b ∧ H e = some (.tup (b.map vN))
theorem BsAt.same {H H' : Hp} {es : List Addr} {bs : List (List Nam)} (h : BsAt H es bs) (s : Same H H') : BsAt H' es bs := ⟨h.1, fun i e he => by
  obtain ⟨b, h1, h2⟩ := h.2 i e he
  exact ⟨b, h1, s _ _ h2⟩⟩
theorem BsAt.upd {H : Hp} {es : List Addr} {bs : List (List Nam)} {D : Addr} {l : List V} {o : HO} (h : BsAt H es bs) (hd : H D = some (.lst l)) : BsAt (upd H D o) es bs := ⟨h.1, fun i e he => by
  obtain ⟨b, h1, h2⟩ := h.2 i e he
  exact ⟨b, h1, by rw [upd_ne (ne_of h2 hd (by intro z; cases z))]; exact h2⟩⟩
theorem BsAt.app {H : Hp} {es fs : List Addr} {bs cs : List (List Nam)} (h : BsAt H es bs) (k : BsAt H fs cs) : BsAt H (es ++ fs) (bs ++ cs) := by
  refine ⟨by rw [List.length_append, List.length_append, h.1, k.1], fun i e he => ?_⟩
  by_cases hi : i < es.length
  · rw [List.getElem?_append_left hi] at he
    obtain ⟨t, h1, h2⟩ := h.2 i e he
    exact ⟨t, by rw [List.getElem?_append_left (by rw [← h.1]; exact hi)]; exact h1, h2⟩
  · rw [List.getElem?_append_right (by omega)] at he
    obtain ⟨t, h1, h2⟩ := k.2 _ e he
    exact ⟨t, by rw [List.getElem?_append_right (by rw [← h.1]; omega), ← h.1]; exact h1, h2⟩
theorem BsAt.one {H : Hp} {e : Addr} {b : List Nam} (h : H e = some (.tup (b.map vN))) : BsAt H [e] [b] := ⟨rfl, fun i x hx => by
  cases i with
  | zero => cases Option.some.inj hx; exact ⟨b, rfl, h⟩
  | succ i => cases hx⟩
theorem bs_at {H : Hp} {es : List Addr} {bs : List (List Nam)} (h : BsAt H es bs) {i : Nat} {x : V} (hx : (es.map V.ref)[i]? = some x) : ∃ e b, x = .ref e ∧ es[i]? = some e ∧ bs[i]? = some b ∧ H e = some (.tup (b.map vN)) := by
  rw [List.getElem?_map] at hx
  obtain ⟨a, e, rfl⟩ := Option.map_eq_some_iff.mp hx
  obtain ⟨b, h1, h2⟩ := h.2 i a e
  exact ⟨a, b, rfl, e, h1, h2⟩
section
variable {P : Program} {w : World} {K : PySem.W.Frag} {mg : Str → Option Value} {base : Heap}
/-! _law_all_ballots -/
def spAllB (K : PySem.W.Frag) : Sp := fun vs H Q _ => ∃ (a : Addr) (zs : List Nam), vs = [.ref a] ∧ SqL K H a (zs.map vN) ∧ zs.Nodup ∧ zs.length ≤ 4 ∧ ∀ (H' : Hp) (r : Addr) (es : List Addr), H r = none → Same H H' → H' r = some (.lst (es.map V.ref)) → BsAt H' es (allB zs zs.length) → Q (.ref r) H'
theorem ok_L_all_ballots {f : Addr} {fd : FuncData} (F : Fun K "_law_all_ballots" "_law_all_ballots" s_L_all_ballots f fd) (m_range : mg "range" = none) (m_list : mg "list" = none) (m_len : mg "len" = none) : FnOk P w K mg base CX0 1 f fd ["_law_choices"] (spAllB K) := by
  refine F.ok sc_L_all_ballots (fun vs H Q E h => ?_) (fun cdv A outer s H vs Q E hr h => ?_)
  · obtain ⟨a, zs, rfl, _⟩ := h
    rfl
  · obtain ⟨a, zs, rfl, hA, nd, z4, q⟩ := h
    have zl : (zs.map vN).length = zs.length := List.length_map ..
    refine ⟨_, (pss_cons (ps_set (i := 1) sc_L_all_ballots.nd rfl (.inl rfl) (pe_lst (pa_cons (pe_tup pa_nil) pa_nil)))
  (pss_cons (ps_for PassesOwn.never rfl (pi_range1 (by rfl) m_range (pa_cons (pe_callB call_len_seq (by rfl) m_len (by decide +kernel) (pa_cons (pv 0) pa_nil)) pa_nil)) (pg_name (i := 2) sc_L_all_ballots.nd rfl (.inl rfl))
    (pss_cons (ps_set (i := 3) sc_L_all_ballots.nd rfl (.inl rfl) (pe_lst pa_nil))
  (pss_cons (ps_for PassesOwn.never rfl (pi_list (pe_callTy call_list_of (by rfl) m_list (by decide +kernel) (pa_cons (pv 1) pa_nil))) (pg_name (i := 4) sc_L_all_ballots.nd rfl (.inr rfl))
    (pss_cons (ps_expr (pe_bm PySem.F.plainAttrs_list PySem.F.slot_list_append PySem.F.type_list_append mt_append (pv 3) (pa_cons (pv 4) pa_nil)))
  (pss_one (ps_if (pt_cmpR op_eq (pe_callB call_len_seq (by rfl) m_len (by decide +kernel) (pa_cons (pv 4) pa_nil)) (pv 2) (nomark _)) (pss_one (ps_set (i := 3) sc_L_all_ballots.nd rfl (.inl rfl) (pe_op op_cat (pv 3) (pe_lc (own := [("_law_choice", 5)]) (by rfl) sc_L_all_ballots.nd (pi_list (pv 0)) (blkOk_by (N := ["_law_choices", "_law_ballots_here", "_law_size", "_law_longer", "_law_ballot", "_law_choice"]) (sc := defScope s_L_all_ballots) (by decide +kernel)) (fun _ _ _ _ _ => (pg_name (i := 5) sc_L_all_ballots.nd rfl (.inl rfl))) (fun _ _ _ _ _ => (pts_one (pt_cmpR (op_notIn_seqK (K := K) rfl) (pv 5) (pv 4) (by rfl)))) (fun _ _ _ _ _ => (pe_op (op_catAK (K := K) rfl) (pv 4) (pe_tup (pa_cons (pv 5) pa_nil)))))))) pss_nil))))
  (pss_one (ps_set (i := 1) sc_L_all_ballots.nd rfl (.inl rfl) (pv 3))))))
  (pss_one (ps_ret (pv 1))))), ?_⟩
    refine ⟨(show (0 : Nat) ≤ sizeLine by decide), fun t0 nt0 => ⟨(show (1 : Nat) ≤ sizeLine by decide), fun D0 nD0 => ?_⟩⟩
    have st := same_upd (o := .tup []) nt0
    have sD := same_upd (o := .lst [V.ref t0]) nD0
    refine ⟨_, rfl, a, _, rfl, .inl ((st.trans sD).seq hA), _, rfl, by omega, by omega, for_range (fun i σ H' => ∃ (D : Addr) (es : List Addr) (y2 y3 y4 y5 : Option V), σ = [some (.ref a), some (.ref D), y2, y3, y4, y5] ∧ Same H H' ∧ H D = none ∧ H' D = some (.lst (es.map V.ref)) ∧ BsAt H' es (allB zs i)) ⟨D0, [t0], _, _, _, _, rfl, st.trans sD, none_of st nD0, upd_same, BsAt.one (sD _ _ upd_same)⟩ ?_ ?_⟩
    · rintro i σ H1 hi ⟨D, es, y2, y3, y4, y5, rfl, s1, nD, eD, hB⟩
      have hi : i < zs.length := by omega
      refine ⟨Nat.zero_le _, fun O nO => ?_⟩
      have sO := same_upd (o := .lst []) nO
      refine ⟨_, rfl, D, _, rfl, .inl (lstAt (sO _ _ eD)), fun L nL => ?_⟩
      have sL := same_upd (o := .lst (es.map V.ref)) nL
      have sOL := sO.trans sL
      have eO : (upd (upd H1 O (.lst [])) L (.lst (es.map V.ref))) O = some (.lst (([] : List Addr).map V.ref)) := sL _ _ upd_same
      have eL : (upd (upd H1 O (.lst [])) L (.lst (es.map V.ref))) L = some (.lst (es.map V.ref)) := upd_same
      generalize upd (upd H1 O (.lst [])) L (.lst (es.map V.ref)) = H2 at sOL eO eL ⊢
      have nO0 := nO
      have LO : L ≠ O := fun e => by
        have := none_of sO nL
        subst e
        rw [upd_same] at nL
        cases nL
      have sH2 := s1.trans sOL
      refine ⟨L, rfl, ⟨_, lstAt eL⟩, for_list (K := K) (a := L) (xs := es.map V.ref) (fun j σ H' => ∃ (O' : Addr) (os : List Addr) (y4 y5 : Option V), σ = [some (.ref a), some (.ref D), some (.int (0 + (i : Int))), some (.ref O'), y4, y5] ∧ Same H1 H' ∧ H1 O' = none ∧ L ≠ O' ∧ H' L = some (.lst (es.map V.ref)) ∧ H' O' = some (.lst (os.map V.ref)) ∧ BsAt H' os (growB zs i ((allB zs i).take j))) ⟨O, [], _, _, rfl, sOL, nO, LO, eL, eO, rfl, fun _ _ h => nomatch h⟩ (fun j σ H' _ hq => ?_) ?_ ?_⟩
      · obtain ⟨O', os, y4, y5, rfl, s2, nO', LO', eL', eO', hO⟩ := hq
        exact lstAt eL'
      · rintro j x σ H3 hx ⟨O', os, y4, y5, rfl, s2, nO', LO', eL', eO', hO⟩
        obtain ⟨e, b, rfl, _, eb, he⟩ := bs_at (hB.same s2) hx
        have hj : j < (allB zs i).length := (List.getElem?_eq_some_iff.mp eb).1
        have ol : os.length + 1 ≤ 65 := by
          have h1 := grow_take zs i (j + 1) (allB zs i)
          have h2 := all_len (zs := zs) z4 (k := i + 1) (by omega)
          have h3 : growB zs i (allB zs i) = allB zs (i + 1) := rfl
          rw [h3] at h1
          rw [grow_snoc eb, List.length_append] at h1
          have h4 : 1 ≤ (oneB zs i b).length := by unfold oneB; rw [List.length_cons]; omega
          rw [hO.1]
          omega
        refine ⟨_, rfl, .inl ⟨rfl, _, lstAt eO'⟩, _, rfl, O', _, _, rfl, rfl, eO', by rw [List.length_map]; exact small1000 (by omega), ?_⟩
        have hO4 := (hO.app (BsAt.one he)).upd (o := .lst (os.map V.ref ++ [.ref e])) eO'
        have s4 := same_at (o := .lst (os.map V.ref ++ [.ref e])) s2 nO'
        have eO4 : (upd H3 O' (.lst (os.map V.ref ++ [.ref e]))) O' = some (.lst ((os ++ [e]).map V.ref)) := by rw [List.map_append]; exact upd_same
        have eL4 : (upd H3 O' (.lst (os.map V.ref ++ [.ref e]))) L = some (.lst (es.map V.ref)) := by rw [upd_ne LO']; exact eL'
        have he4 : (upd H3 O' (.lst (os.map V.ref ++ [.ref e]))) e = some (.tup (b.map vN)) := by rw [upd_ne (ne_of he eO' (by intro z; cases z))]; exact he
        generalize upd H3 O' (.lst (os.map V.ref ++ [.ref e])) = H4 at hO4 s4 eO4 eL4 he4 ⊢
        refine ⟨_, rfl, e, _, rfl, .inr (tupAt he4), _, rfl, rfl, _, rfl, ?_⟩
        have bl : (b.map vN).length = b.length := List.length_map ..
        by_cases hk : b.length = i
        · rw [decide_eq_true (show V.int ((b.map vN).length : Int) = V.int (0 + (i : Int)) by rw [bl, hk, Int.zero_add])]
          refine iteT ⟨_, rfl, _, rfl, a, rfl, ⟨_, (s1.trans s4).seq hA⟩, fun W nW => ?_⟩
          have bl4 : b.length ≤ 4 := by omega
          refine lc_list (K := K) (a := a) (xs := zs.map vN) (fun m H' => ∃ fs : List Addr, Same H4 H' ∧ H' W = some (.lst (fs.map V.ref)) ∧ BsAt H' fs (((zs.take m).filter fun z => decide (z ∉ b)).map fun z => b ++ [z])) ⟨[], same_upd nW, upd_same, rfl, fun _ _ h => nomatch h⟩ (fun m H' _ hq => ((s1.trans s4).trans hq.choose_spec.1).seq hA) (fun m v H5 hx5 hq => ?_) (fun H5 hq => ?_)
          · obtain ⟨fs, s5, eW, hF⟩ := hq
            obtain ⟨z, ez, rfl⟩ := vN_at hx5
            have hm : m < zs.length := (List.getElem?_eq_some_iff.mp ez).1
            have fl : fs.length ≤ m := by
              rw [hF.1, List.length_map]
              have := List.length_filter_le (fun z => decide (z ∉ b)) (zs.take m)
              rw [List.length_take] at this
              omega
            refine ⟨rfl, _, rfl, _, rfl, e, _, rfl, .inr (tupAt (s5 _ _ he4)), rfl, nms_flat _, _, rfl, ?_⟩
            rw [notin_nm, flt_snoc ez]
            by_cases hz : z ∈ b
            · rw [decide_eq_true hz, if_neg (by simp [hz]), List.append_nil]
              exact iteF ⟨fs, s5, eW, hF⟩
            · rw [decide_eq_false hz, if_pos (by simp [hz]), List.map_append]
              have fin : ∀ (x : Addr) (H6 : Hp), Same H5 H6 → H6 x = some (.tup ((b ++ [z]).map vN)) → ∃ xs, H6 W = some (.lst xs) ∧ xs.length < sizeLine ∧ ∃ fs' : List Addr, Same H4 (upd H6 W (.lst (xs ++ [.ref x]))) ∧ (upd H6 W (.lst (xs ++ [.ref x]))) W = some (.lst (fs'.map V.ref)) ∧ BsAt (upd H6 W (.lst (xs ++ [.ref x]))) fs' (((zs.take m).filter fun z => decide (z ∉ b)).map (fun z => b ++ [z]) ++ [z].map fun z => b ++ [z]) := fun x H6 s6 hx => by
                have eW6 := s6 _ _ eW
                refine ⟨_, eW6, by rw [List.length_map]; exact small1000 (by omega), fs ++ [x], same_at (s5.trans s6) nW, by rw [List.map_append]; exact upd_same, ?_⟩
                exact ((hF.same s6).app (BsAt.one hx)).upd eW6
              refine iteT ⟨_, rfl, _, rfl, (show (1 : Nat) ≤ sizeLine by decide), fun t nt => ?_⟩
              have st := same_upd (o := .tup [vN z]) nt
              refine ⟨e, t, _, _, rfl, rfl, tupAt (st _ _ (s5 _ _ he4)), tupAt upd_same, ?_, ?_, ?_, ?_⟩
              · rw [List.length_map]
                exact Nat.le_of_lt (small1000 (show b.length + 1 ≤ 1000 by omega))
              · intro hb
                have hb : b = [] := List.map_eq_nil_iff.mp hb
                exact fin t _ st (by rw [hb]; exact upd_same)
              · intro _ h; cases h
              · intro _ _ u nu
                exact fin u _ (st.trans (same_upd nu)) (by rw [List.map_append]; exact upd_same)
          · obtain ⟨fs, s5, eW, hF⟩ := hq
            rw [List.length_map, List.take_length] at hF
            have eO5 := s5 _ _ eO4
            have fl : fs.length ≤ 4 := by
              rw [hF.1, List.length_map]
              have := List.length_filter_le (fun z => decide (z ∉ b)) zs
              omega
            refine ⟨O', W, _, _, rfl, rfl, eO5, eW, by rw [List.length_map, List.length_map, List.length_append]; exact Nat.le_of_lt (small1000 (by simp only [List.length_cons, List.length_nil]; omega)), fun G nG => ?_⟩
            have sG := same_upd (o := .lst ((os ++ [e]).map V.ref ++ fs.map V.ref)) nG
            have s45 := s4.trans (s5.trans sG)
            have LG : L ≠ G := fun h => by
              have := s5 _ _ eL4
              rw [h, nG] at this
              cases this
            refine ⟨G, os ++ [e] ++ fs, _, _, rfl, s45, none_of (s4.trans s5) nG, LG, sG _ _ (s5 _ _ eL4), by rw [List.map_append (l₁ := os ++ [e])]; exact upd_same, ?_⟩
            rw [grow_snoc eb]
            unfold oneB
            rw [if_pos hk]
            have := ((hO4.same s5).app hF).same sG
            rw [List.append_assoc (growB zs i _)] at this
            exact this
        · rw [decide_eq_false (show ¬ V.int ((b.map vN).length : Int) = V.int (0 + (i : Int)) from fun h => hk (by have := V.int.inj h; omega))]
          refine iteF ⟨O', os ++ [e], _, _, rfl, s4, nO', LO', eL4, eO4, ?_⟩
          rw [grow_snoc eb]
          unfold oneB
          rw [if_neg hk]
          exact hO4
      · rintro σ H3 ⟨O', os, y4, y5, rfl, s2, nO', LO', eL', eO', hO⟩
        rw [show (es.map V.ref).length = (allB zs i).length by rw [List.length_map, hB.1], List.take_length] at hO
        exact ⟨_, rfl, O', os, _, _, _, _, rfl, s1.trans s2, none_of s1 nO', eO', hO⟩
    · rintro σ H1 ⟨D, es, y2, y3, y4, y5, rfl, s1, nD, eD, hB⟩
      rw [zl] at hB
      exact ⟨_, rfl, q H1 D es nD s1 eD hB⟩
end
end TK

/-! the law's rows turned about -/
namespace TK
open PySem PySem.Spec PyProof.Rows L2
theorem mt_indexK {X : Cx} {K : PySem.W.Frag} (h : X.K = K) : MtR X "list.index" (rIndex K) := h ▸ mt_index
theorem PairsAt.upd {H : Hp} {es : List Addr} {ps : List BRow} {D : Addr} {l : List V} {o : HO} (h : PairsAt H es ps) (hd : H D = some (.lst l)) : PairsAt (upd H D o) es ps := ⟨h.1, fun i e he => by
  obtain ⟨q, h1, t, h2, h3⟩ := h.2 i e he
  exact ⟨q, h1, t, by rw [upd_ne (ne_of h2 hd (by intro z; cases z))]; exact h2, by rw [upd_ne (ne_of h3 hd (by intro z; cases z))]; exact h3⟩⟩
theorem PairsAt.take {H : Hp} {es : List Addr} {ps : List BRow} (h : PairsAt H es ps) (n : Nat) : PairsAt H (es.take n) (ps.take n) := ⟨by rw [List.length_take, List.length_take, h.1], fun i e he => by
  by_cases hi : i < n
  · rw [List.getElem?_take_of_lt hi] at he
    obtain ⟨q, h1, h2⟩ := h.2 i e he
    exact ⟨q, by rw [List.getElem?_take_of_lt hi]; exact h1, h2⟩
  · rw [List.getElem?_take_eq_none (by omega)] at he
    cases he⟩
theorem pe_bmK {X : Cx} {K : PySem.W.Frag} (h : X.K = K) {T id : String} {name : Str} {o e : Expr} {es : List Expr} {apos cpos : Pos} {r : V → List V → Hp → VK → Prop} {to : TE} {t : TA} (pa : PlainAttrs T) (slot : Slot T name id) (hty : typeOf (.builtin id) = pure (.type "method_descriptor")) (hm : MtR X id r) (ho : PE X o to) (ha : PA X (e :: es) t)
    (hbase : attributeBase o name X.env (eval o X.env) = eval o X.env := by rfl)
    (hfew : ((backTo cpos (starEach (e :: es) X.env)).all (fun x => !x.1) && (backToKw cpos (keywordEach [] X.env)).all (fun x => x.1.isSome)
      && decide ((e :: es).length + ([] : List Keyword).length + (if ([] : List Keyword).isEmpty then 0 else 1) < 30)) = true := by rfl)
    (hline : (apos.endLine == cpos.line) = true := by rfl) (hs : starEach (e :: es) X.env = (false, eval e X.env) :: starEach es X.env := by rfl) (hplain : (backTo cpos (starEach es X.env)).any (·.1) = false := by rfl) :
    PE X (.Call (.Attribute o name apos) (e :: es) [] cpos) (tBM K T r to t) := h ▸ pe_bm pa slot hty hm ho ha hbase hfew hline hs hplain
/-- a name so many places on -/
def turnN (zs : List Nam) (k : Nat) (x : Nam) : Nam := zs.getD ((zs.idxOf x + k) % zs.length) []
theorem turn_at {zs : List Nam} {k : Nat} {x : Nam} (h : 0 < zs.length) : zs[(zs.idxOf x + k) % zs.length]? = some (turnN zs k x) := by
  have hl := Nat.mod_lt (zs.idxOf x + k) h
  unfold turnN
  rw [List.getD_eq_getElem?_getD, List.getElem?_eq_getElem hl]
  rfl
theorem turn_mem {zs : List Nam} {k : Nat} {x : Nam} (h : 0 < zs.length) : turnN zs k x ∈ zs := List.mem_of_getElem? (turn_at h)
theorem turn_inj {zs : List Nam} (nd : zs.Nodup) {k : Nat} {x y : Nam} (hx : x ∈ zs) (hy : y ∈ zs) (e : turnN zs k x = turnN zs k y) : x = y := by
  have lx := List.idxOf_lt_length_iff.mpr hx
  have ly := List.idxOf_lt_length_iff.mpr hy
  have h0 : 0 < zs.length := by omega
  have h1 := turn_at (k := k) (x := x) h0
  have h2 := turn_at (k := k) (x := y) h0
  rw [e, ← h2] at h1
  have h3 := (List.getElem?_inj (Nat.mod_lt _ h0) nd).mp h1
  have ea := List.getElem_idxOf lx
  have eb := List.getElem_idxOf ly
  have : zs.idxOf x = zs.idxOf y := by
    have ha : ∀ n, n < zs.length → (n + k) % zs.length = if n + k % zs.length < zs.length then n + k % zs.length else n + k % zs.length - zs.length := fun n hn => by
      have hk := Nat.mod_lt k h0
      rw [Nat.add_mod, Nat.mod_eq_of_lt hn]
      split
      · rename_i h; exact Nat.mod_eq_of_lt h
      · rw [Nat.mod_eq_sub_mod (by omega)]; exact Nat.mod_eq_of_lt (by omega)
    rw [ha _ lx, ha _ ly] at h3
    have hk := Nat.mod_lt k h0
    split at h3 <;> split at h3 <;> omega
  rw [← ea, ← eb]
  simp [this]
theorem turn_ok {zs : List Nam} (nd : zs.Nodup) {k : Nat} {p : BRow} (h : POk zs p) : POk zs (p.1.map (turnN zs k), p.2) := by
  refine ⟨?_, fun x hx => ?_, h.2.2⟩
  · refine List.nodup_iff_pairwise_ne.mpr ?_
    rw [List.pairwise_map]
    refine (List.nodup_iff_pairwise_ne.mp h.1).imp_of_mem fun {a b} ha hb hne e => hne (turn_inj nd (h.2.1 a ha) (h.2.1 b hb) e)
  · obtain ⟨y, hy, rfl⟩ := List.mem_map.mp hx
    exact turn_mem (List.length_pos_of_mem (h.2.1 y hy))
section
variable {P : Program} {w : World} {K : PySem.W.Frag} {mg : Str → Option Value} {base : Heap}
/-- rows told in a new list -/
def RowsOut (zs : List Nam) (H : Hp) (Q : VK) (n : Nat) : Prop := ∀ (H' : Hp) (p : Addr) (es : List Addr) (ps : List BRow), H p = none → Same H H' → H' p = some (.lst (es.map V.ref)) → PairsAt H' es ps → (∀ p ∈ ps, POk zs p) → ps.length ≤ n → Q (.ref p) H'
/-! _law_turned_about -/
def spTurned (K : PySem.W.Frag) : Sp := fun vs H Q _ => ∃ (a g : Addr) (zs : List Nam) (es : List Addr) (ps : List BRow), vs = [.ref a, .ref g] ∧ SqL K H a (zs.map vN) ∧ zs.Nodup ∧ zs.length ≤ 4 ∧ H g = some (.lst (es.map V.ref)) ∧ PairsAt H es ps ∧ (∀ p ∈ ps, POk zs p) ∧ ps.length ≤ 3 ∧ RowsOut zs H Q 12
theorem ok_L_turned_about {f : Addr} {fd : FuncData} (F : Fun K "_law_turned_about" "_law_turned_about" s_L_turned_about f fd) (m_range : mg "range" = none) (m_len : mg "len" = none) (m_tuple : mg "tuple" = none) (m_int : mg "int" = none) : FnOk P w K mg base CX0 1 f fd ["_law_choices", "_law_given_here"] (spTurned K) := by
  refine F.ok sc_L_turned_about (fun vs H Q E h => ?_) (fun cdv A outer s H vs Q E hr h => ?_)
  · obtain ⟨a, g, zs, es, ps, rfl, _⟩ := h
    rfl
  · obtain ⟨a, g, zs, es, ps, rfl, hA, nd, z4, hG, hP, hk, p3, q⟩ := h
    have zl : (zs.map vN).length = zs.length := List.length_map ..
    have gl : (es.map V.ref).length = ps.length := by rw [List.length_map, hP.1]
    refine ⟨_, (pss_cons (ps_set (i := 2) sc_L_turned_about.nd rfl (.inl rfl) (pe_lst pa_nil))
  (pss_cons (ps_for PassesOwn.never rfl (pi_range1 (by rfl) m_range (pa_cons (pe_callB call_len_seq (by rfl) m_len (by decide +kernel) (pa_cons (pv 0) pa_nil)) pa_nil)) (pg_name (i := 3) sc_L_turned_about.nd rfl (.inr rfl))
    (pss_one (ps_for PassesOwn.never rfl (pi_list (pv 1)) (pg_tup (by rfl) (pgs_cons (pg_name (i := 4) sc_L_turned_about.nd rfl (.inl rfl)) (pgs_cons (pg_name (i := 5) sc_L_turned_about.nd rfl (.inl rfl)) pgs_nil)))
    (pss_one (ps_expr (pe_bm PySem.F.plainAttrs_list PySem.F.slot_list_append PySem.F.type_list_append mt_append (pv 2) (pa_cons (pe_tup (pa_cons (pe_callTy call_tuple_of (by rfl) m_tuple (by decide +kernel) (pa_cons (pe_lc (own := [("_law_choice", 6)]) (by rfl) sc_L_turned_about.nd (pi_tup (pv 4)) (blkOk_by (N := ["_law_choices", "_law_given_here", "_law_rows", "_law_step", "_law_ballot", "_law_times", "_law_choice"]) (sc := defScope s_L_turned_about) (by decide +kernel)) (fun _ _ _ _ _ => (pg_name (i := 6) sc_L_turned_about.nd rfl (.inl rfl))) (fun _ _ _ _ _ => pts_nil) (fun _ _ _ _ _ => (pe_ix (ix_listK (K := K) rfl) (pv 0) (pe_op op_mod (pe_callTy call_int1 (by rfl) m_int (by decide +kernel) (pa_cons (pe_op op_add (pe_bmK (K := K) rfl PySem.F.plainAttrs_list PySem.F.slot_list_index PySem.F.type_list_index (mt_indexK (K := K) rfl) (pv 0) (pa_cons (pv 6) pa_nil)) (pv 3)) pa_nil)) (pe_callB (call_len_seqK (K := K) rfl) (by rfl) m_len (by decide +kernel) (pa_cons (pv 0) pa_nil))) (fun _ _ => rfl)))) pa_nil)) (pa_cons (pv 5) pa_nil))) pa_nil)))))))
  (pss_one (ps_ret (pv 2))))), ?_⟩
    refine ⟨Nat.zero_le _, fun D nD => ?_⟩
    have sD := same_upd (o := .lst []) nD
    refine ⟨_, rfl, a, _, rfl, .inl (sD.seq hA), _, rfl, by omega, by omega, for_range (fun i σ H' => ∃ (os : List Addr) (rs : List BRow) (y3 y4 y5 y6 : Option V), σ = [some (.ref a), some (.ref g), some (.ref D), y3, y4, y5, y6] ∧ Same H H' ∧ H' D = some (.lst (os.map V.ref)) ∧ PairsAt H' os rs ∧ (∀ p ∈ rs, POk zs p) ∧ rs.length = i * ps.length) ⟨[], [], _, _, _, _, rfl, sD, upd_same, ⟨rfl, fun _ _ h => nomatch h⟩, (fun _ h => nomatch h), by rw [Nat.zero_mul]; rfl⟩ ?_ ?_⟩
    · rintro i σ H1 hi ⟨os, rs, y3, y4, y5, y6, rfl, s1, eD, hR, hkR, rl⟩
      have hi : i < zs.length := by omega
      have im : i * ps.length ≤ 3 * ps.length := Nat.mul_le_mul_right _ (by omega)
      refine ⟨_, rfl, g, rfl, ⟨_, lstAt (s1 _ _ hG)⟩, for_list (K := K) (a := g) (xs := es.map V.ref) (fun j σ H' => ∃ (os : List Addr) (rs : List BRow) (y4 y5 y6 : Option V), σ = [some (.ref a), some (.ref g), some (.ref D), some (.int (0 + (i : Int))), y4, y5, y6] ∧ Same H H' ∧ H' D = some (.lst (os.map V.ref)) ∧ PairsAt H' os rs ∧ (∀ p ∈ rs, POk zs p) ∧ rs.length = i * ps.length + j) ⟨os, rs, _, _, _, rfl, s1, eD, hR, hkR, rl⟩ (fun j σ H' _ hq => ?_) ?_ ?_⟩
      · obtain ⟨os, rs, y4, y5, y6, rfl, s1, _⟩ := hq
        exact lstAt (s1 _ _ hG)
      · rintro j x σ H2 hx ⟨os, rs, y4, y5, y6, rfl, s2, eD2, hR2, hkR2, rl2⟩
        obtain ⟨e, p, rfl, _, ep, t, he, ht⟩ := pairs_at (hP.same s2) hx
        have hj : j < ps.length := (List.getElem?_eq_some_iff.mp ep).1
        have pk := hk p (List.mem_of_getElem? ep)
        have p4 : p.1.length ≤ 4 := by
          have := nd_lenP pk.1 pk.2.1
          omega
        have z0 : 0 < zs.length := by omega
        refine ⟨_, _, rfl, tupAt he, rfl, _, _, rfl, _, _, rfl, rfl, ?_⟩
        refine ⟨_, rfl, .inl ⟨rfl, _, lstAt eD2⟩, _, rfl, t, rfl, ⟨_, tupAt ht⟩, fun W nW => ?_⟩
        refine lc_tup (K := K) (a := t) (xs := p.1.map vN) (fun m H' => H' = upd H2 W (.lst (((p.1.take m).map (turnN zs i)).map vN))) rfl (fun m H' _ e => e ▸ tupAt ((same_upd nW) _ _ ht)) (fun m v H' hx2 hq => ?_) (fun H' hq => ?_)
        · subst hq
          obtain ⟨z, ez, rfl⟩ := vN_at hx2
          have hm : m < p.1.length := (List.getElem?_eq_some_iff.mp ez).1
          have mz := pk.2.1 z (List.mem_of_getElem? ez)
          obtain ⟨f1, f2, f3⟩ := nmV_first nd mz
          have sW := same_upd (o := .lst (((p.1.take m).map (turnN zs i)).map vN)) nW
          have hAW := (s2.trans sW).seq hA
          have ix : ((zs.idxOf z : Nat) : Int) + (0 + (i : Int)) = ((zs.idxOf z + i : Nat) : Int) := by omega
          refine ⟨rfl, yesT ⟨_, rfl, _, rfl, .inl ⟨rfl, _, hAW⟩, _, rfl, a, _, _, _, _, rfl, rfl, hAW, rfl, nms_flat _, f1, f2, f3, _, rfl, _, _, rfl, rfl, .inl ⟨_, rfl, _, rfl, a, _, rfl, .inl hAW, _, _, rfl, rfl, by omega, _, _, _, vN (turnN zs i z), rfl, rfl, hAW, ?_, _, upd_same, ?_, ?_⟩⟩⟩
          · rw [zl, ix, ← Int.natCast_emod]
            refine atI_in (by omega) ?_
            rw [Int.toNat_natCast, List.getElem?_map, turn_at z0]
            rfl
          · rw [List.length_map, List.length_map, List.length_take]
            exact small1000 (by omega)
          · rw [upd_twice, List.take_add_one, ez, List.map_append, List.map_append]
            rfl
        · subst hq
          rw [List.length_map, List.take_length]
          have sW := same_upd (o := .lst ((p.1.map (turnN zs i)).map vN)) nW
          refine ⟨W, _, rfl, .inl ⟨lstAt upd_same, fun u nu => ⟨_, rfl, (show (2 : Nat) ≤ sizeLine by decide), fun x nx => ?_⟩⟩⟩
          have su := same_upd (o := .tup ((p.1.map (turnN zs i)).map vN)) nu
          have sx := same_upd (o := .tup [V.ref u, .int p.2]) nx
          have s3 := sW.trans (su.trans sx)
          have eD3 := s3 _ _ eD2
          refine ⟨D, _, _, rfl, rfl, eD3, by rw [List.length_map, hR2.1]; exact small1000 (by omega), os ++ [x], rs ++ [(p.1.map (turnN zs i), p.2)], _, _, _, rfl, same_at (s2.trans s3) nD, by rw [List.map_append]; exact upd_same, ?_, fun r hr' => ?_, by rw [List.length_append, rl2]; rfl⟩
          · exact (PairsAt.snoc (p := (p.1.map (turnN zs i), p.2)) (hR2.same (sW.trans su)) sx ⟨u, upd_same, sx _ _ upd_same⟩).upd eD3
          · rcases List.mem_append.mp hr' with m | m
            · exact hkR2 r m
            · rw [List.mem_singleton.mp m]; exact turn_ok nd pk
      · rintro σ H2 ⟨os, rs, y4, y5, y6, rfl, s2, eD2, hR2, hkR2, rl2⟩
        refine ⟨os, rs, _, _, _, _, rfl, s2, eD2, hR2, hkR2, ?_⟩
        rw [rl2, gl, Nat.succ_mul]
    · rintro σ H1 ⟨os, rs, y3, y4, y5, y6, rfl, s1, eD, hR, hkR, rl⟩
      refine ⟨_, rfl, q H1 D os rs nD s1 eD hR hkR ?_⟩
      rw [rl, zl]
      exact Nat.mul_le_mul z4 p3
end
end TK

/-! the law's drawn ballots -/
namespace TK
open PySem PySem.Spec PyProof.Rows L2
theorem seq_in {k n : Nat} (h : k < n) : seqIndex? ((k : Nat) : Int) n = some k := by
  unfold seqIndex?
  simp
  omega
theorem erase_map {α β : Type} (f : α → β) : ∀ {rs : List α} {k : Nat}, (rs.map f).eraseIdx k = (rs.eraseIdx k).map f
  | [], k => rfl
  | r :: rs, 0 => rfl
  | r :: rs, k + 1 => by
    show f r :: (rs.map f).eraseIdx k = _
    rw [erase_map f]; rfl
theorem erase_perm {α : Type} : ∀ {l : List α} {k : Nat} (h : k < l.length), ([l[k]] ++ l.eraseIdx k).Perm l
  | a :: l, 0, _ => List.Perm.refl _
  | a :: l, k + 1, h => by
    have hk : k < l.length := Nat.lt_of_succ_lt_succ h
    have := erase_perm (l := l) (k := k) hk
    show (l[k]'hk :: a :: l.eraseIdx k).Perm (a :: l)
    exact (List.Perm.swap _ _ _).trans (this.cons a)
theorem four {j : Nat} {w x y z : Int} (h : j < 4) : ∃ u, atI [V.int w, .int x, .int y, .int z] (0 + (j : Int)) = some (.int u) ∧ (u = w ∨ u = x ∨ u = y ∨ u = z) := by
  rcases (by omega : j = 0 ∨ j = 1 ∨ j = 2 ∨ j = 3) with rfl | rfl | rfl | rfl
  · exact ⟨w, atI_in (by decide) rfl, by simp⟩
  · exact ⟨x, atI_in (by decide) rfl, by simp⟩
  · exact ⟨y, atI_in (by decide) rfl, by simp⟩
  · exact ⟨z, atI_in (by decide) rfl, by simp⟩
section
variable {P : Program} {w : World} {K : PySem.W.Frag} {mg : Str → Option Value} {base : Heap}
/-! _law_ballots -/
def spBallots (K : PySem.W.Frag) : Sp := fun vs H Q _ => ∃ (a b : Addr) (ns : List Int) (s n : Int) (zs : List Nam), vs = [.ref a, .int s, .ref b, .int n] ∧ SqL K H a (ns.map V.int) ∧ SqL K H b (zs.map vN) ∧ 0 ≤ s ∧ s + 2 * n ≤ ns.length ∧ 0 ≤ n ∧ n ≤ 13 ∧ zs.length ≤ 4 ∧ zs.Nodup ∧
  ∀ (H' : Hp) (p : Addr) (es : List Addr) (ps : List BRow), H p = none → Same H H' → H' p = some (.lst (es.map V.ref)) → PairsAt H' es ps → (∀ p ∈ ps, POk zs p) → (ps.length : Int) = n → Q (.ref p) H'
theorem ok_L_ballots {f : Addr} {fd : FuncData} (F : Fun K "_law_ballots" "_law_ballots" s_L_ballots f fd) (m_range : mg "range" = none) (m_list : mg "list" = none) (m_len : mg "len" = none) (m_tuple : mg "tuple" = none)
    (d_L_part : Def P w K mg base "_law_part" 1 ["_law_pool_here", "_law_spot", "_law_under", "_law_size"] (spPart K)) : FnOk P w K mg base CX0 2 f fd ["_law_pool_here", "_law_spot", "_law_options", "_law_number"] (spBallots K) := by
  refine F.ok sc_L_ballots (fun vs H Q E h => ?_) (fun cdv A outer s H vs Q E hr h => ?_)
  · obtain ⟨a, b, ns, s, n, zs, rfl, _⟩ := h
    rfl
  · obtain ⟨a, b, ns, sp, n, zs, rfl, hA, hB, s0, sn, n0, n13, z4, nd, q⟩ := h
    have zl : (zs.map vN).length = zs.length := List.length_map ..
    refine ⟨_, (pss_cons (ps_set (i := 4) sc_L_ballots.nd rfl (.inl rfl) (pe_lst pa_nil))
  (pss_cons (ps_for PassesOwn.never rfl (pi_range1 (by rfl) m_range (pa_cons (pv 3) pa_nil)) (pg_name (i := 5) sc_L_ballots.nd rfl (.inl rfl))
    (pss_cons (ps_set (i := 6) sc_L_ballots.nd rfl (.inl rfl) (pe_callTy call_list_of (by rfl) m_list (by decide +kernel) (pa_cons (pv 2) pa_nil)))
  (pss_cons (ps_set (i := 7) sc_L_ballots.nd rfl (.inl rfl) (pe_lst pa_nil))
  (pss_cons (ps_for PassesOwn.never rfl (pi_range1 (by rfl) m_range (pa_cons (pe_op op_mod (pe_callD d_L_part (hr.mono (by decide)) (by rfl) (pa_cons (pv 0) (pa_cons (pe_op op_add (pv 1) (pe_op op_mul pe_int (pv 5))) (pa_cons pe_int (pa_cons pe_int pa_nil))))) (pe_op op_add (pe_callB call_len_seq (by rfl) m_len (by decide +kernel) (pa_cons (pv 2) pa_nil)) pe_int)) pa_nil)) (pg_name (i := 8) sc_L_ballots.nd rfl (.inl rfl))
    (pss_one (ps_expr (pe_bm PySem.F.plainAttrs_list PySem.F.slot_list_append PySem.F.type_list_append mt_append (pv 7) (pa_cons (pe_bm PySem.F.plainAttrs_list PySem.F.slot_list_pop PySem.F.type_list_pop mt_popAt (pv 6) (pa_cons (pe_op op_mod (pe_callD d_L_part (hr.mono (by decide)) (by rfl) (pa_cons (pv 0) (pa_cons (pe_op op_add (pe_op op_add (pv 1) (pe_op op_mul pe_int (pv 5))) pe_int) (pa_cons (pe_ix ix_list (pe_lst (pa_cons pe_int (pa_cons pe_int (pa_cons pe_int (pa_cons pe_int pa_nil))))) (pv 8) (fun _ _ => rfl)) (pa_cons (pe_ix ix_list (pe_lst (pa_cons pe_int (pa_cons pe_int (pa_cons pe_int (pa_cons pe_int pa_nil))))) (pv 8) (fun _ _ => rfl)) pa_nil))))) (pe_callB call_len_seq (by rfl) m_len (by decide +kernel) (pa_cons (pv 6) pa_nil))) pa_nil)) pa_nil)))))
  (pss_cons (ps_set (i := 9) sc_L_ballots.nd rfl (.inl rfl) (pe_callD d_L_part (hr.mono (by decide)) (by rfl) (pa_cons (pv 0) (pa_cons (pe_op op_add (pv 1) (pe_op op_mul pe_int (pv 5))) (pa_cons pe_int (pa_cons pe_int pa_nil))))))
  (pss_cons (ps_if (pt_cmpR op_eq (pe_callD d_L_part (hr.mono (by decide)) (by rfl) (pa_cons (pv 0) (pa_cons (pe_op op_add (pv 1) (pe_op op_mul pe_int (pv 5))) (pa_cons pe_int (pa_cons pe_int pa_nil))))) pe_int (nomark _)) (pss_one (ps_set (i := 9) sc_L_ballots.nd rfl (.inl rfl) (pe_op op_sub (pe_op op_pow pe_int pe_int) (pv 9)))) pss_nil)
  (pss_one (ps_expr (pe_bm PySem.F.plainAttrs_list PySem.F.slot_list_append PySem.F.type_list_append mt_append (pv 4) (pa_cons (pe_tup (pa_cons (pe_callTy call_tuple_of (by rfl) m_tuple (by decide +kernel) (pa_cons (pv 7) pa_nil)) (pa_cons (pv 9) pa_nil))) pa_nil))))))))))
  (pss_one (ps_ret (pv 4))))), ?_⟩
    refine ⟨Nat.zero_le _, fun D nD => ?_⟩
    refine ⟨_, rfl, _, rfl, by omega, by omega, for_range (fun i σ H' => ∃ (es : List Addr) (ps : List BRow) (y1 y2 y3 y4 y5 : Option V), σ = [some (.ref a), some (.int sp), some (.ref b), some (.int n), some (.ref D), y1, y2, y3, y4, y5] ∧ Same H H' ∧ H' D = some (.lst (es.map V.ref)) ∧ PairsAt H' es ps ∧ (∀ p ∈ ps, POk zs p) ∧ ps.length = i) ⟨[], [], _, _, _, _, _, rfl, same_upd nD, upd_same, ⟨rfl, fun _ _ h => nomatch h⟩, (fun _ h => nomatch h), rfl⟩ ?_ ?_⟩
    · rintro i σ H1 hi ⟨es, ps, y1, y2, y3, y4, y5, rfl, sm, eD, hP, hk, pl⟩
      refine ⟨_, rfl, b, _, rfl, .inl (sm.seq hB), fun L nL => ?_⟩
      have sL := same_upd (o := .lst (zs.map vN)) nL
      refine ⟨Nat.zero_le _, fun O nO => ?_⟩
      have sO := same_upd (o := .lst []) nO
      have eL := sO _ _ (upd_same (H := H1) (a := L) (o := .lst (zs.map vN)))
      have LO : L ≠ O := ne_of_none (upd_same (H := H1) (a := L) (o := .lst (zs.map vN))) nO
      have nO0 : H1 O = none := none_of sL nO
      have s2 := sm.trans (sL.trans sO)
      have eO : (upd (upd H1 L (.lst (zs.map vN))) O (.lst [])) O = some (.lst (([] : List Nam).map vN)) := upd_same
      have x0 := Int.emod_nonneg (partOf ns (sp + 2 * (0 + (i : Int))) 1 60) (show ((((zs.map vN).length : Nat) : Int) + 1) ≠ 0 by omega)
      have x1 := Int.emod_lt_of_pos (partOf ns (sp + 2 * (0 + (i : Int))) 1 60) (show (0 : Int) < (((zs.map vN).length : Nat) : Int) + 1 by omega)
      refine ⟨_, rfl, _, rfl, _, rfl, _, _, rfl, rfl, .inl ⟨by decide, by decide⟩, _, _, rfl, rfl, a, ns, _, 1, 60, rfl, s2.seq hA, by omega, by omega, by decide, by decide, by decide, _, rfl, b, _, rfl, .inl (s2.seq hB), _, _, rfl, rfl, _, _, rfl, rfl, (show (0 : Int) < (((zs.map vN).length : Nat) : Int) + 1 by omega), ?_⟩
      refine ⟨_, rfl, by omega, by omega, for_range (fun j σ H' => ∃ (ls os : List Nam) (y4 y5 : Option V), σ = [some (.ref a), some (.int sp), some (.ref b), some (.int n), some (.ref D), some (.int (0 + (i : Int))), some (.ref L), some (.ref O), y4, y5] ∧ Same H1 H' ∧ H' L = some (.lst (ls.map vN)) ∧ H' O = some (.lst (os.map vN)) ∧ ls.length + j = zs.length ∧ os.length = j ∧ (os ++ ls).Perm zs) ⟨zs, [], _, _, rfl, sL.trans sO, eL, eO, rfl, rfl, List.Perm.refl _⟩ ?_ ?_⟩
      · rintro j σ H2 hj ⟨ls, os, y4, y5, rfl, sm2, eL2, eO2, ll, lo, pm⟩
        have hj4 : j < 4 := by omega
        have lp : 0 < ls.length := by omega
        have sH := sm.trans sm2
        obtain ⟨u, au, hu⟩ := four (w := 1) (x := 4) (y := 12) (z := 24) hj4
        obtain ⟨z, az, hz⟩ := four (w := 4) (x := 3) (y := 2) (z := 1) hj4
        refine ⟨_, rfl, .inl ⟨rfl, _, lstAt eO2⟩, _, rfl, .inl ⟨rfl, _, lstAt eL2⟩, _, rfl, _, rfl, _, rfl, _, _, rfl, rfl, .inl ⟨by decide, by decide⟩, _, _, rfl, rfl, _, _, rfl, rfl, (show (4 : Nat) ≤ sizeLine by decide), fun A4 nA4 => ?_⟩
        have sA4 := same_upd (o := .lst [V.int 1, .int 4, .int 12, .int 24]) nA4
        refine ⟨_, rfl, _, _, _, _, rfl, rfl, lstAt upd_same, au, (show (4 : Nat) ≤ sizeLine by decide), fun B4 nB4 => ?_⟩
        have sB4 := same_upd (o := .lst [V.int 4, .int 3, .int 2, .int 1]) nB4
        have sAB := sA4.trans sB4
        have eB4 := upd_same (H := upd H2 A4 (.lst [V.int 1, .int 4, .int 12, .int 24])) (a := B4) (o := .lst [V.int 4, .int 3, .int 2, .int 1])
        have eL3 := sAB _ _ eL2
        have eO3 := sAB _ _ eO2
        have sm3 := sm2.trans sAB
        generalize upd (upd H2 A4 (.lst [V.int 1, .int 4, .int 12, .int 24])) B4 (.lst [V.int 4, .int 3, .int 2, .int 1]) = H3 at eB4 eL3 eO3 sm3 ⊢
        have lz : (((ls.map vN).length : Nat) : Int) = (ls.length : Int) := by rw [List.length_map]
        refine ⟨_, rfl, _, _, _, _, rfl, rfl, lstAt eB4, az, a, ns, _, u, z, rfl, (sm.trans sm3).seq hA, by omega, by omega, by omega, by omega, by omega, _, rfl, L, _, rfl, .inl (lstAt eL3), _, _, rfl, rfl, (show (0 : Int) < (((ls.map vN).length : Nat) : Int) by omega), ?_⟩
        have m0 := Int.emod_nonneg (partOf ns (sp + 2 * (0 + (i : Int)) + 1) u z) (show (((ls.map vN).length : Nat) : Int) ≠ 0 by omega)
        have m1 := Int.emod_lt_of_pos (partOf ns (sp + 2 * (0 + (i : Int)) + 1) u z) (show (0 : Int) < (((ls.map vN).length : Nat) : Int) by omega)
        obtain ⟨k, hk'⟩ : ∃ k : Nat, partOf ns (sp + 2 * (0 + (i : Int)) + 1) u z % (((ls.map vN).length : Nat) : Int) = (k : Int) := ⟨(partOf ns (sp + 2 * (0 + (i : Int)) + 1) u z % (((ls.map vN).length : Nat) : Int)).toNat, by omega⟩
        have hkl : k < ls.length := by omega
        have ek : ls[k]? = some ls[k] := List.getElem?_eq_getElem hkl
        refine ⟨L, ls.map vN, (k : Int), k, vN ls[k], rfl, congrArg (fun z => [V.int z]) hk', eL3, by omega, by omega, by rw [List.length_map]; exact seq_in hkl, by rw [List.getElem?_map, ek]; rfl, ?_⟩
        have eO4 : (upd H3 L (.lst ((ls.map vN).eraseIdx k))) O = some (.lst (os.map vN)) := by rw [upd_ne LO.symm]; exact eO3
        refine ⟨_, _, _, rfl, rfl, eO4, by rw [List.length_map]; exact small1000 (by omega), ?_⟩
        have el : (ls.eraseIdx k).length + 1 = ls.length := by rw [List.length_eraseIdx, if_pos hkl]; omega
        refine ⟨ls.eraseIdx k, os ++ [ls[k]], _, _, rfl, same_at (same_at sm3 nL) nO0, by rw [upd_ne LO, upd_same, erase_map], by rw [upd_same, List.map_append]; rfl, by omega, by rw [List.length_append, lo]; rfl, ?_⟩
        rw [List.append_assoc]
        exact ((erase_perm hkl).append_left os).trans pm
      · rintro σ H2 ⟨ls, os, y4, y5, rfl, sm2, eL2, eO2, ll, lo, pm⟩
        have sH := sm.trans sm2
        have ndo : os.Nodup := (List.nodup_append.mp (pm.nodup_iff.mpr nd)).1
        have sub : ∀ x ∈ os, x ∈ zs := fun x m => pm.mem_iff.mp (List.mem_append.mpr (.inl m))
        have t0 := part_lo (ns := ns) (s := sp + 2 * (0 + (i : Int))) (u := 60) (z := 7) (by decide)
        have t1 := part_hi (ns := ns) (s := sp + 2 * (0 + (i : Int))) (u := 60) (z := 7) (by decide)
        have fin : ∀ m : Int, 0 ≤ m → m ≤ 1000000000 → ∀ t, H2 t = none → ∀ e, (upd H2 t (.tup (os.map vN))) e = none → PairsAt (upd (upd (upd H2 t (.tup (os.map vN))) e (.tup [V.ref t, .int m])) D (.lst (es.map V.ref ++ [.ref e]))) (es ++ [e]) (ps ++ [(os, m)]) ∧ Same H (upd (upd (upd H2 t (.tup (os.map vN))) e (.tup [V.ref t, .int m])) D (.lst (es.map V.ref ++ [.ref e]))) ∧ ∀ p ∈ ps ++ [(os, m)], POk zs p := fun m m0 m9 t nt e ne => by
          have st := same_upd (o := .tup (os.map vN)) nt
          have se := same_upd (o := .tup [V.ref t, .int m]) ne
          have eD2 := se _ _ (st _ _ (sm2 _ _ eD))
          have h8 : PairsAt (upd (upd H2 t (.tup (os.map vN))) e (.tup [V.ref t, .int m])) (es ++ [e]) (ps ++ [(os, m)]) := ((hP.same sm2).same st).snoc se ⟨t, upd_same, se _ _ upd_same⟩
          refine ⟨⟨h8.1, fun j x hx => ?_⟩, same_at ((sH.trans st).trans se) nD, fun p hp => ?_⟩
          · obtain ⟨p, h1, t', h2, h3⟩ := h8.2 j x hx
            exact ⟨p, h1, t', by rw [upd_ne (ne_of h2 eD2 (by intro z; cases z))]; exact h2, by rw [upd_ne (ne_of h3 eD2 (by intro z; cases z))]; exact h3⟩
          · rcases List.mem_append.mp hp with h | h
            · exact hk p h
            · rw [List.mem_singleton.mp h]; exact ⟨ndo, sub, m0, m9⟩
        have z1000 : (es.map V.ref).length < sizeLine := by rw [List.length_map, hP.1]; exact small1000 (by omega)
        refine ⟨_, rfl, _, rfl, _, rfl, _, _, rfl, rfl, .inl ⟨by decide, by decide⟩, _, _, rfl, rfl, a, ns, _, 60, 7, rfl, sH.seq hA, by omega, by omega, by decide, by decide, by decide, ?_⟩
        refine ⟨_, rfl, _, rfl, _, rfl, _, _, rfl, rfl, .inl ⟨by decide, by decide⟩, _, _, rfl, rfl, a, ns, _, 420, 12, rfl, sH.seq hA, by omega, by omega, by decide, by decide, by decide, rfl, _, rfl, ite2 (fun e => ?_) (fun e => ?_)⟩
        · refine ⟨_, _, rfl, rfl, ⟨by decide, by decide, by decide⟩, _, rfl, _, _, rfl, rfl, ?_⟩
          refine ⟨_, rfl, .inl ⟨rfl, _, lstAt (sm2 _ _ eD)⟩, _, rfl, O, _, rfl, .inl ⟨lstAt eO2, fun t nt => ⟨_, rfl, (show (2 : Nat) ≤ sizeLine by decide), fun e ne => ?_⟩⟩⟩
          obtain ⟨f1, f2, f3⟩ := fin (1000000000 - partOf ns (sp + 2 * (0 + (i : Int))) 60 7) (by omega) (by omega) t nt e ne
          exact ⟨D, _, _, rfl, rfl, (same_upd ne) _ _ ((same_upd nt) _ _ (sm2 _ _ eD)), z1000, es ++ [e], _, _, _, _, _, _, rfl, f2, by rw [List.map_append]; exact upd_same, f1, f3, by rw [List.length_append, pl]; rfl⟩
        · refine ⟨_, rfl, .inl ⟨rfl, _, lstAt (sm2 _ _ eD)⟩, _, rfl, O, _, rfl, .inl ⟨lstAt eO2, fun t nt => ⟨_, rfl, (show (2 : Nat) ≤ sizeLine by decide), fun e ne => ?_⟩⟩⟩
          obtain ⟨f1, f2, f3⟩ := fin (partOf ns (sp + 2 * (0 + (i : Int))) 60 7) (by omega) (by omega) t nt e ne
          exact ⟨D, _, _, rfl, rfl, (same_upd ne) _ _ ((same_upd nt) _ _ (sm2 _ _ eD)), z1000, es ++ [e], _, _, _, _, _, _, rfl, f2, by rw [List.map_append]; exact upd_same, f1, f3, by rw [List.length_append, pl]; rfl⟩
    · rintro σ H1 ⟨es, ps, y1, y2, y3, y4, y5, rfl, sm, eD, hP, hk, pl⟩
      exact ⟨_, rfl, q _ D es ps nD sm eD hP hk (by omega)⟩
end
end TK

/-! the law's rows -/
namespace TK
open PySem PySem.Spec PyProof.Rows L2
theorem crest3 {j : Int} (h0 : 0 ≤ j) (h : j < 3) : ∃ u, atI [V.int 2, .int 4, .int 70] j = some (.int u) ∧ 0 < u ∧ u ≤ 70 := by
  rcases (by omega : j = 0 ∨ j = 1 ∨ j = 2) with rfl | rfl | rfl
  · exact ⟨2, atI_in (by decide) rfl, by decide, by decide⟩
  · exact ⟨4, atI_in (by decide) rfl, by decide, by decide⟩
  · exact ⟨70, atI_in (by decide) rfl, by decide, by decide⟩
theorem two2 {j : Int} (h0 : 0 ≤ j) (h : j < 2) : ∃ u, atI [V.int 1, .int 70] j = some (.int u) ∧ 0 < u ∧ u ≤ 70 := by
  rcases (by omega : j = 0 ∨ j = 1) with rfl | rfl
  · exact ⟨1, atI_in (by decide) rfl, by decide, by decide⟩
  · exact ⟨70, atI_in (by decide) rfl, by decide, by decide⟩
theorem cut_to_l (xs : List V) (i : Nat) : cutV xs none (some ((i : Nat) : Int)) = xs.take i := by
  unfold cutV
  rw [HT.sIx_none, List.drop_zero, Nat.sub_zero, HT.sIx_nat]
  by_cases h : i ≤ xs.length
  · rw [Nat.min_eq_left h]
  · rw [Nat.min_eq_right (by omega), List.take_length, List.take_of_length_le (by omega)]
theorem cut_to3 (xs : List V) : cutV xs none (some 3) = xs.take 3 := cut_to_l xs 3
theorem PairsAt.nil {H : Hp} : PairsAt H [] [] := ⟨rfl, fun _ _ h => nomatch h⟩
section
variable {P : Program} {w : World} {K : PySem.W.Frag} {mg : Str → Option Value} {base : Heap}
/-! _law_big -/
def spBig (K : PySem.W.Frag) : Sp := fun vs H Q _ => ∃ (a : Addr) (ns : List Int) (s l c : Int), vs = [.ref a, .int s, .int l, .int c] ∧ SqL K H a (ns.map V.int) ∧ 0 ≤ s ∧ s + 3 ≤ ns.length ∧ l ≤ c ∧ ∀ r : Int, l ≤ r → r ≤ c → Q (.int r) H
theorem ok_L_big {f : Addr} {fd : FuncData} (F : Fun K "_law_big" "_law_big" s_L_big f fd) (m_int : mg "int" = none) : FnOk P w K mg base CX0 1 f fd ["_law_pool_here", "_law_spot", "_law_least", "_law_crest"] (spBig K) := by
  refine F.ok sc_L_big (fun vs H Q E h => ?_) (fun cdv A outer s H vs Q E hr h => ?_)
  · obtain ⟨a, ns, s, l, c, rfl, _⟩ := h
    rfl
  · obtain ⟨a, ns, s, l, c, rfl, hS, h0, h1, lc, q⟩ := h
    refine ⟨_, (pss_cons (ps_set (i := 4) sc_L_big.nd rfl (.inl rfl) (pe_op op_add (pe_op op_add (pe_op op_mul (pe_op op_mod (pe_callTy call_int1 (by rfl) m_int (by decide +kernel) (pa_cons (pe_ix ix_list (pv 0) (pv 1) (fun _ _ => rfl)) pa_nil)) pe_int) pe_int) (pe_op op_mul (pe_op op_mod (pe_callTy call_int1 (by rfl) m_int (by decide +kernel) (pa_cons (pe_ix ix_list (pv 0) (pe_op op_add (pv 1) pe_int) (fun _ _ => rfl)) pa_nil)) pe_int) pe_int)) (pe_op op_mod (pe_callTy call_int1 (by rfl) m_int (by decide +kernel) (pa_cons (pe_ix ix_list (pv 0) (pe_op op_add (pv 1) pe_int) (fun _ _ => rfl)) pa_nil)) pe_int)))
  (pss_one (ps_ret (pe_op op_add (pv 2) (pe_op op_mod (pe_callTy call_int1 (by rfl) m_int (by decide +kernel) (pa_cons (pv 4) pa_nil)) (pe_op op_add (pe_op op_sub (pv 3) (pv 2)) pe_int)))))), ?_⟩
    refine ⟨_, rfl, _, rfl, _, _, _, _, rfl, rfl, hS, get_int (by omega) (by omega), .inl ⟨_, rfl, _, _, rfl, rfl, pz, _, _, rfl, rfl, .inr ⟨by decide, by decide⟩, ?_⟩⟩
    refine ⟨_, rfl, _, rfl, _, _, rfl, rfl, _, _, _, _, rfl, rfl, hS, get_int (by omega) (by omega), .inl ⟨_, rfl, _, _, rfl, rfl, pz, _, _, rfl, rfl, .inr ⟨by decide, by decide⟩, _, _, rfl, rfl, ?_⟩⟩
    refine ⟨_, rfl, _, rfl, _, _, rfl, rfl, _, _, _, _, rfl, rfl, hS, get_int (by omega) (by omega), .inl ⟨_, rfl, _, _, rfl, rfl, pz, _, _, rfl, rfl, ?_⟩⟩
    refine ⟨_, rfl, _, rfl, .inl ⟨_, rfl, _, rfl, _, rfl, _, _, rfl, rfl, _, _, rfl, rfl, _, _, rfl, rfl, (show (0 : Int) < c - l + 1 by omega), _, _, rfl, rfl, ?_⟩⟩
    generalize ns.getD s.toNat 0 % 5040 * 25401600 + ns.getD (s + 1).toNat 0 % 5040 * 5040 + ns.getD (s + 2).toNat 0 % 5040 = x
    have h2 := Int.emod_nonneg x (show c - l + 1 ≠ 0 by omega)
    have h3 := Int.emod_lt_of_pos x (show 0 < c - l + 1 by omega)
    exact q _ (by show l ≤ l + x % (c - l + 1); omega) (by show l + x % (c - l + 1) ≤ c; omega)
/-! _law_each_ballot -/
def spEach (K : PySem.W.Frag) : Sp := fun vs H Q _ => ∃ (a d : Addr) (zs : List Nam) (ns : List Int), vs = [.ref a, .ref d] ∧ SqL K H a (zs.map vN) ∧ zs.Nodup ∧ zs.length ≤ 4 ∧ SqL K H d (ns.map V.int) ∧ ns.length = 34 ∧ RowsOut zs H Q 65
theorem ok_L_each_ballot {f : Addr} {fd : FuncData} (F : Fun K "_law_each_ballot" "_law_each_ballot" s_L_each_ballot f fd) (m_range : mg "range" = none) (m_len : mg "len" = none)
    (d_L_part : Def P w K mg base "_law_part" 1 ["_law_pool_here", "_law_spot", "_law_under", "_law_size"] (spPart K)) (d_L_all_ballots : Def P w K mg base "_law_all_ballots" 1 ["_law_choices"] (spAllB K)) : FnOk P w K mg base CX0 2 f fd ["_law_choices", "_law_draws"] (spEach K) := by
  refine F.ok sc_L_each_ballot (fun vs H Q E h => ?_) (fun cdv A outer s H vs Q E hr h => ?_)
  · obtain ⟨a, d, zs, ns, rfl, _⟩ := h
    rfl
  · obtain ⟨a, d, zs, ns, rfl, hA, nd, z4, hD, n34, q⟩ := h
    refine ⟨_, (pss_cons (ps_set (i := 2) sc_L_each_ballot.nd rfl (.inr rfl) (pe_ix ix_list (pe_lst (pa_cons pe_int (pa_cons pe_int (pa_cons pe_int pa_nil)))) (pe_callD d_L_part (hr.mono (by decide)) (by rfl) (pa_cons (pv 1) (pa_cons pe_int (pa_cons pe_int (pa_cons pe_int pa_nil))))) (fun _ _ => rfl)))
  (pss_cons (ps_set (i := 3) sc_L_each_ballot.nd rfl (.inr rfl) (pe_callD d_L_all_ballots (hr.mono (by decide)) (by rfl) (pa_cons (pv 0) pa_nil)))
  (pss_one (ps_ret (pe_lc (own := [("_law_k", 4)]) (by rfl) sc_L_each_ballot.nd (pi_range1 (by rfl) m_range (pa_cons (pe_callB call_len_seq (by rfl) m_len (by decide +kernel) (pa_cons (pv 3) pa_nil)) pa_nil)) (blkOk_by (N := ["_law_choices", "_law_draws", "_law_crest", "_law_ballots_here", "_law_k"]) (sc := defScope s_L_each_ballot) (by decide +kernel)) (fun _ _ _ _ _ => (pg_name (i := 4) sc_L_each_ballot.nd rfl (.inl rfl))) (fun _ _ _ _ _ => pts_nil) (fun _ _ _ _ _ => (pe_tup (pa_cons (pe_ix (ix_listK (K := K) rfl) (pv 3) (pv 4) (fun _ _ => rfl)) (pa_cons (pe_op op_mod (pe_callD d_L_part (hr.mono (by decide)) (by rfl) (pa_cons (pv 1) (pa_cons (pe_op op_fdiv (pv 4) pe_int) (pa_cons (pe_ix (ix_listK (K := K) rfl) (pe_lst (pa_cons pe_int (pa_cons pe_int pa_nil))) (pe_op op_mod (pv 4) pe_int) (fun _ _ => rfl)) (pa_cons pe_int pa_nil))))) (pv 2)) pa_nil))))))))), ?_⟩
    have t0 := part_lo (ns := ns) (s := 33) (u := 1) (z := 3) (by decide)
    have t1 := part_hi (ns := ns) (s := 33) (u := 1) (z := 3) (by decide)
    obtain ⟨cr, ac, c0, c70⟩ := crest3 t0 t1
    refine ⟨(show (3 : Nat) ≤ sizeLine by decide), fun A1 nA1 => ?_⟩
    have s1 := same_upd (o := .lst [V.int 2, .int 4, .int 70]) nA1
    refine ⟨_, rfl, d, ns, 33, 1, 3, rfl, s1.seq hD, by decide, by omega, by decide, by decide, by decide, _, _, _, _, rfl, rfl, lstAt upd_same, ac, ?_⟩
    generalize upd H A1 (.lst [V.int 2, .int 4, .int 70]) = H1 at s1 ⊢
    refine ⟨_, rfl, a, zs, rfl, s1.seq hA, nd, z4, fun H2 r es nr s2 er hB => ?_⟩
    have s12 := s1.trans s2
    have el : (es.map V.ref).length = (allB zs zs.length).length := by rw [List.length_map, hB.1]
    have l65 := all_len (zs := zs) z4 (k := zs.length) z4
    refine ⟨_, rfl, r, _, rfl, .inl (lstAt er), _, rfl, by omega, by omega, fun D nD => ?_⟩
    have sD := same_upd (o := .lst []) nD
    refine lc_range (fun i H' => ∃ (os : List Addr) (rs : List BRow), Same H2 H' ∧ H' D = some (.lst (os.map V.ref)) ∧ PairsAt H' os rs ∧ (∀ p ∈ rs, POk zs p) ∧ rs.length = i) ⟨[], [], sD, upd_same, .nil, (fun _ h => nomatch h), rfl⟩ (fun i H' hi hq => ?_) (fun H' hq => ?_)
    · obtain ⟨os, rs, s3, eD, hR, hk, rl⟩ := hq
      have hi : i < (allB zs zs.length).length := by omega
      have hie : i < es.length := by rw [hB.1]; exact hi
      obtain ⟨b, eb, hb⟩ := hB.2 i _ (List.getElem?_eq_getElem hie)
      obtain ⟨bk, _⟩ := all_ok zs zs.length b (List.mem_of_getElem? eb)
      have ae : atI (es.map V.ref) (0 + (i : Int)) = some (.ref es[i]) := atI_in (by omega) (by rw [show (0 + (i : Int)).toNat = i by omega, List.getElem?_map, List.getElem?_eq_getElem hie]; rfl)
      obtain ⟨u, au, u0, u70⟩ := two2 (j := (0 + (i : Int)) % 2) (Int.emod_nonneg _ (by decide)) (Int.emod_lt_of_pos _ (by decide))
      refine ⟨rfl, yesT ⟨_, rfl, _, rfl, _, _, _, _, rfl, rfl, lstAt (s3 _ _ er), ae, _, rfl, _, rfl, _, _, rfl, rfl, ⟨by decide, by decide⟩, (show (2 : Nat) ≤ sizeLine by decide), fun A2 nA2 => ?_⟩⟩
      have sA2 := same_upd (o := .lst [V.int 1, .int 70]) nA2
      have p0 := part_lo (ns := ns) (s := (0 + (i : Int)) / 2) (u := u) (z := 70) (by decide)
      refine ⟨_, rfl, _, _, rfl, rfl, (show (0 : Int) < 2 by decide), _, _, _, _, rfl, rfl, lstAt upd_same, au, d, ns, _, u, 70, rfl, (s12.trans (s3.trans sA2)).seq hD, by omega, by omega, by omega, by omega, by decide, _, rfl, _, _, rfl, rfl, c0, (show (2 : Nat) ≤ sizeLine by decide), fun x nx => ?_⟩
      have m0 := Int.emod_nonneg (partOf ns ((0 + (i : Int)) / 2) u 70) (show cr ≠ 0 by omega)
      have m1 := Int.emod_lt_of_pos (partOf ns ((0 + (i : Int)) / 2) u 70) c0
      have sx := same_upd (o := .tup [V.ref es[i], .int (partOf ns ((0 + (i : Int)) / 2) u 70 % cr)]) nx
      have s4 := s3.trans (sA2.trans sx)
      have eD4 := sx _ _ (sA2 _ _ eD)
      refine ⟨_, eD4, by rw [List.length_map, hR.1, rl]; exact small1000 (by omega), os ++ [x], rs ++ [(b, partOf ns ((0 + (i : Int)) / 2) u 70 % cr)], same_at s4 nD, by rw [List.map_append]; exact upd_same, ?_, fun p hp => ?_, by rw [List.length_append, rl]; rfl⟩
      · exact (PairsAt.snoc (p := (b, partOf ns ((0 + (i : Int)) / 2) u 70 % cr)) (hR.same sA2) sx ⟨es[i], upd_same, s4 _ _ hb⟩).upd eD4
      · rcases List.mem_append.mp hp with m | m
        · exact hk p m
        · rw [List.mem_singleton.mp m]
          exact ⟨bk.1, bk.2, m0, by show partOf ns ((0 + (i : Int)) / 2) u 70 % cr ≤ 1000000000; omega⟩
    · obtain ⟨os, rs, s3, eD, hR, hk, rl⟩ := hq
      exact q _ D os rs (none_of s12 nD) (s12.trans s3) eD hR hk (by omega)
/-! _law_given -/
def spGiven (K : PySem.W.Frag) : Sp := fun vs H Q _ => ∃ (a h p : Addr) (c : Int) (zs : List Nam) (ns ms : List Int), vs = [.ref a, .ref h, .ref p, .int c] ∧ SqL K H a (zs.map vN) ∧ zs.Nodup ∧ zs.length ≤ 4 ∧ SqL K H h (ns.map V.int) ∧ 6 ≤ ns.length ∧ SqL K H p (ms.map V.int) ∧ 24 ≤ ms.length ∧ RowsOut zs H Q 65
theorem ok_L_given {f : Addr} {fd : FuncData} (F : Fun K "_law_given" "_law_given" s_L_given f fd) (m_range : mg "range" = none) (m_len : mg "len" = none) (m_int : mg "int" = none)
    (d_L_part : Def P w K mg base "_law_part" 1 ["_law_pool_here", "_law_spot", "_law_under", "_law_size"] (spPart K)) (d_L_pool : Def P w K mg base "_law_pool" 2 ["_law_cell_here", "_law_number"] spPool) (d_L_big : Def P w K mg base "_law_big" 1 ["_law_pool_here", "_law_spot", "_law_least", "_law_crest"] (spBig K))
    (d_L_ballots : Def P w K mg base "_law_ballots" 2 ["_law_pool_here", "_law_spot", "_law_options", "_law_number"] (spBallots K)) (d_L_each_ballot : Def P w K mg base "_law_each_ballot" 2 ["_law_choices", "_law_draws"] (spEach K)) (d_L_turned_about : Def P w K mg base "_law_turned_about" 1 ["_law_choices", "_law_given_here"] (spTurned K)) : FnOk P w K mg base CX0 3 f fd ["_law_choices", "_law_head", "_law_pool_here", "_law_cell_here"] (spGiven K) := by
  refine F.ok sc_L_given (fun vs H Q E h => ?_) (fun cdv A outer s H vs Q E hr h => ?_)
  · obtain ⟨a, h, p, c, zs, ns, ms, rfl, _⟩ := h
    rfl
  · obtain ⟨a, h, p, c, zs, ns, ms, rfl, hA, nd, z4, hH, n6, hM, m36, q⟩ := h
    refine ⟨_, (pss_cons (ps_set (i := 4) sc_L_given.nd rfl (.inr rfl) (pe_callD d_L_ballots (hr.mono (by decide)) (by rfl) (pa_cons (pv 2) (pa_cons pe_int (pa_cons (pv 0) (pa_cons (pe_callD d_L_part (hr.mono (by decide)) (by rfl) (pa_cons (pv 1) (pa_cons pe_int (pa_cons pe_int (pa_cons pe_int pa_nil))))) pa_nil))))))
  (pss_cons (ps_set (i := 5) sc_L_given.nd rfl (.inl rfl) (pe_callD d_L_part (hr.mono (by decide)) (by rfl) (pa_cons (pv 1) (pa_cons pe_int (pa_cons pe_int (pa_cons pe_int pa_nil))))))
  (pss_cons (ps_cut (ps_if (PW.pt (pw_and (pt_cmpR op_eq (pe_op op_mod (pv 5) pe_int) pe_int (nomark _)) (pw_and1 (pt_cmpR op_eq (pe_callD d_L_part (hr.mono (by decide)) (by rfl) (pa_cons (pv 1) (pa_cons pe_int (pa_cons pe_int (pa_cons pe_int pa_nil))))) pe_int (nomark _))))) (pss_one (ps_ret (pe_callD d_L_each_ballot (hr.mono (by decide)) (by rfl) (pa_cons (pv 0) (pa_cons (pe_callD d_L_pool (hr.mono (by decide)) (by rfl) (pa_cons (pv 3) (pa_cons pe_int pa_nil))) pa_nil))))) pss_nil))
  (pss_cons (ps_if (pt_cmpR op_eq (pv 5) pe_int (nomark _)) (pss_one (ps_ret (pe_lc (own := [("_law_ballot", 7), ("_law_times", 8)]) (by rfl) sc_L_given.nd (pi_list (pv 4)) (blkOk_by (N := ["_law_choices", "_law_head", "_law_pool_here", "_law_cell_here", "_law_given_here", "_law_way", "_law_far", "_law_ballot", "_law_times", "_law_k"]) (sc := defScope s_L_given) (by decide +kernel)) (fun _ _ _ _ _ => (pg_tupK (K := K) (n := 2) rfl (by rfl) (pgs_cons (pg_name (i := 7) sc_L_given.nd rfl (.inl rfl)) (pgs_cons (pg_name (i := 8) sc_L_given.nd rfl (.inl rfl)) pgs_nil)))) (fun _ _ _ _ _ => pts_nil) (fun _ _ _ _ _ => (pe_tup (pa_cons (pv 7) (pa_cons (pe_op op_mod (pe_callTy call_int1 (by rfl) m_int (by decide +kernel) (pa_cons (pv 8) pa_nil)) pe_int) pa_nil))))))) pss_nil)
  (pss_cons (ps_if (pt_cmpR op_eq (pv 5) pe_int (nomark _)) (pss_cons (ps_set (i := 6) sc_L_given.nd rfl (.inr rfl) (pe_callD d_L_pool (hr.mono (by decide)) (by rfl) (pa_cons (pv 3) (pa_cons pe_int pa_nil))))
  (pss_one (ps_ret (pe_lc (own := [("_law_k", 9)]) (by rfl) sc_L_given.nd (pi_range1 (by rfl) m_range (pa_cons (pe_callB call_len_seq (by rfl) m_len (by decide +kernel) (pa_cons (pv 4) pa_nil)) pa_nil)) (blkOk_by (N := ["_law_choices", "_law_head", "_law_pool_here", "_law_cell_here", "_law_given_here", "_law_way", "_law_far", "_law_ballot", "_law_times", "_law_k"]) (sc := defScope s_L_given) (by decide +kernel)) (fun _ _ _ _ _ => (pg_name (i := 9) sc_L_given.nd rfl (.inl rfl))) (fun _ _ _ _ _ => pts_nil) (fun _ _ _ _ _ => (pe_tup (pa_cons (pe_ix (ix_tupK (K := K) rfl) (pe_ix (ix_listK (K := K) rfl) (pv 4) (pv 9) (fun _ _ => rfl)) pe_int (fun _ _ => rfl)) (pa_cons (pe_callD d_L_big (hr.mono (by decide)) (by rfl) (pa_cons (pv 6) (pa_cons (pe_op op_mul pe_int (pv 9)) (pa_cons pe_int (pa_cons (pe_op op_pow pe_int pe_int) pa_nil))))) pa_nil)))))))) pss_nil)
  (pss_cons (ps_if (pt_cmpR op_eq (pv 5) pe_int (nomark _)) (pss_one (ps_ret (pe_callD d_L_turned_about (hr.mono (by decide)) (by rfl) (pa_cons (pv 0) (pa_cons (pe_slice sl_list (pv 4) po_none (po_some pe_int)) pa_nil))))) pss_nil)
  (pss_one (ps_ret (pv 4))))))))), ?_⟩
    have t0 := part_lo (ns := ns) (s := 5) (u := 4) (z := 13) (by decide)
    have t1 := part_hi (ns := ns) (s := 5) (u := 4) (z := 13) (by decide)
    refine ⟨_, rfl, _, rfl, _, rfl, h, ns, 5, 4, 13, rfl, hH, by decide, by omega, by decide, by decide, by decide, p, a, ms, 0, _, zs, rfl, hM, hA, by decide, by omega, by omega, by omega, z4, nd, fun H1 g es ps ng s1 eg hP hk pl => ?_⟩
    have gl : (es.map V.ref).length = ps.length := by rw [List.length_map, hP.1]
    refine ⟨_, rfl, h, ns, 5, 52, 4, rfl, s1.seq hH, by decide, by omega, by decide, by decide, by decide, ?_⟩
    refine ⟨fun σ H2 => H2 = H1 ∧ σ = [some (.ref a), some (.ref h), some (.ref p), some (.int c), some (.ref g), some (.int (partOf ns 5 52 4)), none, none, none, none], ?_, ?_⟩
    · refine ⟨_, rfl, _, _, rfl, rfl, pz, rfl, _, rfl, ite2 (fun e => ?_) (fun e => ?_)⟩
      · refine ⟨_, rfl, h, ns, 5, 1456, 3, rfl, s1.seq hH, by decide, by omega, by decide, by decide, by decide, rfl, _, rfl, ite2 (fun e => ?_) (fun e => ⟨rfl, rfl⟩)⟩
        refine ⟨_, rfl, _, rfl, c, 34, rfl, by decide, by decide, fun d ds nd2 dl d0 => ?_⟩
        have s2 := same_upd (o := .lst (ds.map V.int)) nd2
        refine ⟨a, d, zs, ds, rfl, (s1.trans s2).seq hA, nd, z4, lstAt upd_same, by omega, fun H3 r es' rs nr s3 er hR hk' rl => ?_⟩
        exact q H3 r es' rs (none_of (s1.trans s2) nr) ((s1.trans s2).trans s3) er hR hk' rl
      · exact iteF ⟨rfl, rfl⟩
    rintro σ H2 ⟨rfl, rfl⟩
    refine ⟨_, rfl, rfl, _, rfl, ite2 (fun e => ?_) (fun e => ?_)⟩
    · refine ⟨_, rfl, g, rfl, ⟨_, lstAt eg⟩, fun D nD => ?_⟩
      have sD := same_upd (o := .lst []) nD
      refine lc_list (K := K) (a := g) (xs := es.map V.ref) (fun i H' => ∃ (os : List Addr) (rs : List BRow), Same H2 H' ∧ H' D = some (.lst (os.map V.ref)) ∧ PairsAt H' os rs ∧ (∀ p ∈ rs, POk zs p) ∧ rs.length = i) ⟨[], [], sD, upd_same, .nil, (fun _ h => nomatch h), rfl⟩ (fun i H' _ hq => ?_) (fun i v H' hx hq => ?_) (fun H' hq => ?_)
      · obtain ⟨os, rs, s3, _⟩ := hq
        exact lstAt (s3 _ _ eg)
      · obtain ⟨os, rs, s3, eD, hR, hk2, rl⟩ := hq
        obtain ⟨e', r, rfl, _, er, t, he, ht⟩ := pairs_at (hP.same s3) hx
        have hi : i < ps.length := (List.getElem?_eq_some_iff.mp er).1
        have rk := hk r (List.mem_of_getElem? er)
        refine ⟨_, _, rfl, tupAt he, rfl, _, _, rfl, _, _, rfl, rfl, rfl, yesT ⟨_, rfl, _, rfl, .inl ⟨_, rfl, _, _, rfl, rfl, pz, (show (2 : Nat) ≤ sizeLine by decide), fun x nx => ?_⟩⟩⟩
        have m0 := Int.emod_nonneg r.2 (show (3 : Int) ≠ 0 by decide)
        have m1 := Int.emod_lt_of_pos r.2 (show (0 : Int) < 3 by decide)
        have sx := same_upd (o := .tup [V.ref t, .int (r.2 % 3)]) nx
        have eD4 := sx _ _ eD
        refine ⟨_, eD4, by rw [List.length_map, hR.1, rl]; exact small1000 (by omega), os ++ [x], rs ++ [(r.1, r.2 % 3)], same_at (s3.trans sx) nD, by rw [List.map_append]; exact upd_same, ?_, fun p hp => ?_, by rw [List.length_append, rl]; rfl⟩
        · exact (PairsAt.snoc (p := (r.1, r.2 % 3)) hR sx ⟨t, upd_same, sx _ _ ht⟩).upd eD4
        · rcases List.mem_append.mp hp with m | m
          · exact hk2 p m
          · rw [List.mem_singleton.mp m]
            exact ⟨rk.1, rk.2.1, m0, by show r.2 % 3 ≤ 1000000000; omega⟩
      · obtain ⟨os, rs, s3, eD, hR, hk2, rl⟩ := hq
        exact q _ D os rs (none_of s1 nD) (s1.trans s3) eD hR hk2 (by omega)
    refine ⟨_, rfl, rfl, _, rfl, ite2 (fun e => ?_) (fun e => ?_)⟩
    · refine ⟨_, rfl, c, 36, rfl, by decide, by decide, fun d ds nd2 dl d0 => ?_⟩
      have s2 := same_upd (o := .lst (ds.map V.int)) nd2
      have ed : (upd H2 d (.lst (ds.map V.int))) d = some (.lst (ds.map V.int)) := upd_same
      generalize upd H2 d (.lst (ds.map V.int)) = H3 at s2 ed ⊢
      refine ⟨_, rfl, g, _, rfl, .inl (lstAt (s2 _ _ eg)), _, rfl, by omega, by omega, fun D nD => ?_⟩
      have sD := same_upd (o := .lst []) nD
      refine lc_range (fun i H' => ∃ (os : List Addr) (rs : List BRow), Same H3 H' ∧ H' D = some (.lst (os.map V.ref)) ∧ PairsAt H' os rs ∧ (∀ p ∈ rs, POk zs p) ∧ rs.length = i) ⟨[], [], sD, upd_same, .nil, (fun _ h => nomatch h), rfl⟩ (fun i H' hi hq => ?_) (fun H' hq => ?_)
      · obtain ⟨os, rs, s3, eD, hR, hk2, rl⟩ := hq
        have hi : i < ps.length := by omega
        have hie : i < es.length := by rw [hP.1]; exact hi
        obtain ⟨r, er, t, he, ht⟩ := hP.2 i _ (List.getElem?_eq_getElem hie)
        have rk := hk r (List.mem_of_getElem? er)
        have ae : atI (es.map V.ref) (0 + (i : Int)) = some (.ref es[i]) := atI_in (by omega) (by rw [show (0 + (i : Int)).toNat = i by omega, List.getElem?_map, List.getElem?_eq_getElem hie]; rfl)
        have s23 := s2.trans s3
        refine ⟨rfl, yesT ⟨_, rfl, _, rfl, _, _, _, _, rfl, rfl, lstAt (s23 _ _ eg), ae, _, _, _, _, rfl, rfl, tupAt (s23 _ _ he), atI_in (by decide) rfl, _, rfl, _, rfl, _, _, rfl, rfl, .inl ⟨by decide, by decide⟩, _, _, rfl, rfl, ⟨by decide, by decide, by decide⟩, d, ds, _, _, _, rfl, s3.seq (lstAt ed), by omega, by omega, (show (0 : Int) ≤ 1000000000 by decide), fun x x0 x1 => ?_⟩⟩
        refine ⟨(show (2 : Nat) ≤ sizeLine by decide), fun y ny => ?_⟩
        have x1 : x ≤ 1000000000 := x1
        have sy := same_upd (o := .tup [V.ref t, .int x]) ny
        have eD4 := sy _ _ eD
        refine ⟨_, eD4, by rw [List.length_map, hR.1, rl]; exact small1000 (by omega), os ++ [y], rs ++ [(r.1, x)], same_at (s3.trans sy) nD, by rw [List.map_append]; exact upd_same, ?_, fun p hp => ?_, by rw [List.length_append, rl]; rfl⟩
        · exact (PairsAt.snoc (p := (r.1, x)) hR sy ⟨t, upd_same, sy _ _ (s23 _ _ ht)⟩).upd eD4
        · rcases List.mem_append.mp hp with m | m
          · exact hk2 p m
          · rw [List.mem_singleton.mp m]
            exact ⟨rk.1, rk.2.1, x0, x1⟩
      · obtain ⟨os, rs, s3, eD, hR, hk2, rl⟩ := hq
        exact q _ D os rs (none_of (s1.trans s2) nD) ((s1.trans s2).trans s3) eD hR hk2 (by omega)
    refine ⟨_, rfl, rfl, _, rfl, ite2 (fun e => ?_) (fun e => ?_)⟩
    · refine ⟨_, rfl, _, rfl, _, rfl, g, _, rfl, lstAt eg, fun S nS => ?_⟩
      rw [cut_to3, ← List.map_take]
      have sS := same_upd (o := .lst ((es.take 3).map V.ref)) nS
      refine ⟨a, S, zs, es.take 3, ps.take 3, rfl, (s1.trans sS).seq hA, nd, z4, upd_same, (hP.take 3).same sS, fun r m => hk r (List.mem_of_mem_take m), by rw [List.length_take]; omega, fun H3 r es' rs nr s3 er hR hk' rl => ?_⟩
      exact q H3 r es' rs (none_of (s1.trans sS) nr) ((s1.trans sS).trans s3) er hR hk' (by omega)
    · exact ⟨_, rfl, q H2 g es ps ng s1 eg hP hk (by omega)⟩
end
end TK

/-! the law's own count of votes; whether an order holds -/
namespace TK
open PySem PySem.Spec PyProof.Rows L2
theorem nil_eqv {ds : List PyData} : PyData.eqv (.list ds) (.list []) = decide (ds.length = 0) := by
  cases ds with
  | nil => rfl
  | cons d ds => rfl
theorem nmL_shape {ds : List PyData} (h3 : PyData.canLayAll0 ds = true) (h4 : PyData.depthAll ds ≤ 1) : SeqAt.shaped (.list ds) = true := by
  show ((PyData.list ds).canLay0 && decide ((PyData.list ds).depth ≤ 64)) = true
  rw [show (PyData.list ds).canLay0 = true by simp only [PyData.canLay0, h3], show (PyData.list ds).depth = PyData.depthAll ds + 1 by simp only [PyData.depth]]
  exact decide_eq_true (by omega)
theorem wsum_one (f : List Nam → Bool) (p : BRow) : wsum f [p] = if f p.1 then p.2 else 0 := by
  rw [wsum_cons]
  show _ + (0 : Int) = _
  omega
theorem votes_snoc {ps : List BRow} {i : Nat} {p : BRow} (h : ps[i]? = some p) (ks : List Nam) (z : Nam) : votesR (ps.take (i + 1)) ks z = votesR (ps.take i) ks z + if topN ks p.1 = some z then p.2 else 0 := by
  rw [votesR_w, votesR_w, List.take_add_one, h, wsum_app]
  congr 1
  show wsum _ [p] = _
  rw [wsum_one]
  by_cases e : topN ks p.1 = some z <;> simp [e]
def votesZ (zs : List Nam) (ps : List BRow) (ks : List Nam) : List Int := zs.map (votesR ps ks)
theorem votesZ_none {zs : List Nam} {ps : List BRow} {i : Nat} {p : BRow} (h : ps[i]? = some p) {ks : List Nam} (e : topN ks p.1 = none) : votesZ zs (ps.take (i + 1)) ks = votesZ zs (ps.take i) ks := by
  unfold votesZ
  refine List.map_congr_left fun z _ => ?_
  rw [votes_snoc h, e, if_neg (fun h => nomatch h)]
  omega
theorem votesZ_some {zs : List Nam} (nd : zs.Nodup) {ps : List BRow} {i : Nat} {p : BRow} (h : ps[i]? = some p) {ks : List Nam} {z : Nam} (mz : z ∈ zs) (e : topN ks p.1 = some z) : votesZ zs (ps.take (i + 1)) ks = (votesZ zs (ps.take i) ks).set (zs.idxOf z) (votesR (ps.take i) ks z + p.2) := by
  have hl := List.idxOf_lt_length_iff.mpr mz
  have hz := List.getElem_idxOf hl
  unfold votesZ
  refine List.ext_getElem (by rw [List.length_set, List.length_map, List.length_map]) fun j h1 h2 => ?_
  rw [List.length_map] at h1
  rw [List.getElem_map, List.getElem_set, votes_snoc h, e]
  by_cases q : zs.idxOf z = j
  · subst q
    rw [if_pos rfl, hz, if_pos rfl]
  · rw [if_neg q, List.getElem_map, if_neg (fun e2 => q ?_)]
    · omega
    · have e2 := Option.some.inj e2
      refine (List.getElem?_inj hl nd).mp ?_
      rw [List.getElem?_eq_getElem hl, List.getElem?_eq_getElem h1, hz, e2]
theorem votesZ_at {zs : List Nam} {ps : List BRow} {ks : List Nam} {z : Nam} (mz : z ∈ zs) : atI ((votesZ zs ps ks).map V.int) ((zs.idxOf z : Nat) : Int) = some (.int (votesR ps ks z)) := by
  have hl := List.idxOf_lt_length_iff.mpr mz
  refine atI_in (by omega) ?_
  unfold votesZ
  rw [Int.toNat_natCast, List.getElem?_map, List.getElem?_map, List.getElem?_eq_getElem hl, List.getElem_idxOf hl]
  rfl
theorem ixN_at {n : Nat} {i : Nat} (h : i < n) : ixN n ((i : Nat) : Int) = some i := by
  unfold ixN
  rw [if_pos (by omega), if_pos (by omega), Int.toNat_natCast]
section
variable {P : Program} {w : World} {K : PySem.W.Frag} {mg : Str → Option Value} {base : Heap}
/-! _law_votes -/
def spVotesL (K : PySem.W.Frag) : Sp := fun vs H Q _ => ∃ (r b l : Addr) (zs ks : List Nam) (es : List Addr) (ps : List BRow), vs = [.ref r, .ref b, .ref l] ∧ H r = some (.lst (es.map V.ref)) ∧ PairsAt H es ps ∧ (∀ p ∈ ps, p.1.length ≤ 10 ∧ ∀ x ∈ p.1, x ∈ zs) ∧ SqL K H b (zs.map vN) ∧ (∀ z ∈ zs, Nm z) ∧ zs.Nodup ∧ zs.length ≤ 10 ∧ SqL K H l (ks.map vN) ∧
  ∀ H' t, H t = none → Same H H' → H' t = some (.lst ((votesZ zs ps ks).map V.int)) → Q (.ref t) H'
theorem ok_L_votes {f : Addr} {fd : FuncData} (F : Fun K "_law_votes" "_law_votes" s_L_votes f fd) : FnOk P w K mg base CX0 1 f fd ["_law_rows", "_law_options", "_law_left"] (spVotesL K) := by
  refine F.ok sc_L_votes (fun vs H Q E h => ?_) (fun cdv A outer s H vs Q E hr h => ?_)
  · obtain ⟨r, b, l, zs, ks, es, ps, rfl, _⟩ := h
    rfl
  · obtain ⟨r, b, l, zs, ks, es, ps, rfl, hG, hP, hS, hB, nm, nd, z10, hL, q⟩ := h
    have el : (es.map V.ref).length = ps.length := by rw [List.length_map, hP.1]
    refine ⟨_, (pss_cons (ps_setLc (i := 3) (own := [("_law_option", 7)]) (by rfl) sc_L_votes.nd rfl rfl (sw_true rfl rfl rfl (by decide +kernel)) (pi_list (pv 1)) (blkOk_by (N := ["_law_rows", "_law_options", "_law_left", "_law_votes_here", "_law_ballot", "_law_times", "_law_tops", "_law_option"]) (sc := defScope s_L_votes) (by decide +kernel)) (fun _ _ _ _ _ => (pg_name (i := 7) sc_L_votes.nd rfl (.inl rfl))) (fun _ _ _ _ _ => pts_nil) (fun _ _ _ _ _ => pe_int))
  (pss_cons (ps_for PassesOwn.never rfl (pi_list (pv 0)) (pg_tup (by rfl) (pgs_cons (pg_name (i := 4) sc_L_votes.nd rfl (.inl rfl)) (pgs_cons (pg_name (i := 5) sc_L_votes.nd rfl (.inl rfl)) pgs_nil)))
    (pss_cons (ps_setLc (i := 6) (own := [("_law_option", 7)]) (by rfl) sc_L_votes.nd rfl rfl (sw_true rfl rfl rfl (by decide +kernel)) (pi_tup (pv 4)) (blkOk_by (N := ["_law_rows", "_law_options", "_law_left", "_law_votes_here", "_law_ballot", "_law_times", "_law_tops", "_law_option"]) (sc := defScope s_L_votes) (by decide +kernel)) (fun _ _ _ _ _ => (pg_name (i := 7) sc_L_votes.nd rfl (.inl rfl))) (fun _ _ _ _ _ => (pts_one (pt_cmpR (op_in_seqK (K := K) rfl) (pv 7) (pv 2) (by rfl)))) (fun _ _ _ _ _ => (pv 7)))
  (pss_one (ps_if (pt_cmpR (op_neD hr.units) (pv 6) (pe_lst pa_nil) (nomark _)) (pss_one (ps_asg (pe_op op_add (pe_ix ix_list (pv 3) (pe_bm PySem.F.plainAttrs_list PySem.F.slot_list_index PySem.F.type_list_index mt_index (pv 1) (pa_cons (pe_ix ix_list (pv 6) pe_int (fun _ _ => rfl)) pa_nil)) (fun _ _ => rfl)) (pv 5)) (pg_sub (pv 3) (pe_bm PySem.F.plainAttrs_list PySem.F.slot_list_index PySem.F.type_list_index mt_index (pv 1) (pa_cons (pe_ix ix_list (pv 6) pe_int (fun _ _ => rfl)) pa_nil)) set_list))) pss_nil))))
  (pss_one (ps_ret (pv 3))))), ?_⟩
    refine ⟨_, rfl, b, rfl, ⟨_, hB⟩, fun D nD => ?_⟩
    refine lc_list (K := K) (a := b) (xs := zs.map vN) (fun i H' => H' = upd H D (.lst ((zs.take i).map fun _ => V.int 0))) rfl (fun i H' _ e => e ▸ (same_upd nD).seq hB) (fun i v H' hx hq => ?_) (fun H' hq => ?_)
    · subst hq
      obtain ⟨z, ez, rfl⟩ := vN_at hx
      have hi : i < zs.length := (List.getElem?_eq_some_iff.mp ez).1
      refine ⟨rfl, yesT ⟨_, upd_same, by rw [List.length_map, List.length_take]; exact small1000 (by omega), ?_⟩⟩
      rw [upd_twice, List.take_add_one, ez, List.map_append]
      rfl
    subst hq
    rw [List.length_map, List.take_length, show zs.map (fun _ => V.int 0) = (votesZ zs (ps.take 0) ks).map V.int by unfold votesZ; rw [List.map_map]; rfl]
    have s0 := same_upd (o := .lst ((votesZ zs (ps.take 0) ks).map V.int)) nD
    refine ⟨_, rfl, r, rfl, ⟨_, lstAt (s0 _ _ hG)⟩, for_list (K := K) (a := r) (xs := es.map V.ref) (fun i σ H' => ∃ (y4 y5 y6 y7 : Option V), σ = [some (.ref r), some (.ref b), some (.ref l), some (.ref D), y4, y5, y6, y7] ∧ Same H H' ∧ H' D = some (.lst ((votesZ zs (ps.take i) ks).map V.int))) ⟨_, _, _, _, rfl, s0, upd_same⟩ (fun i σ H' _ hq => ?_) ?_ ?_⟩
    · obtain ⟨y4, y5, y6, y7, rfl, s1, eD⟩ := hq
      exact lstAt (s1 _ _ hG)
    · rintro i x σ H1 hx ⟨y4, y5, y6, y7, rfl, s1, eD⟩
      obtain ⟨e, p, rfl, _, ep, t, he, ht⟩ := pairs_at (hP.same s1) hx
      have hi : i < ps.length := (List.getElem?_eq_some_iff.mp ep).1
      obtain ⟨b10, sub⟩ := hS p (List.mem_of_getElem? ep)
      refine ⟨_, _, rfl, tupAt he, rfl, _, _, rfl, _, _, rfl, rfl, ?_⟩
      refine ⟨_, rfl, t, rfl, ⟨_, tupAt ht⟩, fun W nW => ?_⟩
      refine lc_tup (K := K) (a := t) (xs := p.1.map vN) (fun j H' => H' = upd H1 W (.lst (((p.1.take j).filter fun z => decide (z ∈ ks)).map vN))) rfl (fun j H' _ e => e ▸ tupAt ((same_upd nW) _ _ ht)) (fun j v H' hx2 hq => ?_) (fun H' hq => ?_)
      · subst hq
        obtain ⟨z, ez, rfl⟩ := vN_at hx2
        have hj : j < p.1.length := (List.getElem?_eq_some_iff.mp ez).1
        refine ⟨rfl, _, rfl, _, rfl, l, _, rfl, .inl ((s1.trans (same_upd nW)).seq hL), rfl, nms_flat _, _, rfl, ?_⟩
        rw [in_nm, flt_snoc ez]
        by_cases h : z ∈ ks
        · rw [decide_eq_true h, if_pos rfl]
          refine iteT ⟨_, rfl, _, upd_same, ?_, ?_⟩
          · have l1 : ((p.1.take j).filter fun z => decide (z ∈ ks)).length ≤ (p.1.take j).length := List.length_filter_le _ _
            rw [List.length_take] at l1
            rw [List.length_map]
            exact small1000 (by omega)
          · rw [upd_twice, List.map_append]
            rfl
        · rw [decide_eq_false h, if_neg (by decide), List.append_nil]
          exact iteF rfl
      subst hq
      rw [List.length_map, List.take_length]
      have sW := same_upd (o := .lst ((p.1.filter fun z => decide (z ∈ ks)).map vN)) nW
      have eW : (upd H1 W (.lst ((p.1.filter fun z => decide (z ∈ ks)).map vN))) W = some (.lst ((p.1.filter fun z => decide (z ∈ ks)).map vN)) := upd_same
      have sHW := s1.trans sW
      have eDW := sW _ _ eD
      generalize upd H1 W (.lst ((p.1.filter fun z => decide (z ∈ ks)).map vN)) = H2 at sW eW sHW eDW ⊢
      have hnm : ∀ z ∈ p.1.filter fun z => decide (z ∈ ks), NmH z := fun z m => .inl (nm z (sub z (List.mem_filter.mp m).1))
      refine ⟨_, rfl, Nat.zero_le _, fun N nN => ?_⟩
      have sN := same_upd (o := .lst []) nN
      obtain ⟨d1, d3, d4⟩ := namesH_dp (K := K) (H := upd H2 N (.lst [])) hnm
      refine ⟨.list _, .list [], .lst (lstAt (sN _ _ eW)) d1, .lst (lstAt upd_same) .nil, nmL_shape d3 d4, rfl, _, rfl, ?_⟩
      rw [nil_eqv, List.length_map]
      have eWN := sN _ _ eW
      have eDN := sN _ _ eDW
      have sHN := sHW.trans sN
      generalize upd H2 N (.lst []) = H3 at sN eWN eDN sHN ⊢
      have hd : topN ks p.1 = (p.1.filter fun z => decide (z ∈ ks)).head? := List.head?_filter.symm
      cases eF : p.1.filter fun z => decide (z ∈ ks) with
      | nil =>
        rw [eF] at hd
        rw [decide_eq_true (show ([] : List Nam).length = 0 from rfl)]
        exact iteF ⟨_, _, _, _, rfl, sHN, by rw [votesZ_none ep hd]; exact eDN⟩
      | cons z ls =>
        rw [eF] at hd eWN
        have mz : z ∈ zs := sub z (List.mem_filter.mp (show z ∈ p.1.filter fun z => decide (z ∈ ks) by rw [eF]; exact List.mem_cons_self)).1
        rw [decide_eq_false (show ¬ (z :: ls).length = 0 from Nat.succ_ne_zero _)]
        obtain ⟨f1, f2, f3⟩ := nmV_first nd mz
        have hl := List.idxOf_lt_length_iff.mpr mz
        have hB3 := sHN.seq hB
        refine iteT ⟨_, rfl, _, rfl, .inl ⟨rfl, _, hB3⟩, _, rfl, _, _, _, vN z, rfl, rfl, lstAt eWN, atI_in (by decide) rfl, b, _, _, _, _, rfl, rfl, hB3, rfl, nms_flat _, f1, f2, f3, _, _, _, _, rfl, rfl, lstAt eDN, votesZ_at mz, _, rfl, _, _, rfl, rfl, ?_⟩
        refine ⟨_, rfl, _, rfl, .inl ⟨rfl, _, hB3⟩, _, rfl, _, _, _, vN z, rfl, rfl, lstAt eWN, atI_in (by decide) rfl, b, _, _, _, _, rfl, rfl, hB3, rfl, nms_flat _, f1, f2, f3, D, _, _, _, rfl, rfl, eDN, ixN_at (by unfold votesZ; rw [List.length_map, List.length_map]; exact hl), ?_⟩
        refine ⟨_, _, _, _, rfl, same_at sHN nD, ?_⟩
        rw [votesZ_some nd ep mz hd, List.map_set]
        exact upd_same
    · rintro σ H1 ⟨y4, y5, y6, y7, rfl, s1, eD⟩
      rw [el, List.take_length] at eD
      exact ⟨_, rfl, q H1 D nD s1 eD⟩
end
end TK

/-! the law -/
namespace TK
open PySem PySem.Spec PyProof.Rows L2
theorem rows_nd {zs : List Nam} {R ps : List BRow} (isR : IsRows (R.map fun r => (plOf zs r.1, r.2)) (ps.map fun p => (plOf zs p.1, p.2))) : (R.map (·.1)).Nodup := by
  have hp := isR.srt
  rw [List.pairwise_map] at hp
  rw [List.nodup_iff_pairwise_ne, List.pairwise_map]
  refine hp.imp fun {x y} h e => ?_
  have h : HT.lexLt (plOf zs x.1) (plOf zs y.1) = true := h
  rw [e, lex_irr] at h
  cases h
theorem rows_len {zs : List Nam} {R ps : List BRow} (isR : IsRows (R.map fun r => (plOf zs r.1, r.2)) (ps.map fun p => (plOf zs p.1, p.2))) (mR : ∀ r ∈ R, ∃ p ∈ ps, r.1 = p.1) : R.length ≤ ps.length := by
  have := nd_lenP (zs := ps.map (·.1)) (rows_nd isR) fun b m => by
    obtain ⟨r, hr, rfl⟩ := List.mem_map.mp m
    obtain ⟨p, hp, e⟩ := mR r hr
    exact List.mem_map.mpr ⟨p, hp, e.symm⟩
  rw [List.length_map, List.length_map] at this
  exact this
theorem rows_pos {zs : List Nam} {R ps : List BRow} (isR : IsRows (R.map fun r => (plOf zs r.1, r.2)) (ps.map fun p => (plOf zs p.1, p.2))) : ∀ r ∈ R, 0 ≤ r.2 := fun r m => by
  have := ((isR.mem (plOf zs r.1) r.2).mp (List.mem_map.mpr ⟨r, m, rfl⟩)).2
  omega
theorem rows_ok {zs : List Nam} {R ps : List BRow} (mR : ∀ r ∈ R, ∃ p ∈ ps, r.1 = p.1) (hk : ∀ p ∈ ps, POk zs p) : ∀ r ∈ R, r.1.Nodup ∧ ∀ x ∈ r.1, x ∈ zs := fun r m => by
  obtain ⟨p, hp, e⟩ := mR r m
  rw [e]
  exact ⟨(hk p hp).1, (hk p hp).2.1⟩
/-- a roll is made of a list of names and a list of rows -/
theorem make_goR {K : PySem.W.Frag} {C CS : Addr} {H : Hp} {x dx a b : Addr} {zs : List Nam} {es : List Addr} {ps : List BRow} {T : Hp → Prop} {E : XK} (n1 : H x = none) (n2 : H dx = none) (ne : dx ≠ x) (hA : SqL K H a (zs.map vN)) (hB : H b = some (.lst (es.map V.ref))) (hP : PairsAt H es ps) (hk : ∀ p ∈ ps, POk zs p) (pl : ps.length ≤ 1000)
    (nm : ∀ z ∈ zs, Nm z) (nd : zs.Nodup) (z1 : 1 ≤ zs.length) (z4 : zs.length ≤ 4)
    (k : ∀ H' R, RoAt C H' x zs R → IsRows (R.map fun r => (plOf zs r.1, r.2)) (ps.map fun p => (plOf zs p.1, p.2)) → (∀ r ∈ R, ∃ p ∈ ps, r.1 = p.1) → Same H H' → T H') : spInitR K C CS [.ref x, .ref a, .ref b] (upd (upd H dx (.own x)) x (.ins C dx [])) (fun v H2 => v = .non ∧ T H2) E := by
  have sdx := same_upd (o := .own x) n2
  have nmm : (upd H dx (.own x)) x = none := by rw [upd_ne ne.symm]; exact n1
  have sm := sdx.trans (same_upd (o := .ins C dx []) nmm)
  exact ⟨x, a, b, dx, zs, es, ps, rfl, upd_same, .inl (sm.seq hA), .inl ⟨.inl (sm _ _ hB), hk⟩, hP.same sm, pl, nm, nd, z1, z4, fun p m => ⟨(hk p m).1, (hk p m).2.1⟩, fun H' R ro isR mR fr => ⟨rfl, k H' R ro isR mR fun c o e => fr c o (sm _ _ e) (ne_of_none e n1)⟩⟩
/-- a roll is made of a list of names alone -/
theorem make_goR0 {K : PySem.W.Frag} {C CS : Addr} {H : Hp} {x dx a b : Addr} {zs : List Nam} {T : Hp → Prop} {E : XK} (n1 : H x = none) (n2 : H dx = none) (ne : dx ≠ x) (hA : SqL K H a (zs.map vN)) (hB : EmpK K b)
    (nm : ∀ z ∈ zs, Nm z) (nd : zs.Nodup) (z1 : 1 ≤ zs.length) (z4 : zs.length ≤ 4)
    (k : ∀ H' R, RoAt C H' x zs R → (∀ f, wsum f R = wsum f []) → R = [] → Same H H' → T H') : spInitR K C CS [.ref x, .ref a, .ref b] (upd (upd H dx (.own x)) x (.ins C dx [])) (fun v H2 => v = .non ∧ T H2) E := by
  have sdx := same_upd (o := .own x) n2
  have nmm : (upd H dx (.own x)) x = none := by rw [upd_ne ne.symm]; exact n1
  have sm := sdx.trans (same_upd (o := .ins C dx []) nmm)
  refine ⟨x, a, b, dx, zs, [], [], rfl, upd_same, .inl (sm.seq hA), .inl ⟨.inr (.inr ⟨hB, rfl⟩), fun _ h => nomatch h⟩, ⟨rfl, fun _ _ h => nomatch h⟩, Nat.zero_le _, nm, nd, z1, z4, (fun _ h => nomatch h), fun H' R ro isR mR fr => ⟨rfl, ?_⟩⟩
  have hR : R = [] := by
    cases R with
    | nil => rfl
    | cons r R => obtain ⟨p, hp, _⟩ := mR r List.mem_cons_self; cases hp
  subst hR
  exact k H' [] ro (fun _ => rfl) rfl fun c o e => fr c o (sm _ _ e) (ne_of_none e n1)
end TK

/-! the law's own table -/
namespace TK
open PySem PySem.Spec PyProof.Rows L2
theorem ints_dp {K : PySem.W.Frag} {H : Hp} : ∀ ns : List Int, DpAll K H (ns.map V.int) (ns.map PyData.int) ∧ PyData.canLayAll0 (ns.map PyData.int) = true ∧ PyData.depthAll (ns.map PyData.int) ≤ 1
  | [] => ⟨.nil, by simp [PyData.canLayAll0], by simp [PyData.depthAll]⟩
  | n :: ns => by
    obtain ⟨h1, h2, h3⟩ := ints_dp (K := K) (H := H) ns
    exact ⟨.cons (.int n) h1, by simp [PyData.canLayAll0, PyData.canLay0, h2], by simp only [List.map_cons, PyData.depthAll, PyData.depth]; omega⟩
/-! the same sums, the same table -/
theorem votesL_eq {R ps : List BRow} (h : ∀ f, wsum f R = wsum f ps) (ks : List Nam) : votesL R ks = votesL ps ks := List.map_congr_left fun z _ => by rw [votesR_w, votesR_w, h]
theorem leaverK_eq {R ps : List BRow} (h : ∀ f, wsum f R = wsum f ps) (ks : List Nam) : leaverK R ks = leaverK ps ks := by unfold leaverK; rw [votesL_eq h]
theorem sumR_w (R : List BRow) : sumR R = wsum (fun _ => true) R := by
  unfold sumR wsum
  rw [List.filter_eq_self.mpr fun _ _ => rfl]
theorem remK_eq {R ps : List BRow} (h : ∀ f, wsum f R = wsum f ps) (zs : List Nam) : ∀ n, remK R zs n = remK ps zs n
  | 0 => rfl
  | n + 1 => by
    show stepK R (remK R zs n) = stepK ps (remK ps zs n)
    rw [remK_eq h zs n]
    unfold stepK
    rw [leaverK_eq h]
/-! what no one gets -/
def spentK (ps : List BRow) (ks : List Nam) : Int := wsum (fun b => decide (topN ks b = none)) ps
theorem sum_one {m : Int} {z : Nam} : ∀ {ks : List Nam}, ks.Nodup → z ∈ ks → (ks.map fun y => if some z = some y then m else 0).sum = m
  | y :: ks, nd, h => by
    obtain ⟨n1, n2⟩ := List.nodup_cons.mp nd
    rw [List.map_cons, List.sum_cons]
    by_cases e : z = y
    · subst e
      rw [if_pos rfl]
      have : ∀ l : List Nam, z ∉ l → (l.map fun y => if some z = some y then m else 0).sum = 0 := fun l => by
        induction l with
        | nil => intro _; rfl
        | cons u l ih =>
          intro h
          rw [List.map_cons, List.sum_cons, if_neg (fun e => h (by rw [Option.some.inj e]; exact List.mem_cons_self)), ih fun m => h (List.mem_cons_of_mem _ m)]
          rfl
      rw [this ks n1]
      omega
    · rw [if_neg (fun h => e (Option.some.inj h)), sum_one n2 ((List.mem_cons.mp h).resolve_left e)]
      omega
theorem sum_add (f g : Nam → Int) : ∀ ks : List Nam, (ks.map fun y => f y + g y).sum = (ks.map f).sum + (ks.map g).sum
  | [] => rfl
  | y :: ks => by
    rw [List.map_cons, List.map_cons, List.map_cons, List.sum_cons, List.sum_cons, List.sum_cons, sum_add f g ks]
    omega
theorem sum_nil {ks : List Nam} : (ks.map fun _ => (0 : Int)).sum = 0 := by
  induction ks with
  | nil => rfl
  | cons y ks ih => rw [List.map_cons, List.sum_cons, ih]; rfl
theorem top_mem {ks b : List Nam} {z : Nam} (h : topN ks b = some z) : z ∈ ks ∧ z ∈ b := by
  unfold topN at h
  have := List.find?_some h
  exact ⟨of_decide_eq_true this, List.mem_of_find?_eq_some h⟩
theorem spent_eq {ks : List Nam} (nd : ks.Nodup) : ∀ ps : List BRow, sumR ps - (votesL ps ks).sum = spentK ps ks
  | [] => by
    have : votesL [] ks = ks.map fun _ => 0 := List.map_congr_left fun z _ => by rw [votesR_w]; rfl
    rw [this, sum_nil]
    rfl
  | p :: ps => by
    have ih := spent_eq nd ps
    have e : votesL (p :: ps) ks = ks.map fun y => (if topN ks p.1 = some y then p.2 else 0) + votesR ps ks y := List.map_congr_left fun z _ => by
      rw [votesR_w, wsum_cons, ← votesR_w]
      by_cases h : topN ks p.1 = some z <;> simp [h]
    rw [e, sum_add]
    have s1 : sumR (p :: ps) = p.2 + sumR ps := by rw [sumR_w, sumR_w, wsum_cons, if_pos rfl]
    have s2 : (ks.map (votesR ps ks)).sum = (votesL ps ks).sum := rfl
    have s3 : spentK (p :: ps) ks = (if topN ks p.1 = none then p.2 else 0) + spentK ps ks := by
      unfold spentK
      rw [wsum_cons]
      by_cases h : topN ks p.1 = none <;> simp [h]
    rw [s1, s2, s3]
    cases h : topN ks p.1 with
    | none =>
      rw [show (ks.map fun y => if none = some y then p.2 else 0).sum = 0 from by
        rw [show (ks.map fun y => if (none : Option Nam) = some y then p.2 else 0) = ks.map fun _ => 0 from List.map_congr_left fun z _ => if_neg (fun h => nomatch h)]
        exact sum_nil, if_pos rfl]
      omega
    | some z =>
      rw [sum_one nd (top_mem h).1, if_neg (fun h => nomatch h)]
      omega
theorem spent_snoc {ps : List BRow} {i : Nat} {p : BRow} (h : ps[i]? = some p) (ks : List Nam) : spentK (ps.take (i + 1)) ks = spentK (ps.take i) ks + if topN ks p.1 = none then p.2 else 0 := by
  unfold spentK
  rw [List.take_add_one, h, wsum_app]
  congr 1
  show wsum _ [p] = _
  rw [wsum_one]
  by_cases e : topN ks p.1 = none <;> simp [e]
/-! the latest with the fewest -/
theorem late_leaves {ps : List BRow} {ks : List Nam} (nd : ks.Nodup) (l : 1 < ks.length) {m : Nat} (hm : m < ks.length) (h1 : ∀ j (hj : j < ks.length), votesR ps ks ks[m] ≤ votesR ps ks ks[j]) (h2 : ∀ j (hj : j < ks.length), m < j → votesR ps ks ks[m] < votesR ps ks ks[j]) : leaverK ps ks = some ks[m] := by
  refine holds_leaver (zs := ks) (up_zs nd) (fun _ h => h) l (List.getElem_mem _) fun y hy hne => ?_
  obtain ⟨j, hj, rfl⟩ := List.mem_iff_getElem.mp hy
  unfold leadN
  rw [nd.idxOf_getElem j hj, nd.idxOf_getElem m hm]
  by_cases h : j < m
  · rw [if_pos h]
    have := h1 j hj
    omega
  · rw [if_neg h]
    have : m < j := by
      by_cases e : m = j
      · subst e; exact absurd rfl hne
      · omega
    have := h2 j hj this
    omega
theorem ks_ix {ks : List Nam} {ps : List BRow} {k : Nat} (h : k < ks.length) : atI ((votesZ ks ps ks).map V.int) (0 + (k : Int)) = some (.int (votesR ps ks ks[k])) := by
  refine atI_in (by omega) ?_
  unfold votesZ
  rw [show (0 + (k : Int)).toNat = k by omega, List.getElem?_map, List.getElem?_map, List.getElem?_eq_getElem h]
  rfl
theorem nm_ix {zs : List Nam} {k : Nat} (h : k < zs.length) : atI (zs.map vN) (0 + (k : Int)) = some (vN zs[k]) := atI_in (by omega) (by rw [show (0 + (k : Int)).toNat = k by omega, List.getElem?_map, List.getElem?_eq_getElem h]; rfl)
end TK

/-! dict(zip(list, tuple)); tuple(d.values()) -/
namespace PySem
open Sem (wp)
section
variable {prog : Program} {w : World} {A : Around} {E : Value → Shared → Prop} {s : Shared} {z TI TO T i1 i2 : Addr} {fp1 fp2 : List Addr} {n1 n2 i : Nat} {P1 P2 : Nat → Value → Prop} {St1 St2 : Nat → Heap → Prop} {f : Bool} {oT : Obj}
theorem zipD2_next_item_held {Q : Value → Shared → Prop} (S : ZipSep2 z TI TO i1 i2 fp1 fp2) (D1 : Draws prog w A i1 fp1 n1 P1 St1) (D2 : Draws prog w A i2 fp2 n2 P2 St2)
    (hz : IsZipHeld s.heap z TI TO T f) (hT : s.heap.get? T = some oT) (hTI : IsTupOf2 s.heap TI (.ref i1) (.ref i2)) (st1 : St1 i s.heap) (st2 : St2 i s.heap) (hlt1 : i < n1) (hlt2 : i < n2)
    (hQ : ∀ x1 x2 h' tk, P1 i x1 → P2 i x2 → IsZipHeld h' z TI TO T true → St1 (i + 1) h' → St2 (i + 1) h' → IsTupOf2 h' s.heap.objs.size x1 x2 → h'.objs.size = s.heap.objs.size + 1 →
      (∀ c o, c ≠ z → c ≠ i1 → c ≠ i2 → s.heap.get? c = some o → h'.get? c = some o) → Q (.ref s.heap.objs.size) { s with heap := h', toks := tk }) :
    wpAny (model prog w) A (Builtin.«zip.__next__» ⟨[.ref z], []⟩) (fun fin s' => ∃ v, fin = .done (.ret v) ∧ Q v s') E s := by
  obtain ⟨hp, g, d, tk0, os⟩ := s
  show wpAny _ _ (field (.ref z) 2 >>= _) _ _ _
  refine wpAny_bind (wpAny_field hz rfl (x := .bool false) rfl ?_)
  show wpAny _ _ (field (.ref z) 3 >>= _) _ _ _
  refine wpAny_bind (wpAny_field hz rfl (x := .ref TI) rfl ?_)
  refine wpAny_bind (wpAny_seqItems hTI rfl ?_)
  show wpAny _ _ (Builtin.SmallTypes.ownedTupleIsFree (.ref z) >>= _) _ _ _
  refine wpAny_bind (wpAny_tupleHeld_zip hz hT fun g0 hz0 hs0 => ?_)
  simp only [Bool.false_eq_true, if_false]
  replace hs0 : Heap.SameBut z hp g0 := hs0
  refine wpAny_bind ?_
  rw [← Array.forIn_toList]
  simp only [List.forIn_cons, List.forIn_nil]
  refine wpAny_bind (wpAny_bind (wpAny_holding ?_))
  show wpAny _ _ (Builtin.SmallTypes.nextOf (.ref i1) >>= _) _ _ ⟨g0, g, d, tk0, os⟩
  refine wpAny_bind (D1.item i _ _ _ hlt1 (D1.over st1 hs0 S.zf1) fun x1 p1 tk1 hx1 sn1 hp1 => wpAny_pure ?_)
  replace hp1 : Heap.SameBut i1 g0 p1 := hp1
  refine wpAny_pure ?_
  refine wpAny_bind (wpAny_bind (wpAny_holding ?_))
  show wpAny _ _ (Builtin.SmallTypes.nextOf (.ref i2) >>= _) _ _ ⟨p1, g, d, tk1, os⟩
  refine wpAny_bind (D2.item i _ _ _ hlt2 (D2.over (D2.over st2 hs0 S.zf2) hp1 S.sep1_2) fun x2 p2 tk2 hx2 sn2 hp2 => wpAny_pure ?_)
  replace hp2 : Heap.SameBut i2 p1 p2 := hp2
  refine wpAny_pure (wpAny_pure ?_)
  show wpAny _ _ (newTuple [x1, x2] >>= _) _ _ _
  refine wpAny_bind (wpAny_newTuple ?_)
  have hsz : p2.objs.size = hp.objs.size := by rw [hp2.1, hp1.1, hs0.1]
  have hz3 : IsZipHeld p2 z TI TO T true := hp2.extBut _ _ S.zi2 (hp1.extBut _ _ S.zi1 hz0)
  have hk : ∀ c o, c ≠ z → c ≠ i1 → c ≠ i2 → hp.get? c = some o → p2.get? c = some o := fun c o c1 c2 c3 e => hp2.extBut _ _ c3 (hp1.extBut _ _ c2 (hs0.extBut _ _ c1 e))
  have hj1 : St1 (i + 1) p2 := D1.over sn1 hp2 S.sep2_1
  have hp' : IsTupOf2 (p2.push { cls := .type "tuple", data := .seq #[x1, x2] }) p2.objs.size x1 x2 := Heap.get?_push_size _ rfl
  have hz4 : (p2.push { cls := .type "tuple", data := .seq #[x1, x2] }).objs.size = p2.objs.size + 1 := Heap.size_push ..
  refine wpAny_pure ⟨_, rfl, ?_⟩
  show Q (.ref p2.objs.size) _
  rw [hsz] at hp' hz4 ⊢
  exact hQ x1 x2 _ tk2 hx1 hx2 (Heap.get?_push_of_some _ hz3) (D1.frame _ _ _ hj1 fun b _ o e => Heap.get?_push_of_some _ e) (D2.frame _ _ _ sn2 fun b _ o e => Heap.get?_push_of_some _ e) hp' hz4 fun c o c1 c2 c3 e => Heap.get?_push_of_some _ (hk c o c1 c2 c3 e)

theorem zipD2_next_end_held {Q : Fin → Shared → Prop} (S : ZipSep2 z TI TO i1 i2 fp1 fp2) (D1 : Draws prog w A i1 fp1 n1 P1 St1) (D2 : Draws prog w A i2 fp2 n2 P2 St2)
    (hz : IsZipHeld s.heap z TI TO T f) (hT : s.heap.get? T = some oT) (hTI : IsTupOf2 s.heap TI (.ref i1) (.ref i2)) (st1 : St1 i s.heap) (st2 : St2 i s.heap) (hle1 : i ≤ n1) (hle2 : i ≤ n2) (hend : i = n1 ∨ i = n2)
    (hE : ∀ h' tk e, (∀ c o, c ≠ z → c ≠ i1 → c ≠ i2 → s.heap.get? c = some o → h'.get? c = some o) → (∃ o, h'.get? e = some o ∧ o.cls = .type "StopIteration") → E (.ref e) { s with heap := h', toks := tk }) :
    wpAny (model prog w) A (Builtin.«zip.__next__» ⟨[.ref z], []⟩) Q E s := by
  obtain ⟨hp, g, d, tk0, os⟩ := s
  show wpAny _ _ (field (.ref z) 2 >>= _) _ _ _
  refine wpAny_bind (wpAny_field hz rfl (x := .bool false) rfl ?_)
  show wpAny _ _ (field (.ref z) 3 >>= _) _ _ _
  refine wpAny_bind (wpAny_field hz rfl (x := .ref TI) rfl ?_)
  refine wpAny_bind (wpAny_seqItems hTI rfl ?_)
  show wpAny _ _ (Builtin.SmallTypes.ownedTupleIsFree (.ref z) >>= _) _ _ _
  refine wpAny_bind (wpAny_tupleHeld_zip hz hT fun g0 hz0 hs0 => ?_)
  simp only [Bool.false_eq_true, if_false]
  replace hs0 : Heap.SameBut z hp g0 := hs0
  refine wpAny_bind ?_
  rw [← Array.forIn_toList]
  simp only [List.forIn_cons, List.forIn_nil]
  refine wpAny_bind (wpAny_bind (wpAny_holding ?_))
  show wpAny _ _ (Builtin.SmallTypes.nextOf (.ref i1) >>= _) _ _ ⟨g0, g, d, tk0, os⟩
  by_cases hlt1 : i < n1
  · refine wpAny_bind (D1.item i _ _ _ hlt1 (D1.over st1 hs0 S.zf1) fun x1 p1 tk1 hx1 sn1 hp1 => wpAny_pure ?_)
    replace hp1 : Heap.SameBut i1 g0 p1 := hp1
    refine wpAny_pure ?_
    have hi2 : i = n2 := by omega
    refine wpAny_bind (wpAny_bind (wpAny_holding ?_))
    show wpAny _ _ (Builtin.SmallTypes.nextOf (.ref i2) >>= _) _ _ ⟨p1, g, d, tk1, os⟩
    refine wpAny_bind (D2.done ⟨p1, g, d, tk1, os⟩ _ _ (by rw [← hi2]; exact (D2.over (D2.over st2 hs0 S.zf2) hp1 S.sep1_2)) fun q e hq he => ?_)
    replace hq : Heap.ExtBut i2 p1 q := hq
    exact hE q tk1 e (fun c o cz c1 c2 x => hq _ _ c2 (hp1.extBut _ _ c1 (hs0.extBut _ _ cz x))) he
  · have hi1 : i = n1 := by omega
    refine wpAny_bind (D1.done ⟨g0, g, d, tk0, os⟩ _ _ (by rw [← hi1]; exact (D1.over st1 hs0 S.zf1)) fun q e hq he => ?_)
    replace hq : Heap.ExtBut i1 g0 q := hq
    exact hE q tk0 e (fun c o cz c1 c2 x => hq _ _ c1 (hs0.extBut _ _ cz x)) he

theorem wpAny_pyNext_zipD2_item_held {Q : Option Value → Shared → Prop} (S : ZipSep2 z TI TO i1 i2 fp1 fp2) (D1 : Draws prog w A.in1 i1 fp1 n1 P1 St1) (D2 : Draws prog w A.in1 i2 fp2 n2 P2 St2)
    (hz : IsZipHeld s.heap z TI TO T f) (hT : s.heap.get? T = some oT) (hTI : IsTupOf2 s.heap TI (.ref i1) (.ref i2)) (st1 : St1 i s.heap) (st2 : St2 i s.heap) (hlt1 : i < n1) (hlt2 : i < n2)
    (hQ : ∀ x1 x2 h' tk, P1 i x1 → P2 i x2 → IsZipHeld h' z TI TO T true → St1 (i + 1) h' → St2 (i + 1) h' → IsTupOf2 h' s.heap.objs.size x1 x2 → h'.objs.size = s.heap.objs.size + 1 →
      (∀ c o, c ≠ z → c ≠ i1 → c ≠ i2 → s.heap.get? c = some o → h'.get? c = some o) → Q (some (.ref s.heap.objs.size)) { s with heap := h', toks := tk }) :
    wpAny (model prog w) A (pyNext (.ref z)) Q E s := by
  have hTy : s.TypeIs (.ref z) "zip" := ⟨_, hz, rfl⟩
  unfold pyNext
  exact wpAny_bind (wpAny_attempt (wpAny_callSpecial?_slot (name := Str.ofString "__next__") hTy F.slot_zip_next
    (wpAny_call_entry F.slot_zip_next hTy F.entry_zip_next
      (zipD2_next_item_held S D1 D2 hz hT hTI st1 st2 hlt1 hlt2 fun x1 x2 h' tk y1 y2 b1 d1 d2 b5 b6 b7 => wpAny_pure (hQ x1 x2 h' tk y1 y2 b1 d1 d2 b5 b6 b7)) (F.args_zip_next_1 _))))
theorem wpAny_pyNext_zipD2_end_held {Q : Option Value → Shared → Prop} (S : ZipSep2 z TI TO i1 i2 fp1 fp2) (D1 : Draws prog w A.in1 i1 fp1 n1 P1 St1) (D2 : Draws prog w A.in1 i2 fp2 n2 P2 St2)
    (hz : IsZipHeld s.heap z TI TO T f) (hT : s.heap.get? T = some oT) (hTI : IsTupOf2 s.heap TI (.ref i1) (.ref i2)) (st1 : St1 i s.heap) (st2 : St2 i s.heap) (hle1 : i ≤ n1) (hle2 : i ≤ n2) (hend : i = n1 ∨ i = n2)
    (hQ : ∀ h' tk, (∀ c o, c ≠ z → c ≠ i1 → c ≠ i2 → s.heap.get? c = some o → h'.get? c = some o) → Q none { s with heap := h', toks := tk }) : wpAny (model prog w) A (pyNext (.ref z)) Q E s := by
  have hTy : s.TypeIs (.ref z) "zip" := ⟨_, hz, rfl⟩
  unfold pyNext
  refine wpAny_bind (wpAny_attempt (wpAny_callSpecial?_slot (name := Str.ofString "__next__") hTy F.slot_zip_next
    (wpAny_call_entry F.slot_zip_next hTy F.entry_zip_next (zipD2_next_end_held S D1 D2 hz hT hTI st1 st2 hle1 hle2 hend fun h' tk e hk he => ?_) (F.args_zip_next_1 _))))
  obtain ⟨o, ho, hc⟩ := he
  refine wpAny_bind (wpAny_isInstance (T := "StopIteration") (b := true) ⟨o, ho, hc⟩ isSubtype_stop ?_)
  exact wpAny_pure (hQ _ _ hk)
end
/-- zip of a list and a tuple, as the argument of dict() -/
theorem PairArg.zipLT {prog : Program} {w : World} (z TI TO i1 i2 l1 l2 : Addr) (S : ZipSep2 z TI TO i1 i2 [i1, l1] [i2, l2]) (n1 : l1 ≠ i1) (n2 : l2 ≠ i2) (m1 : l1 ≠ z) (m2 : l2 ≠ z) (m3 : l1 ≠ i2) (m4 : l2 ≠ i1) (m5 : l1 ≠ TO) (m6 : l2 ≠ TO) (xs ys : Array Value) (hxy : xs.size = ys.size) :
    PairArg prog w "zip" z [z, TI, TO, i1, i2, l1, l2] [z, TO, i1, i2] xs.size (fun i k v => xs[i]? = some k ∧ ys[i]? = some v)
      (fun h => IsZip h z TI TO .none ∧ IsTupOf2 h TI (.ref i1) (.ref i2) ∧ (∃ a b, IsTupOf2 h TO a b) ∧ (h.IsListIter i1 l1 0 ∧ h.IsList l1 xs) ∧ (h.IsTupleIter i2 l2 0 ∧ h.IsTuple l2 ys)) where
  type := fun s ok => ⟨_, ok.1, rfl⟩
  notDict := by decide
  keep := fun h h' ok hk => by
    obtain ⟨hz, hTI, ⟨a, b, hTO⟩, ⟨h1, hl1⟩, h2, hl2⟩ := ok
    exact ⟨hk _ _ hz, hk _ _ hTI, ⟨a, b, hk _ _ hTO⟩, ⟨h1.at fun o e => hk _ o e, hl1.at fun o e => hk _ o e⟩, h2.at fun o e => hk _ o e, hl2.at fun o e => hk _ o e⟩
  there := fun h ok b hb => by
    obtain ⟨hz, hTI, ⟨a, c, hTO⟩, ⟨⟨o1, h1, _⟩, ⟨o3, hl1, _⟩⟩, ⟨o2, h2, _⟩, ⟨o4, hl2, _⟩⟩ := ok
    simp only [List.mem_cons, List.not_mem_nil, or_false] at hb
    rcases hb with rfl | rfl | rfl | rfl | rfl | rfl | rfl
    all_goals first | exact ⟨_, hz⟩ | exact ⟨_, hTI⟩ | exact ⟨_, hTO⟩ | exact ⟨_, h1⟩ | exact ⟨_, h2⟩ | exact ⟨_, hl1⟩ | exact ⟨_, hl2⟩
  sub := fun b hb => by simp at hb ⊢; rcases hb with rfl | rfl | rfl | rfl <;> simp
  noKeys := fun A s Q E hA ok h => getAttrOr_miss_zip ok.1 rfl rfl rfl zip_no_keys (by decide +kernel) hA h
  iter := fun A s d Q E hA ok hd hdf h => by
    obtain ⟨hz, hTI, ⟨a, b, hTO⟩, h1, h2⟩ := ok
    simp only [List.mem_cons, List.not_mem_nil, or_false, not_or] at hdf
    obtain ⟨dz, dTI, dTO, di1, di2, dl1, dl2⟩ := hdf
    have D1 := Draws.list (prog := prog) (w := w) (A := A.in1) hA i1 l1 n1 xs
    have D2 := Draws.tuple (prog := prog) (w := w) (A := A.in1) hA i2 l2 n2 ys
    refine wpAny_pyIter_zip hz (h z [z, TO, i1, i2] (fun i h => IsTupOf2 h TI (.ref i1) (.ref i2) ∧ (h.IsListIter i1 l1 i ∧ h.IsList l1 xs) ∧ (h.IsTupleIter i2 l2 i ∧ h.IsTuple l2 ys) ∧
      ((IsZip h z TI TO .none ∧ ∃ a b, IsTupOf2 h TO a b) ∨ ∃ T f oT, IsZipHeld h z TI TO T f ∧ h.get? T = some oT ∧ T ≠ z ∧ T ≠ i1 ∧ T ≠ i2 ∧ T ≠ d)) s.heap s.toks ?_
      ⟨hTI, h1, h2, .inl ⟨hz, a, b, hTO⟩⟩ (fun _ _ e => e) fun b hb => .inl hb)
    exact {
      off := fun hm => by
        simp only [List.mem_cons, List.not_mem_nil, or_false] at hm
        rcases hm with e | e | e | e
        · exact dz e
        · exact dTO e
        · exact di1 e
        · exact di2 e
      frame := fun i h₁ h₂ st hk => by
        obtain ⟨hTI, ⟨h1, hl1⟩, ⟨h2, hl2⟩, hz⟩ := st
        refine ⟨hk _ _ (Ne.symm dTI) hTI, ⟨h1.at fun o e => hk _ o (Ne.symm di1) e, hl1.at fun o e => hk _ o (Ne.symm dl1) e⟩, ⟨h2.at fun o e => hk _ o (Ne.symm di2) e, hl2.at fun o e => hk _ o (Ne.symm dl2) e⟩, ?_⟩
        rcases hz with ⟨hz, a, b, hTO⟩ | ⟨T, f, oT, hz, hT, r1, r2, r3, r4⟩
        · exact .inl ⟨hk _ _ (Ne.symm dz) hz, a, b, hk _ _ (Ne.symm dTO) hTO⟩
        · exact .inr ⟨T, f, oT, hk _ _ (Ne.symm dz) hz, hk _ _ r4 hT, r1, r2, r3, r4⟩
      item := fun i s₁ Q₁ E₁ hi st hds hQ => by
        obtain ⟨hTI, h1, h2, hz⟩ := st
        have lt : ∀ {c o}, s₁.heap.get? c = some o → s₁.heap.objs.size ≠ c := fun e => Nat.ne_of_gt (Heap.lt_size e)
        have n1 : s₁.heap.objs.size ≠ i1 := let ⟨_, e, _⟩ := h1.1; lt e
        have n2 : s₁.heap.objs.size ≠ i2 := let ⟨_, e, _⟩ := h2.1; lt e
        rcases hz with ⟨hz, a, b, hTO⟩ | ⟨T, f, oT, hz, hT, r1, r2, r3, r4⟩
        · refine wpAny_pyNext_zipD2_item S D1 D2 hz hTI hTO h1 h2 hi (by omega) fun x1 x2 h' tk e1 e2 a1 a2 a3 a4 a5 a6 hk => ?_
          exact hQ s₁.heap.objs.size _ _ h' tk ⟨e1, e2⟩ (.inl ⟨_, a5, rfl, _, rfl⟩)
            ⟨hk _ _ S.TIz S.TITO S.TIi1 S.TIi2 hTI, a3, a4, .inr ⟨s₁.heap.objs.size, false, _, a1, a5, lt hz, n1, n2, Nat.ne_of_gt hds⟩⟩
            fun c o hc e => hk c o (fun x => hc (by simp [x])) (fun x => hc (by simp [x])) (fun x => hc (by simp [x])) (fun x => hc (by simp [x])) e
        · refine wpAny_pyNext_zipD2_item_held S D1 D2 hz hT hTI h1 h2 hi (by omega) fun x1 x2 h' tk e1 e2 a1 a3 a4 a5 a6 hk => ?_
          exact hQ s₁.heap.objs.size _ _ h' tk ⟨e1, e2⟩ (.inl ⟨_, a5, rfl, _, rfl⟩)
            ⟨hk _ _ S.TIz S.TIi1 S.TIi2 hTI, a3, a4, .inr ⟨T, true, oT, a1, hk _ _ r1 r2 r3 hT, r1, r2, r3, r4⟩⟩
            fun c o hc e => hk c o (fun x => hc (by simp [x])) (fun x => hc (by simp [x])) (fun x => hc (by simp [x])) e
      done := fun s₁ Q₁ E₁ st hQ => by
        obtain ⟨hTI, h1, h2, hz⟩ := st
        rcases hz with ⟨hz, a, b, hTO⟩ | ⟨T, f, oT, hz, hT, r1, r2, r3, r4⟩
        · exact wpAny_pyNext_zipD2_end S D1 D2 hz hTI hTO h1 h2 (Nat.le_refl _) (by omega) (.inl rfl) fun h' tk hk => hQ h' tk fun c o hc e => hk c o (fun x => hc (by simp [x])) (fun x => hc (by simp [x])) (fun x => hc (by simp [x])) (fun x => hc (by simp [x])) e
        · exact wpAny_pyNext_zipD2_end_held S D1 D2 hz hT hTI h1 h2 (Nat.le_refl _) (by omega) (.inl rfl) fun h' tk hk => hQ h' tk fun c o hc e => hk c o (fun x => hc (by simp [x])) (fun x => hc (by simp [x])) (fun x => hc (by simp [x])) e }
end PySem
namespace TK
open PySem PySem.Spec PyProof.Rows L2
/-! dict(zip(xs, ys)) -/
def tDictZip (K : PySem.W.Frag) (ta : TA) : TE := fun σ H Q => ta σ H fun vs H1 => ∃ (a b : Addr) (ks : List Key) (ys : List V), vs = [.ref a, .ref b] ∧ SqL K H1 a (ks.map kV) ∧ SqT K H1 b ys ∧ ks.length = ys.length ∧ ∀ p, H1 p = none → Q (.ref p) (upd H1 p (.dK (mergeK [] (ks.zip ys))))
theorem kv_zip : ∀ {ks : List Key} {ys : List V} {us vs : List Value}, Vals (ks.map kV) us → Vals ys vs → ks.length = ys.length → L2.KV (ks.zip ys) (ks.zip vs)
  | [], [], _, _, h, k, _ => by cases h; cases k; exact .nil
  | k :: ks, y :: ys, _, _, h, g, hl => by
    cases h with
    | cons h1 h2 =>
      cases g with
      | cons g1 g2 => exact .cons ⟨rfl, g1⟩ (kv_zip h2 g2 (by simpa using hl))
theorem pe_dictZip {X : Cx} {e e2 : Expr} {ta : TA} {p pos p2 pos2 : Pos} (hc : X.calm = true) (hg : Gl X "dict") (hm : X.mg "dict" = none) (hg2 : Gl X "zip") (hm2 : X.mg "zip" = none) (ha : PA X [e, e2] ta)
    (hs : starEach [e, e2] X.env = (false, eval e X.env) :: starEach [e2] X.env := by rfl) (hpl : (backTo pos2 (starEach [e2] X.env)).any (·.1) = false := by rfl)
    (na : starEach [.Call (.Name "zip" p2) [e, e2] [] pos2] X.env = (false, eval (.Call (.Name "zip" p2) [e, e2] [] pos2) X.env) :: starEach [] X.env := by rfl) :
    PE X (.Call (.Name "dict" p) [.Call (.Name "zip" p2) [e, e2] [] pos2] [] pos) (tDictZip X.K ta) := by
  refine ⟨fun pins s σ H Q I h => ?_⟩
  have hzip : wpAny (model X.prog X.w) X.A (eval (.Call (.Name "zip" p2) [e, e2] [] pos2) X.env) (fun x s2 => ∃ (z TI TO i1 i2 a b : Addr) (ks : List Key) (ys : List V) (its its2 : List Value) (H1 : Hp) (s1 : Shared), x = .ref z ∧ Inv X pins σ H1 s1 ∧ s2 = { s1 with heap := s2.heap } ∧ (∀ c o, s1.heap.get? c = some o → s2.heap.get? c = some o) ∧ s1.heap.objs.size ≤ z ∧ s1.heap.objs.size ≤ TO ∧ s1.heap.objs.size ≤ i1 ∧ s1.heap.objs.size ≤ i2 ∧
      ZipSep2 z TI TO i1 i2 [i1, a] [i2, b] ∧ a < s1.heap.objs.size ∧ b < s1.heap.objs.size ∧ Vals (ks.map kV) its ∧ Vals ys its2 ∧ ks.length = ys.length ∧ its.length ≤ sizeLine ∧
      (IsZip s2.heap z TI TO .none ∧ IsTupOf2 s2.heap TI (.ref i1) (.ref i2) ∧ (∃ a b, IsTupOf2 s2.heap TO a b) ∧ (s2.heap.IsListIter i1 a 0 ∧ s2.heap.IsList a its.toArray) ∧ (s2.heap.IsTupleIter i2 b 0 ∧ s2.heap.IsTuple b its2.toArray)) ∧
      (∀ p, H1 p = none → Q (.ref p) (upd H1 p (.dK (mergeK [] (ks.zip ys)))))) X.xe s := by
    refine Call_ (ld_blt I hg2 hm2 PyProof.Rows.boot_zip (PyProof.Rows.callWith_type1 (thn (ha.run pos2 pins s σ H _ I h) fun us s1 ⟨vs, H1, I1, r1, q1⟩ => ?_) hs hpl))
    obtain ⟨a, b, ks, ys, rfl, hqx, hqy, hl, q⟩ := q1
    obtain ⟨u1, u2, rfl, r, r'⟩ := r1.two
    cases r
    cases r'
    obtain ⟨its, rv, p1, hz1⟩ := I1.list hqx
    obtain ⟨its2, rv2, p2, _⟩ := I1.tuple hqy
    have lb : b < s1.heap.objs.size := by obtain ⟨_, q, _⟩ := p2; exact Heap.lt_size q
    have la : a < s1.heap.objs.size := p1.lt
    refine zip_begins2 (begins_list a its.toArray) (begins_tuple b its2.toArray) p1.isList p2 fun h' hz hTI hTO h1 h2 hsz hk => ?_
    refine ⟨_, _, _, _, _, a, b, ks, ys, its, its2, H1, s1, rfl, I1, rfl, hk, Nat.le_add_right _ _, Nat.le_add_right _ _, Nat.le_refl _, Nat.le_add_right _ _, sep_zip _ _ _ la lb, la, lb, rv, rv2, hl, by rw [← rv.length]; exact hz1, ⟨hz, hTI, ⟨_, _, hTO⟩, ⟨⟨_, h1, rfl, rfl⟩, Heap.IsList.at p1.isList fun o e => hk _ o e⟩, ⟨_, h2, rfl, rfl⟩, Heap.IsTuple.at p2 fun o e => hk _ o e⟩, q⟩
  refine Call_ (ld_blt I hg hm boot_dict (PyProof.Rows.callWith_type1 (args_cons (thn hzip fun x s2 h2 => args_nil ?_) na) na))
  obtain ⟨z, TI, TO, i1, i2, a, b, ks, ys, its, its2, H1, s1, rfl, I1, es, hk, g1, g2, g3, g4, S, la, lb, rv, rv2, hl, hz1, ok, q⟩ := h2
  have ne : ∀ {x y : Nat}, x < s1.heap.objs.size → s1.heap.objs.size ≤ y → x ≠ y := fun h1 h2 => by omega
  have lx : its.toArray.size = its2.toArray.size := by
    rw [List.size_toArray, List.size_toArray, ← rv.length, ← rv2.length, List.length_map, hl]
  have PA' := PairArg.zipLT (prog := X.prog) (w := X.w) z TI TO i1 i2 a b S (ne la g3) (ne lb g4) (ne la g1) (ne lb g1) (ne la g4) (ne lb g3) (ne la g2) (ne lb g2) its.toArray its2.toArray lx
  have hlen : ks.length = its.length := by rw [← rv.length, List.length_map]
  have hlen2 : ys.length = its2.length := rv2.length
  refine PySem.call_dict_pairs (knd := mixKind X.prog X.w) (kvs := ks.zip its2) PA' (I1.ok.hd hc) ok ⟨?_, fun i k v hr => ?_⟩ (by rw [List.size_toArray]; exact hz1) fun h' tk hd' hk' => ?_
  · rw [List.length_zip, List.size_toArray]; omega
  · obtain ⟨e1, e2⟩ := hr
    have e1 : its[i]? = some k := by simpa using e1
    have e2 : its2[i]? = some v := by simpa using e2
    have hi : i < ks.length := by rw [hlen]; exact (List.getElem?_eq_some_iff.mp e1).1
    refine ⟨ks[i], ?_, ?_⟩
    · rw [List.getElem?_zip_eq_some]
      exact ⟨List.getElem?_eq_getElem hi, e2⟩
    · obtain ⟨u, hu, ru⟩ := rv.get (i := i) (x := kV ks[i]) (by rw [List.getElem?_map, List.getElem?_eq_getElem hi]; rfl)
      rw [e1] at hu
      cases hu
      exact kV_is ru
  · rw [es] at hd' hk' ⊢
    have hlt : ∀ {c o}, s1.heap.get? c = some o → c < s1.heap.objs.size := fun e => Heap.lt_size e
    have kp : ∀ c o, s1.heap.get? c = some o → h'.get? c = some o := fun c o e => hk' c o (by
      have := hlt e
      simp only [List.mem_cons, List.not_mem_nil, or_false, not_or]
      exact ⟨ne this g1, ne this g2, ne this g3, ne this g4⟩) (hk c o e)
    have big : s1.heap.objs.size ≤ s2.heap.objs.size := by
      obtain ⟨hz, _⟩ := ok
      exact Nat.le_of_lt (Nat.lt_of_le_of_lt g1 (Heap.lt_size hz))
    have hsm : (s2.heap.objs.size == sysModules) = false := beq_eq_false_iff_ne.mpr (Nat.ne_of_gt (Nat.lt_of_lt_of_le I1.big big))
    refine ⟨.ref s2.heap.objs.size, upd H1 s2.heap.objs.size (.dK (mergeK [] (ks.zip ys))), I1.laid (t' := tk) kp big ?_, rfl, q _ (I1.hok.fresh big)⟩
    refine (show ObjOk X.prog X.w _ _ _ (.dK (mergeK [] (ks.zip ys))) from ⟨?_, hsm, merged [] (ks.zip its2), KV.merge (kv_zip rv rv2 hl) .nil, hd'⟩)
    have e1 := (KV.merge (kv_zip rv rv2 hl) .nil).length
    have e2 := PySem.merged_length ([] : List (Key × Value)) (ks.zip its2)
    rw [List.length_zip, List.length_nil] at e2
    omega
/-! tuple(d.values()) -/
section
variable {prog : Program} {w : World} {A : Around} {E : Value → Shared → Prop} {s : Shared} {r d : Addr} {n : Nat} {P : Nat → Value → Prop} {OK : Heap → Prop}
theorem code_tuple_new_vals {Q₁ : Value → Shared → Prop} (K : PySem.W.KdlSrc prog w "dict_values" r d n P OK) (hh : A.handled = none) (hok : OK s.heap) (hn : n ≤ sizeLine)
    (h : ∀ (h' : Heap) (tk : Nat) (acc : Array Value), (∀ b o, s.heap.get? b = some o → h'.get? b = some o) → ItemsOf P acc n →
      Q₁ (.ref h'.objs.size) { s with heap := h'.push { cls := .type "tuple", data := .seq acc }, toks := tk }) :
    codeAny (model prog w) A (.call (.builtin "tuple.__new__") ⟨[.type "tuple", .ref r], []⟩) (wants Q₁ E) s := by
  refine codeAny_of_tree ?_
  show wpAny _ A.in1 (do checkBuiltinCall "tuple.__new__" ⟨[.type "tuple", .ref r], []⟩; again (.builtin "tuple.__new__" ⟨[.type "tuple", .ref r], []⟩)) _ _ s
  refine wpAny_bind (wpAny_of_eq (F.newCall_tuple_1 _) (wpAny_pure ⟨plainId_quiet F.plain_tuple_new _, codeAny_builtin F.entry_tuple_new ?_⟩))
  rw [Around.under_plainId F.plain_tuple_new _]
  have hsub := sub_tuple_self
  have hinit := init_tuple_lookup
  have hmh := madeHere_tuple
  have hTI : s.TypeIs (.ref r) "dict_values" := K.type s hok
  have hh1 : A.in1.handled = none := hh
  wp_walk using wpAny_typeOf hTI, PySem.W.kdu_collect (A := A.in1) K hh1 hok hn
  intro h' tk acc hk hacc
  show wpAny _ _ (Builtin.Tuple.tupleExact acc.toList.toArray >>= fun v => ret v) _ _ _
  unfold Builtin.Tuple.tupleExact
  refine wpAny_bind (wpAny_newObj_type ?_ (by show acc.toList.toArray.size ≤ sizeLine; simp only [Array.toArray_toList]; rw [hacc.1]; exact hn))
  refine wpAny_pure ?_
  have e : acc.toList.toArray = acc := by simp
  rw [e]
  exact h h' tk acc hk hacc
theorem call_tuple_vals {Q : Value → Shared → Prop} (K : PySem.W.KdlSrc prog w "dict_values" r d n P OK) (hh : A.handled = none) (hok : OK s.heap) (hn : n ≤ sizeLine)
    (hQ : ∀ (h' : Heap) (tk : Nat) (acc : Array Value), (∀ b o, s.heap.get? b = some o → h'.get? b = some o) → ItemsOf P acc n →
      Q (.ref h'.objs.size) { s with heap := h'.push { cls := .type "tuple", data := .seq acc }, toks := tk }) :
    wpAny (model prog w) A (call (.type "tuple") [.ref r]) Q E s := by
  refine callType_codes (Q₁ := fun obj s₁ => s₁.TypeIs obj "tuple" ∧ Q obj s₁) F.called_tuple (F.typeCall_tuple_1 _) F.entry_object_init
    (code_tuple_new_vals (A := A.in1) K hh hok hn fun h' tk acc hk hacc => ⟨⟨_, Heap.get?_push_size _ rfl, rfl⟩, hQ h' tk acc hk hacc⟩) fun obj s₁ h₁ => ?_
  exact ⟨h₁.1, F.args_object_init_2 obj _, object_init_meets F.called_tuple.init.lookup F.called_tuple.made (by decide) prog w A.in1 _ s₁ ⟨h₁.1, rfl, h₁.2⟩⟩
end
def tTupVals (td : TE) : TE := fun σ H Q => td σ H fun x H1 => ∃ (d : Addr) (kvs : List (Key × V)), x = .ref d ∧ Rd H1 d (.dK kvs) ∧ ∀ p, H1 p = none → Q (.ref p) (upd H1 p (.tup (kvs.map (·.2))))
theorem pe_tupVals {X : Cx} {e : Expr} {td : TE} {p pos apos cpos : Pos} (hc : X.calm = true) (hg : Gl X "tuple") (hm : X.mg "tuple" = none) (he : PE X e td)
    (hbase : attributeBase e "values" X.env (eval e X.env) = eval e X.env := by rfl) (hline : (apos.endLine == cpos.line) = true := by rfl)
    (na : starEach [.Call (.Attribute e "values" apos) [] [] cpos] X.env = (false, eval (.Call (.Attribute e "values" apos) [] [] cpos) X.env) :: starEach [] X.env := by rfl) :
    PE X (.Call (.Name "tuple" p) [.Call (.Attribute e "values" apos) [] [] cpos] [] pos) (tTupVals td) := by
  refine ⟨fun pins s σ H Q I h => ?_⟩
  have hv : wpAny (model X.prog X.w) X.A (eval (.Call (.Attribute e "values" apos) [] [] cpos) X.env) (fun x s2 => ∃ (v d : Addr) (kvs : List (Key × V)) (H1 : Hp), x = .ref v ∧ Inv X pins σ H1 s2 ∧ s2.heap.get? v = some { cls := .type "dict_values", data := .fields #[.ref d] } ∧ Rd H1 d (.dK kvs) ∧ ∀ p, H1 p = none → Q (.ref p) (upd H1 p (.tup (kvs.map (·.2))))) X.xe s := by
    refine wpAny_Call_method (T := "dict") (id := "dict.values") hbase rfl hline F.plainAttrs_dict F.slot_dict_values F.type_dict_values (thn (he.run pins s σ H _ I h) fun u s1 ⟨x, H1, I1, rx, d, kvs, ex, hd, q⟩ => ?_)
    subst ex
    obtain rfl : u = Value.ref d := rx
    obtain ⟨z, hs, vs, rel, dd⟩ := dk_rd I1.hok hd
    refine ⟨dd.typeIs, dd.mapOf.noDict, ?_⟩
    have I2 : Inv X pins σ H1 { s1 with heap := s1.heap.push { cls := .type "dict_values", data := .fields #[.ref d] } } := I1.kept (t' := s1.toks) fun b ob q => Heap.get?_push_of_some _ q
    show wpAny _ _ (callWith cpos (.builtin "dict.values") [.ref d] [] []) _ X.xe s1
    exact method_meetsIn F.slot_dict_values F.entry_dict_values rfl (PySem.evalArgs_none ⟨rfl, dd.typeIs, F.args_dict_values_1 _, _, meets_dict_values (mixKind X.prog X.w) d hs, ⟨vs, dd⟩, ⟨s1.heap.objs.size, d, kvs, H1, rfl, I2, Heap.get?_push_size _ rfl, hd, q⟩⟩)
  refine Call_ (ld_blt I hg hm boot_tuple (PyProof.Rows.callWith_type1 (args_cons (thn hv fun x s2 h2 => args_nil ?_) na) na))
  obtain ⟨v, d, kvs, H1, rfl, I2, hv, hd, q⟩ := h2
  obtain ⟨z, hs, vs, rel, dd⟩ := dk_rd I2.hok hd
  obtain ⟨ep, hat⟩ := dd.dictAt
  have hl : kvs.length = vs.length := Paired.length rel
  refine call_tuple_vals (PySem.W.kdl_values (knd := mixKind X.prog X.w) (kvs := vs) (ep := ep)) (I2.ok.hd hc) ⟨⟨_, hv, rfl, rfl⟩, hat⟩ (by omega) fun h' tk acc hk hacc => ?_
  have ea : acc.toList = vs.map (·.2) := PySem.W.kdl_vals_eq acc.toList (by rw [Array.length_toList]; exact hacc.1) fun j u hu => hacc.2 j u (by rw [← hu, Array.getElem?_toList])
  have I3 : Inv X pins σ H1 { s2 with heap := h', toks := tk } := I2.kept hk
  refine ⟨.ref h'.objs.size, upd H1 h'.objs.size (.tup (kvs.map (·.2))), I3.laid (t' := tk) (fun c o e => Heap.get?_push_of_some _ e) (Nat.le_refl _) (show ObjOk X.prog X.w _ _ _ (.tup (kvs.map (·.2))) from ⟨?_, acc.toList, ?_, ?_⟩), rfl, q _ (I3.hok.fresh (Nat.le_refl _))⟩
  · rw [List.length_map]; exact z
  · rw [ea]
    clear ea hacc hat dd hd q hl z
    induction rel with
    | nil => exact .nil
    | cons h t ih => exact .cons h.2 (ih)
  · rw [Array.toArray_toList]; exact IsTup.new _ _
end TK

/-! what is lacking: the program's rows -/
namespace TK
open PySem PySem.Spec PyProof.Rows L2
theorem sl_tupKx {X : Cx} {K : PySem.W.Frag} (h : X.K = K) : SlR X (rSlT K) := h ▸ sl_tup
theorem cr_sumTK {X : Cx} {K : PySem.W.Frag} (h : X.K = K) (hc : X.calm = true) : CallR X (.builtin "sum") (rSumT K) := h ▸ cr_sumT hc
/-! dicts of names and numbers -/
def keyN (z : Nam) : Key := Sum.inr (sOf z)
def kvI (f : Nam → Int) (z : Nam) : Key × V := (keyN z, V.int (f z))
theorem keyN_inj {a b : Nam} (h : keyN a = keyN b) : a = b := sOf_inj (Sum.inr.inj h)
theorem valI {zs : List Nam} {f : Nam → Int} {z : Nam} (h : z ∈ zs) : valV (zs.map (kvI f)) (keyN z) = some (V.int (f z)) := by
  induction zs with
  | nil => cases h
  | cons a zs ih =>
    by_cases e : a = z
    · subst e
      exact valV_pos (p := kvI f a) rfl
    · rw [List.map_cons, valV_neg (p := kvI f a) (fun q => e (keyN_inj q))]
      rcases List.mem_cons.mp h with q | q
      · exact absurd q.symm e
      · exact ih q
theorem valI_none {zs : List Nam} {f : Nam → Int} {z : Nam} (h : z ∉ zs) : valV (zs.map (kvI f)) (keyN z) = none := by
  induction zs with
  | nil => rfl
  | cons a zs ih =>
    rw [List.map_cons, valV_neg (p := kvI f a) (fun q => h (by rw [keyN_inj q]; exact List.mem_cons_self))]
    exact ih fun q => h (List.mem_cons_of_mem _ q)
theorem putI_new {zs : List Nam} {f : Nam → Int} {i : Nat} {z : Nam} {n : Int} (nd : zs.Nodup) (h : zs[i]? = some z) (e : f z = n) : putK ((zs.take i).map (kvI f)) (keyN z) (.int n) = (zs.take (i + 1)).map (kvI f) := by
  subst e
  rw [putK_new _ (valI_none (not_before nd h)), List.take_add_one, h, List.map_append]
  rfl
theorem putI_two {zs : List Nam} {f : Nam → Int} {i : Nat} {z : Nam} {m n : Int} (nd : zs.Nodup) (h : zs[i]? = some z) (e : f z = n) : putK (putK ((zs.take i).map (kvI f)) (keyN z) (.int m)) (keyN z) (.int n) = (zs.take (i + 1)).map (kvI f) := by
  have hn := not_before nd h
  have e1 : putK ((zs.take i).map (kvI f)) (keyN z) (.int m) = (zs.take (i + 1)).map (kvI fun w => if w = z then m else f w) := by
    rw [putK_new _ (valI_none hn), List.take_add_one, h, List.map_append]
    congr 1
    · refine List.map_congr_left fun w hw => ?_
      show kvI f w = (keyN w, V.int (if w = z then m else f w))
      rw [if_neg (fun q => hn (by rw [← q]; exact hw))]
      rfl
    · show [(keyN z, V.int m)] = [(keyN z, V.int (if z = z then m else f z))]
      rw [if_pos rfl]
  rw [e1]
  unfold putK
  have mz : z ∈ zs.take (i + 1) := by
    rw [List.take_add_one, h]
    exact List.mem_append_right _ (List.mem_singleton.mpr rfl)
  rw [if_pos (List.any_eq_true.mpr ⟨kvI _ z, List.mem_map.mpr ⟨z, mz, rfl⟩, decide_eq_true rfl⟩), List.map_map]
  refine List.map_congr_left fun w _ => ?_
  show (if keyN w = keyN z then (keyN w, V.int n) else (keyN w, V.int (if w = z then m else f w))) = (keyN w, V.int (f w))
  by_cases q : w = z
  · rw [if_pos (by rw [q]), q, e]
  · rw [if_neg (fun x => q (keyN_inj x)), if_neg q]
theorem merge_new {f : Nam → Int} : ∀ {zs : List Nam} {A : List Nam}, (A ++ zs).Nodup → mergeK (A.map (kvI f)) (zs.map (kvI f)) = (A ++ zs).map (kvI f)
  | [], A, _ => by rw [List.append_nil]; rfl
  | z :: zs, A, nd => by
    have hz : z ∉ A := fun m => (List.nodup_append.mp nd).2.2 z m z List.mem_cons_self rfl
    have e : putK (A.map (kvI f)) (keyN z) (.int (f z)) = (A ++ [z]).map (kvI f) := by
      rw [putK_new _ (valI_none hz), List.map_append]
      rfl
    show mergeK (putK (A.map (kvI f)) (keyN z) (.int (f z))) (zs.map (kvI f)) = _
    rw [e, merge_new (zs := zs) (A := A ++ [z]) (by rw [List.append_assoc]; exact nd), List.append_assoc]
    rfl
theorem zip_kvI (f : Nam → Int) (zs : List Nam) : (zs.map keyN).zip ((zs.map f).map V.int) = zs.map (kvI f) := by
  rw [List.map_map]
  induction zs with
  | nil => rfl
  | cons z zs ih => rw [List.map_cons, List.map_cons, List.zip_cons_cons, ih]; rfl
theorem names_keys (zs : List Nam) : (zs.map keyN).map kV = zs.map vN := by rw [List.map_map]; rfl
/-! rounds of an order -/
def remO (zs os : List Nam) (t : Nat) : List Nam := zs.filter fun y => decide (y ∉ os.take t)
def osAt (os : List Nam) (t : Nat) : Nam := os.getD t []
def stepN (zs : List Nam) (R : List BRow) (ks : List Nam) (x : Nam) (f : Nam → Int) (y : Nam) : Int := if y = x then f y else max (f y) (votesR R ks x + f x + leadN zs x y - votesR R ks y)
def lkN (zs : List Nam) (R : List BRow) (os : List Nam) : Nat → Nam → Int
  | 0 => fun _ => 0
  | t + 1 => stepN zs R (remO zs os t) (osAt os t) (lkN zs R os t)
def keyO (zs os : List Nam) : Nat → List Nam
  | 0 => zs
  | t + 1 => remO zs os t
theorem rem_sub {zs os : List Nam} {t : Nat} : ∀ z ∈ remO zs os t, z ∈ zs := fun z m => (List.mem_filter.mp m).1
theorem rem_nd {zs os : List Nam} {t : Nat} (nd : zs.Nodup) : (remO zs os t).Nodup := nd.filter _
theorem rem_len {zs os : List Nam} {t : Nat} : (remO zs os t).length ≤ zs.length := List.length_filter_le _ _
theorem os_at {os : List Nam} {t : Nat} {x : Nam} (h : os[t]? = some x) : osAt os t = x := by unfold osAt; rw [List.getD_eq_getElem?_getD, h]; rfl
theorem rem_has {zs os : List Nam} {t : Nat} {x : Nam} (ok : BOk zs os) (h : os[t]? = some x) : x ∈ remO zs os t := by
  refine List.mem_filter.mpr ⟨ok.2 x (List.mem_of_getElem? h), decide_eq_true (not_before ok.1 h)⟩
theorem rem_key {zs os : List Nam} : ∀ {t : Nat}, ∀ z ∈ remO zs os t, z ∈ keyO zs os t
  | 0, z, m => (List.mem_filter.mp m).1
  | t + 1, z, m => by
    obtain ⟨m1, m2⟩ := List.mem_filter.mp m
    refine List.mem_filter.mpr ⟨m1, decide_eq_true fun q => of_decide_eq_true m2 ?_⟩
    exact (List.take_prefix_take_left (Nat.le_succ t)).subset q
section
variable {P : Program} {w : World} {K : PySem.W.Frag} {mg : Str → Option Value} {base : Heap}
/-! check_order -/
def spCheckO (K : PySem.W.Frag) : Sp := fun vs H Q _ => ∃ (a b : Addr) (zs os : List Nam), vs = [.ref a, .ref b] ∧ SqS K H a (zs.map vN) ∧ SqT K H b (os.map vN) ∧ BOk zs os ∧ os.length < zs.length ∧ ∀ H', Same H H' → Q .non H'
theorem ok_check_order {f : Addr} {fd : FuncData} (F : Fun K "check_order" "check_order" s_check_order f fd) (m_len : mg "len" = none) (d_check_picks : Def P w K mg base "check_picks" 1 ["picks", "known"] (spPicks K)) : FnOk P w K mg base CX0 2 f fd ["options", "order"] (spCheckO K) := by
  refine F.ok sc_check_order (fun vs H Q E h => ?_) (fun cdv A outer s H vs Q E hr h => ?_)
  · obtain ⟨a, b, zs, os, rfl, _⟩ := h
    rfl
  · obtain ⟨a, b, zs, os, rfl, hA, hB, ok, ol, q⟩ := h
    refine ⟨_, (pss_cons (ps_expr (pe_callD d_check_picks (hr.mono (by decide)) (by rfl) (pa_cons (pv 1) (pa_cons (pv 0) pa_nil))))
  (pss_one (ps_if (pt_cmpR op_eq (pe_callB call_len_seq (by rfl) m_len (by decide +kernel) (pa_cons (pv 1) pa_nil)) (pe_callB call_len_seq (by rfl) m_len (by decide +kernel) (pa_cons (pv 0) pa_nil)) (nomark _)) (pss_one ps_never) pss_nil))), ?_⟩
    refine ⟨_, rfl, _, rfl, b, a, os, zs, rfl, hB, hA, ok.1, ok.2, fun H1 s1 => ?_⟩
    refine ⟨_, rfl, b, _, rfl, .inr (same_tup s1 hB), _, rfl, a, _, rfl, hA.same s1, rfl, _, rfl, ?_⟩
    rw [List.length_map, List.length_map, decide_eq_false (show ¬ V.int ((os.length : Nat) : Int) = V.int ((zs.length : Nat) : Int) from fun e => by have := V.int.inj e; omega)]
    exact iteF (q H1 s1)
/-! _next_lacks -/
def spNext (C : Addr) (K : PySem.W.Frag) : Sp := fun vs H Q _ => ∃ (p b d : Addr) (zs ks kb : List Nam) (R : List BRow) (x : Nam) (f : Nam → Int), vs = [.ref p, .ref b, vN x, .ref d] ∧ RoAt C H p zs R ∧ R.length ≤ 1000 ∧ SqL K H b (ks.map vN) ∧ ks.Nodup ∧ ks.length ≤ 10 ∧ (∀ z ∈ ks, z ∈ zs) ∧ zs.Nodup ∧ x ∈ ks ∧
  H d = some (.dK (kb.map (kvI f))) ∧ (∀ z ∈ ks, z ∈ kb) ∧ ∀ H' r, H r = none → Same H H' → H' r = some (.dK (ks.map (kvI (stepN zs R ks x f)))) → Q (.ref r) H'
theorem ok_next_lacks {f C : Addr} {fd : FuncData} (F : Fun K "_next_lacks" "_next_lacks" s_next_lacks f fd) (T : TxtR K C) (m_dict : mg "dict" = none) (m_zip : mg "zip" = none) (m_max : mg "max" = none)
    (d_votes_for : Def P w K mg base "votes_for" 2 ["roll", "remaining"] (spVotes K C)) (d_lead : Def P w K mg base "lead" 1 ["options", "leaver", "other"] (spLead K)) : FnOk P w K mg base CX0 3 f fd ["roll", "remaining", "leaver", "before"] (spNext C K) := by
  refine F.ok sc_next_lacks (fun vs H Q E h => ?_) (fun cdv A outer s H vs Q E hr h => ?_)
  · obtain ⟨p, b, d, zs, ks, kb, R, x, g, rfl, _⟩ := h
    rfl
  · obtain ⟨p, b, d, zs, ks, kb, R, x, g, rfl, ro, r1000, hB, kn, k10, ksub, nd, hx, hd, kkb, q⟩ := h
    obtain ⟨dx, a, t, rs, ob, hp, ha, hoc, hod, ht, hR⟩ := id ro
    refine ⟨_, (pss_cons (ps_set (i := 4) sc_next_lacks.nd rfl (.inl rfl) (pe_dictZip (by rfl) (by rfl) m_dict (by rfl) m_zip (pa_cons (pv 1) (pa_cons (pe_callD d_votes_for (hr.mono (by decide)) (by rfl) (pa_cons (pv 0) (pa_cons (pv 1) pa_nil))) pa_nil))))
  (pss_cons (ps_set (i := 5) sc_next_lacks.nd rfl (.inl rfl) (pe_op op_add (pe_dget (hu_of hr) (pv 4) (pv 2) (fun _ _ => rfl)) (pe_dget (hu_of hr) (pv 3) (pv 2) (fun _ _ => rfl))))
  (pss_cons (ps_set (i := 6) sc_next_lacks.nd rfl (.inl rfl) pe_dnewK)
  (pss_cons (ps_for PassesOwn.never rfl (pi_list (pv 1)) (pg_name (i := 7) sc_next_lacks.nd rfl (.inl rfl))
    (pss_cons (ps_dput (hu_of hr) (pv 6) (pv 7) (pe_dget (hu_of hr) (pv 3) (pv 7) (fun _ _ => rfl)) rfl)
  (pss_one (ps_if (pt_cmpR op_ne (pv 7) (pv 2) (nomark _)) (pss_cons (ps_set (i := 8) sc_next_lacks.nd rfl (.inl rfl) (pe_op op_sub (pe_op op_add (pv 5) (pe_callD d_lead (hr.mono (by decide)) (by rfl) (pa_cons (pe_fld (pv 0) rfl) (pa_cons (pv 2) (pa_cons (pv 7) pa_nil))))) (pe_dget (hu_of hr) (pv 4) (pv 7) (fun _ _ => rfl))))
  (pss_one (ps_dput (hu_of hr) (pv 6) (pv 7) (pe_callB (call_max2 rfl) (by rfl) m_max (by decide +kernel) (pa_cons (pe_dget (hu_of hr) (pv 3) (pv 7) (fun _ _ => rfl)) (pa_cons (pv 8) pa_nil))) rfl))) pss_nil))))
  (pss_one (ps_ret (pv 6))))))), ?_⟩
    refine ⟨_, rfl, _, rfl, _, rfl, p, b, zs, R, ks, rfl, ro, r1000, .inl hB, k10, fun H1 t1 nt1 s1 et1 => ?_⟩
    refine ⟨b, t1, ks.map keyN, (ks.map (votesR R ks)).map V.int, rfl, by rw [names_keys]; exact s1.seq hB, tupAt et1, by rw [List.length_map, List.length_map, List.length_map], fun V1 nV1 => ?_⟩
    rw [zip_kvI]
    have eM : mergeK [] (ks.map (kvI (votesR R ks))) = ks.map (kvI (votesR R ks)) := merge_new (A := []) kn
    rw [eM]
    have sV := same_upd (o := .dK (ks.map (kvI (votesR R ks)))) nV1
    have eV : (upd H1 V1 (.dK (ks.map (kvI (votesR R ks))))) V1 = some (.dK (ks.map (kvI (votesR R ks)))) := upd_same
    generalize upd H1 V1 (.dK (ks.map (kvI (votesR R ks)))) = H2 at sV eV ⊢
    have s2 := s1.trans sV
    clear s1 sV et1 nV1 eM
    have gV : ∀ {H' : Hp} {z : Nam}, Same H2 H' → z ∈ ks → DGet H' V1 (vN z) (some (.int (votesR R ks z))) := fun {H' z} s m => valI (f := votesR R ks) m ▸ DGet.k (k := keyN z) (s _ _ eV)
    have gB : ∀ {H' : Hp} {z : Nam}, Same H2 H' → z ∈ ks → DGet H' d (vN z) (some (.int (g z))) := fun {H' z} s m => valI (f := g) (kkb z m) ▸ DGet.k (k := keyN z) (s _ _ (s2 _ _ hd))
    refine ⟨_, rfl, _, rfl, V1, _, rfl, gV (Same.refl _) hx, _, rfl, _, rfl, d, _, rfl, gB (Same.refl _) hx, _, _, rfl, rfl, ?_⟩
    refine fun D nD => ?_
    have nDH := none_of s2 nD
    refine ⟨_, rfl, b, rfl, ⟨_, ((s2.trans (same_upd nD)).seq hB)⟩, for_list (K := K) (a := b) (xs := ks.map vN) (fun i σ H' => Same H2 H' ∧ H' D = some (.dK ((ks.take i).map (kvI (stepN zs R ks x g)))) ∧ ∃ y7 y8 : Option V, σ = [some (.ref p), some (.ref b), some (vN x), some (.ref d), some (.ref V1), some (.int (votesR R ks x + g x)), some (.ref D), y7, y8]) ⟨same_upd nD, upd_same, _, _, rfl⟩ (fun i σ H' _ hq => (s2.trans hq.1).seq hB) ?_ ?_⟩
    · rintro i v σ H3 hv ⟨s3, eD, y7, y8, rfl⟩
      obtain ⟨z, ez, rfl⟩ := vN_at hv
      have mz := List.mem_of_getElem? ez
      have hi : i < ks.length := (List.getElem?_eq_some_iff.mp ez).1
      have dl : ((ks.take i).map (kvI (stepN zs R ks x g))).length < sizeLine := by rw [List.length_map, List.length_take]; exact small1000 (by omega)
      refine ⟨_, rfl, _, rfl, d, _, rfl, gB s3 mz, _, rfl, _, rfl, D, _, rfl, DPut.k (k := keyN z) eD dl, ?_⟩
      have s4 : Same H2 (upd H3 D (.dK (putK ((ks.take i).map (kvI (stepN zs R ks x g))) (keyN z) (.int (g z))))) := same_at s3 nD
      have eD4 : (upd H3 D (.dK (putK ((ks.take i).map (kvI (stepN zs R ks x g))) (keyN z) (.int (g z))))) D = some (.dK (putK ((ks.take i).map (kvI (stepN zs R ks x g))) (keyN z) (.int (g z)))) := upd_same
      generalize hN : upd H3 D (.dK (putK ((ks.take i).map (kvI (stepN zs R ks x g))) (keyN z) (.int (g z)))) = H4 at s4 eD4
      refine ⟨_, rfl, _, rfl, rfl, _, rfl, ?_⟩
      rw [eq_nm]
      by_cases h : z = x
      · subst h
        rw [decide_eq_true rfl]
        refine iteF ⟨s4, ?_, _, _, rfl⟩
        rw [eD4, putI_new kn ez (if_pos rfl)]
      · rw [decide_eq_false h]
        refine iteT ?_
        refine ⟨_, rfl, _, rfl, p, C, dx, _, _, rfl, s4 _ _ (s2 _ _ hp), T.cl, T.nO, fldsR_options _ _ _, _, rfl, _, rfl, a, zs, x, z, rfl, .inr ⟨ob, s4 _ _ (s2 _ _ ha), hoc, hod⟩, nd, ksub x hx, ksub z mz, ?_⟩
        refine ⟨_, _, rfl, rfl, _, rfl, _, rfl, V1, _, rfl, gV s4 mz, _, _, rfl, rfl, ?_⟩
        refine ⟨_, rfl, _, rfl, d, _, rfl, gB s4 mz, _, rfl, _, _, rfl, _, rfl, _, rfl, D, _, rfl, DPut.k (k := keyN z) eD4 ?_, same_at s4 nD, ?_, _, _, rfl⟩
        · have := length_putK ((ks.take i).map (kvI (stepN zs R ks x g))) (keyN z) (.int (g z))
          rw [List.length_map, List.length_take] at this
          exact small1000 (by omega)
        · rw [putI_two kn ez]
          · exact upd_same
          · show stepN zs R ks x g z = _
            unfold stepN
            rw [if_neg h]
            omega
    · rintro σ H3 ⟨s3, eD, y7, y8, rfl⟩
      rw [List.length_map, List.take_length] at eD
      exact ⟨_, rfl, q H3 D nDH (s2.trans s3) eD⟩
end
end TK

namespace TK
open PySem PySem.Spec PyProof.Rows L2
section
variable {X : Cx}
/-- y = {k: v for ..}, y a plain name -/
theorem ps_setDc {i : Nat} {y : Str} {py : Pos} {kx vx tg iter : Expr} {ifs : List Expr} {scope : Scope} {own : List (Str × Nat)} {pos spos : Pos} {wi : TI} {g : TG} {tt : TT} {tk tv : TE} (hc : X.calm = true) (hN : X.N.Nodup) (hy : X.N[i]? = some y) (hyl : X.env.scope.names.lookup y = some .local)
    (hsw : swapsWith (.DictComp kx vx [⟨tg, iter, ifs, 0⟩] scope pos) (some (.Name y py)) spos.line X.env = pure true) (hi : PI X tg iter wi) (ok : BlkOk X.N X.env.scope scope own)
    (hg : ∀ (s : Shared) (H : Hp) (C : Addr) (cl : List (Str × Addr)) (fp : List Addr), PG (X.blk s H scope (compEnvC scope cl C X.env) fp) tg g) (ht : ∀ (s : Shared) (H : Hp) (C : Addr) (cl : List (Str × Addr)) (fp : List Addr), PTs (X.blk s H scope (compEnvC scope cl C X.env) fp) ifs tt)
    (hk : ∀ (s : Shared) (H : Hp) (C : Addr) (cl : List (Str × Addr)) (fp : List Addr), PE (X.blk s H scope (compEnvC scope cl C X.env) fp) kx tk)
    (he : ∀ (s : Shared) (H : Hp) (C : Addr) (cl : List (Str × Addr)) (fp : List Addr), PE (X.blk s H scope (compEnvC scope cl C X.env) fp) vx tv) (hs : ∀ x, foldedSetIterable iter X.env x = pure x := by intro _; rfl) :
    PS X (.Assign [.Name y py] (.DictComp kx vx [⟨tg, iter, ifs, 0⟩] scope pos) spos) (tAsg (tDc wi g tt tk tv (own.map (·.2))) (gName i)) := by
  refine ⟨fun pins s σ H D I h => ?_⟩
  rw [exec_Assign_Name_used _ _ _ _ hsw]
  refine wpAny_bind (wpAny_standAt (wpAny_bind ?_))
  show wpAny _ X.A (do let _ ← comprehension (.DictComp kx vx [⟨tg, iter, ifs, 0⟩] scope pos) scope X.env (firstIterPos [⟨tg, iter, ifs, 0⟩] pos) newDict false (eval iter X.env) (some (assign (.Name y py) X.env))) _ _ s
  have h : tDc wi g tt tk tv (own.map (·.2)) σ H (fun x H1 => gName i x σ H1 D.nx) := h
  refine wpAny_bind (thn (dc_core (Qf := fun _ s' => SP X pins D .next s') hc hN I hi ok hg ht hk he hs h fun L C s' m H' I' q hn f => ?_) fun _ s' hq => wpAny_pure (wpAny_pure hq))
  show wpAny _ _ (assign (.Name y py) X.env (.ref L)) _ _ _
  refine wpAny_assign_Name (store_ok2 (v := V.ref L) I' hN hy (.inl hyl) rfl (fun s2 I2 ⟨a, sb, ha⟩ => ?_) (.inr hyl))
  obtain ⟨f0, f1, f2, f3, f4, f5⟩ := f
  have haC : C ≠ a := by
    rcases ha with z | z
    · rw [z]; exact f1
    · exact fun e => f4 y a z e.symm
  refine ⟨m, hn.sameBut sb haC, fun h3 sb3 => ?_⟩
  exact ⟨_, H', I2.turned (t' := s2.toks) (fun b o hb e => (sb3.2 b hb).trans e) f0 f1 f3 f4 f5, q⟩
theorem sw_trueD {kx vx : Expr} {gs : List Comprehension} {scope : Scope} {pos py : Pos} {y : Str} {l : Nat} {env : Env} (hk : env.scope.kind = .function) (hy : env.scope.names.lookup y = some .local) (hl : (py.line == pos.line) = true)
    (ha : (scope.names.any fun (n, k) => n == y && (k == .local || k == .cell)) = false) : swapsWith (.DictComp kx vx gs scope pos) (some (.Name y py)) l env = pure true := by
  have ky : env.kindOf y = some .local := hy
  have hb : env.blockKind = .function := by unfold Env.blockKind; rw [hk]; rfl
  unfold swapsWith
  simp only [hb, ky, ha, Expr.pos, hl]
  rfl
end
end TK

/-! what is lacking: rows, table, the greatest sum -/
namespace TK
open PySem PySem.Spec PyProof.Rows L2
/-- the dicts of the rounds -/
def RowsD (H : Hp) (es : List Addr) (zs : List Nam) (R : List BRow) (os : List Nam) (n : Nat) : Prop := es.length = n ∧ ∀ (t : Nat) (e : Addr), es[t]? = some e → H e = some (.dK ((remO zs os t).map (kvI (lkN zs R os (t + 1)))))
theorem RowsD.same {H H' : Hp} {es : List Addr} {zs os : List Nam} {R : List BRow} {n : Nat} (h : RowsD H es zs R os n) (s : Same H H') : RowsD H' es zs R os n := ⟨h.1, fun t e he => s _ _ (h.2 t e he)⟩
theorem RowsD.snoc {H : Hp} {es : List Addr} {zs os : List Nam} {R : List BRow} {n : Nat} {e D : Addr} {l : List V} {o : HO} (h : RowsD H es zs R os n) (he : H e = some (.dK ((remO zs os n).map (kvI (lkN zs R os (n + 1)))))) (hd : H D = some (.lst l)) : RowsD (upd H D o) (es ++ [e]) zs R os (n + 1) := by
  refine ⟨by rw [List.length_append, h.1]; rfl, fun t x hx => ?_⟩
  have ne : ∀ {c kvs}, H c = some (.dK kvs) → c ≠ D := fun hc q => by rw [q, hd] at hc; cases hc
  by_cases ht : t < n
  · rw [List.getElem?_append_left (by rw [h.1]; exact ht)] at hx
    have := h.2 t x hx
    rw [upd_ne (ne this)]
    exact this
  · have hl := (List.getElem?_eq_some_iff.mp hx).1
    rw [List.length_append, h.1] at hl
    have e1 : t = n := by have : [e].length = 1 := rfl; omega
    subst e1
    rw [List.getElem?_append_right (by rw [h.1]; omega), h.1, Nat.sub_self] at hx
    cases Option.some.inj hx
    rw [upd_ne (ne he)]
    exact he
def rowI (zs : List Nam) (R : List BRow) (os : List Nam) (t : Nat) : List Int := (remO zs os t).map (lkN zs R os (t + 1))
def rowsI (zs : List Nam) (R : List BRow) (os : List Nam) : List (List Int) := (List.range os.length).map (rowI zs R os)
theorem rowsI_len (zs : List Nam) (R : List BRow) (os : List Nam) : (rowsI zs R os).length = os.length := by unfold rowsI; rw [List.length_map, List.length_range]
theorem rowsI_at {zs : List Nam} {R : List BRow} {os : List Nam} {t : Nat} (h : t < os.length) : (rowsI zs R os)[t]? = some (rowI zs R os t) := by
  unfold rowsI
  rw [List.getElem?_map, List.getElem?_range h]
  rfl
/-- rows of numbers, each in a tuple -/
def IRows (H : Hp) (es : List Addr) (rows : List (List Int)) : Prop := es.length = rows.length ∧ ∀ (i : Nat) (e : Addr), es[i]? = some e → ∃ r : List Int, rows[i]? = some r ∧ H e = some (.tup (r.map V.int))
theorem IRows.same {H H' : Hp} {es : List Addr} {rows : List (List Int)} (h : IRows H es rows) (s : Same H H') : IRows H' es rows := ⟨h.1, fun i e he => by
  obtain ⟨r, h1, h2⟩ := h.2 i e he
  exact ⟨r, h1, s _ _ h2⟩⟩
theorem IRows.snoc {H : Hp} {es : List Addr} {rows : List (List Int)} {e D : Addr} {r : List Int} {l : List V} {o : HO} (h : IRows H es rows) (he : H e = some (.tup (r.map V.int))) (hd : H D = some (.lst l)) : IRows (upd H D o) (es ++ [e]) (rows ++ [r]) := by
  refine ⟨by rw [List.length_append, List.length_append, h.1]; rfl, fun t x hx => ?_⟩
  have ne : ∀ {c xs}, H c = some (.tup xs) → c ≠ D := fun hc q => by rw [q, hd] at hc; cases hc
  by_cases ht : t < es.length
  · rw [List.getElem?_append_left ht] at hx
    obtain ⟨r', h1, h2⟩ := h.2 t x hx
    exact ⟨r', by rw [List.getElem?_append_left (by rw [← h.1]; exact ht)]; exact h1, by rw [upd_ne (ne h2)]; exact h2⟩
  · have hl := (List.getElem?_eq_some_iff.mp hx).1
    rw [List.length_append] at hl
    have e1 : t = es.length := by have : [e].length = 1 := rfl; omega
    subst e1
    rw [List.getElem?_append_right (Nat.le_refl _), Nat.sub_self] at hx
    cases Option.some.inj hx
    refine ⟨r, by rw [h.1, List.getElem?_append_right (Nat.le_refl _), Nat.sub_self]; rfl, ?_⟩
    rw [upd_ne (ne he)]
    exact he
theorem lk_nn {zs : List Nam} {R : List BRow} {os : List Nam} : ∀ (t : Nat) (z : Nam), 0 ≤ lkN zs R os t z
  | 0, _ => Int.le_refl _
  | t + 1, z => by
    have ih := lk_nn (zs := zs) (R := R) (os := os) t z
    show 0 ≤ stepN zs R (remO zs os t) (osAt os t) (lkN zs R os t) z
    unfold stepN
    split
    · exact ih
    · omega
theorem sum_nn : ∀ {l : List Int}, (∀ x ∈ l, 0 ≤ x) → 0 ≤ l.sum
  | [], _ => Int.le_refl _
  | x :: l, h => by
    have h1 := h x List.mem_cons_self
    have h2 := sum_nn (l := l) fun y m => h y (List.mem_cons_of_mem _ m)
    rw [List.sum_cons]
    omega
def maxL (ns : List Int) : Int := ns.foldl max 0
theorem maxL_from : ∀ (ns : List Int) (g : Int), g ≤ ns.foldl max g ∧ (∀ y ∈ ns, y ≤ ns.foldl max g) ∧ (ns.foldl max g = g ∨ ns.foldl max g ∈ ns)
  | [], g => ⟨Int.le_refl _, (fun _ h => nomatch h), .inl rfl⟩
  | x :: ns, g => by
    obtain ⟨h1, h2, h3⟩ := maxL_from ns (max g x)
    refine ⟨?_, fun y m => ?_, ?_⟩
    · show g ≤ ns.foldl max (max g x)
      omega
    · show y ≤ ns.foldl max (max g x)
      rcases List.mem_cons.mp m with rfl | m
      · omega
      · exact h2 y m
    · show ns.foldl max (max g x) = g ∨ ns.foldl max (max g x) ∈ x :: ns
      rcases h3 with h3 | h3
      · rcases Int.le_total g x with q | q
        · exact .inr (by rw [h3, Int.max_eq_right q]; exact List.mem_cons_self)
        · exact .inl (by rw [h3, Int.max_eq_left q])
      · exact .inr (List.mem_cons_of_mem _ h3)
theorem maxL_eq {ns : List Int} {m : Int} (nn : ∀ y ∈ ns, 0 ≤ y) (hm : m ∈ ns) (h : ∀ y ∈ ns, y ≤ m) : maxL ns = m := by
  obtain ⟨h1, h2, h3⟩ := maxL_from ns 0
  have := h2 m hm
  rcases h3 with h3 | h3
  · have := nn m hm
    show ns.foldl max 0 = m
    omega
  · have := h _ h3
    show ns.foldl max 0 = m
    omega
def lackV (zs : List Nam) (R : List BRow) (os : List Nam) : Int := maxL ((rowsI zs R os).map List.sum)
theorem row_nn {zs : List Nam} {R : List BRow} {os : List Nam} {r : List Int} (h : r ∈ rowsI zs R os) : 0 ≤ r.sum := by
  obtain ⟨t, _, rfl⟩ := List.mem_map.mp h
  refine sum_nn fun x m => ?_
  obtain ⟨z, _, rfl⟩ := List.mem_map.mp m
  exact lk_nn _ _
section
variable {P : Program} {w : World} {K : PySem.W.Frag} {mg : Str → Option Value} {base : Heap}
/-! lack_rows -/
def LArgs (K : PySem.W.Frag) (C : Addr) (H : Hp) (p o : Addr) (zs os : List Nam) (R : List BRow) : Prop := RoAt C H p zs R ∧ R.length ≤ 1000 ∧ SqT K H o (os.map vN) ∧ BOk zs os ∧ os.length < zs.length ∧ zs.Nodup ∧ zs.length ≤ 10
theorem LArgs.same {K : PySem.W.Frag} {C : Addr} {H H' : Hp} {p o : Addr} {zs os : List Nam} {R : List BRow} (h : LArgs K C H p o zs os R) (s : Same H H') : LArgs K C H' p o zs os R := ⟨h.1.same s, h.2.1, same_tup s h.2.2.1, h.2.2.2⟩
def spLackRows (K : PySem.W.Frag) (C : Addr) : Sp := fun vs H Q _ => ∃ (p o : Addr) (zs os : List Nam) (R : List BRow), vs = [.ref p, .ref o] ∧ LArgs K C H p o zs os R ∧
  ∀ H' r es, H r = none → Same H H' → H' r = some (.lst (es.map V.ref)) → RowsD H' es zs R os os.length → Q (.ref r) H'
theorem ok_lack_rows {f C : Addr} {fd : FuncData} (F : Fun K "lack_rows" "lack_rows" s_lack_rows f fd) (T : TxtR K C) (m_enumerate : mg "enumerate" = none)
    (d_next_lacks : Def P w K mg base "_next_lacks" 3 ["roll", "remaining", "leaver", "before"] (spNext C K)) : FnOk P w K mg base CX0 4 f fd ["roll", "order"] (spLackRows K C) := by
  refine F.ok sc_lack_rows (fun vs H Q E h => ?_) (fun cdv A outer s H vs Q E hr h => ?_)
  · obtain ⟨p, o, zs, os, R, rfl, _⟩ := h
    rfl
  · obtain ⟨p, o, zs, os, R, rfl, la, q⟩ := h
    obtain ⟨ro, r1000, hO, ok, ol, nd, z10⟩ := id la
    obtain ⟨dx, a, t, rs, ob, hp, ha, hoc, hod, ht, hR⟩ := id ro
    refine ⟨_, (pss_cons (ps_set (i := 2) sc_lack_rows.nd rfl (.inl rfl) (pe_lst pa_nil))
  (pss_cons (ps_setDc (i := 3) (own := [("option", 7)]) (by rfl) sc_lack_rows.nd rfl rfl (sw_trueD rfl rfl rfl (by decide +kernel)) (pi_tup (pe_fld (pv 0) rfl)) (blkOk_by (N := ["roll", "order", "rows", "before", "at", "leaver", "remaining", "option"]) (sc := defScope s_lack_rows) (by decide +kernel)) (fun _ _ _ _ _ => (pg_name (i := 7) sc_lack_rows.nd rfl (.inl rfl))) (fun _ _ _ _ _ => pts_nil) (fun _ _ _ _ _ => (pv 7)) (fun _ _ _ _ _ => pe_int))
  (pss_cons (ps_for PassesOwn.never rfl (pi_enumT (by rfl) m_enumerate (pa_cons (pv 1) pa_nil)) (pg_tup (by rfl) (pgs_cons (pg_name (i := 4) sc_lack_rows.nd rfl (.inr rfl)) (pgs_cons (pg_name (i := 5) sc_lack_rows.nd rfl (.inl rfl)) pgs_nil)))
    (pss_cons (ps_setLc (i := 6) (own := [("option", 7)]) (by rfl) sc_lack_rows.nd rfl rfl (sw_true rfl rfl rfl (by decide +kernel)) (pi_tup (pe_fld (pv 0) rfl)) (blkOk_by (N := ["roll", "order", "rows", "before", "at", "leaver", "remaining", "option"]) (sc := defScope s_lack_rows) (by decide +kernel)) (fun _ _ _ _ _ => (pg_name (i := 7) sc_lack_rows.nd rfl (.inl rfl))) (fun _ _ _ _ _ => (pts_one (pt_cmpR (op_notIn_seqK (K := K) rfl) (pv 7) (pe_slice (sl_tupKx (K := K) rfl) (pv 1) po_none (po_some (pv 4))) (by rfl)))) (fun _ _ _ _ _ => (pv 7)))
  (pss_cons (ps_set (i := 3) sc_lack_rows.nd rfl (.inl rfl) (pe_callD d_next_lacks (hr.mono (by decide)) (by rfl) (pa_cons (pv 0) (pa_cons (pv 6) (pa_cons (pv 5) (pa_cons (pv 3) pa_nil))))))
  (pss_one (ps_expr (pe_bm PySem.F.plainAttrs_list PySem.F.slot_list_append PySem.F.type_list_append mt_append (pv 2) (pa_cons (pv 3) pa_nil)))))))
  (pss_one (ps_ret (pv 2)))))), ?_⟩
    refine ⟨Nat.zero_le _, fun D nD => ?_⟩
    have s0 := same_upd (o := .lst []) nD
    have eD0 : (upd H D (.lst [])) D = some (.lst ([] : List V)) := upd_same
    generalize hH0 : upd H D (.lst []) = H0 at s0 eD0
    refine ⟨_, rfl, p, C, dx, _, _, rfl, s0 _ _ hp, T.cl, T.nO, fldsR_options _ _ _, a, rfl, ⟨_, .inl (.inr ⟨ob, s0 _ _ ha⟩)⟩, fun B nB => ?_⟩
    refine dc_tup (K := K) (a := a) (xs := zs.map vN) (fun i H' => H' = upd H0 B (.dK ((zs.take i).map (kvI fun _ => 0)))) rfl (fun i H' _ e => e ▸ .inl (.inr ⟨ob, same_upd nB _ _ (s0 _ _ ha)⟩)) (fun i x H' hx hq => ?_) (fun H' hq => ?_)
    · subst hq
      obtain ⟨z, ez, rfl⟩ := vN_at hx
      have hz : ((zs.take i).map (kvI fun _ => 0)).length < sizeLine := by rw [List.length_map, List.length_take]; exact small1000 (by omega)
      refine ⟨rfl, yesT ⟨_, rfl, _, keyN z, rfl, upd_same, hz, ?_⟩⟩
      rw [upd_twice, putI_new nd ez rfl]
    subst hq
    rw [List.length_map, List.take_length]
    have s1' := same_upd (o := .dK (zs.map (kvI fun _ => 0))) nB
    have eB : (upd H0 B (.dK (zs.map (kvI fun _ => 0)))) B = some (.dK (zs.map (kvI fun _ => 0))) := upd_same
    generalize upd H0 B (.dK (zs.map (kvI fun _ => 0))) = H1 at s1' eB ⊢
    have s1 := s0.trans s1'
    have eD1 := s1' _ _ eD0
    clear nB
    refine ⟨_, rfl, o, _, rfl, same_tup s1 hO, for_it walk_enumT (fun i σ H' => ∃ (d : Addr) (es : List Addr) (y4 y5 y6 y7 : Option V), σ = [some (.ref p), some (.ref o), some (.ref D), some (.ref d), y4, y5, y6, y7] ∧ Same H H' ∧ H' D = some (.lst (es.map V.ref)) ∧ RowsD H' es zs R os i ∧ H' d = some (.dK ((keyO zs os i).map (kvI (lkN zs R os i))))) ⟨B, [], _, _, _, _, rfl, s1, eD1, ⟨rfl, fun _ _ h => nomatch h⟩, eB⟩ (fun i σ H' _ hq => ?_) ?_ ?_⟩
    · obtain ⟨d, es, y4, y5, y6, y7, rfl, s2, _⟩ := hq
      exact same_tup s2 hO
    · rintro i x σ H2 H3 hi ⟨d, es, y4, y5, y6, y7, rfl, s2, eD, hT, ed⟩ ⟨T0, v1, v2, rfl, nT, rfl, e1, e2⟩
      cases e1
      obtain ⟨z, ez, rfl⟩ := vN_at e2
      have hi' : i < os.length := (List.getElem?_eq_some_iff.mp ez).1
      have sT := same_upd (o := .tup [.int (i : Nat), vN z]) nT
      refine ⟨_, _, rfl, tupAt upd_same, rfl, _, _, rfl, _, _, rfl, rfl, ?_⟩
      have s3 := s2.trans sT
      have eD3 := sT _ _ eD
      have hT3 := hT.same sT
      have ed3 := sT _ _ ed
      generalize upd H2 T0 (.tup [.int (i : Nat), vN z]) = H3 at s3 eD3 hT3 ed3 ⊢
      clear sT
      refine ⟨_, rfl, p, C, dx, _, _, rfl, s3 _ _ hp, T.cl, T.nO, fldsR_options _ _ _, a, rfl, ⟨_, .inl (.inr ⟨ob, s3 _ _ ha⟩)⟩, fun W nW => ?_⟩
      refine lc_tup (K := K) (a := a) (xs := zs.map vN) (fun j H' => Same H3 H' ∧ H' W = some (.lst (((zs.take j).filter fun y => decide (y ∉ os.take i)).map vN))) ⟨same_upd nW, upd_same⟩ (fun j H' _ hq => .inl (.inr ⟨ob, (s3.trans hq.1) _ _ ha⟩)) (fun j v H' hx2 hq => ?_) (fun H' hq => ?_)
      · obtain ⟨s5, eW⟩ := hq
        obtain ⟨y, ey, rfl⟩ := vN_at hx2
        have hj : j < zs.length := (List.getElem?_eq_some_iff.mp ey).1
        refine ⟨rfl, _, rfl, _, rfl, _, rfl, _, rfl, _, _, rfl, same_tup (s3.trans s5) hO, (by rintro ⟨_, hw⟩; rw [HT.sIx_nat, List.length_map] at hw; omega), fun S nS => ?_⟩
        rw [cut_names]
        have sS := same_upd (o := .tup ((os.take i).map vN)) nS
        refine ⟨S, _, rfl, .inr (tupAt upd_same), rfl, nms_flat _, _, rfl, ?_⟩
        rw [notin_nm, flt_snoc ey]
        by_cases h : y ∈ os.take i
        · rw [decide_eq_true h, if_neg (by simp [h]), List.append_nil]
          exact iteF ⟨s5.trans sS, sS _ _ eW⟩
        · rw [decide_eq_false h, if_pos (by simp [h])]
          refine iteT ⟨_, rfl, _, sS _ _ eW, ?_, ?_⟩
          · have l1 : ((zs.take j).filter fun y => decide (y ∉ os.take i)).length ≤ (zs.take j).length := List.length_filter_le _ _
            rw [List.length_take] at l1
            rw [List.length_map]
            exact small1000 (by omega)
          · exact ⟨same_at (s5.trans sS) nW, by rw [List.map_append]; exact upd_same⟩
      · obtain ⟨s5, eW⟩ := hq
        rw [List.length_map, List.take_length] at eW
        have eW : H' W = some (.lst ((remO zs os i).map vN)) := eW
        have s6 := s3.trans s5
        have oe := os_at ez
        have rl := rem_len (zs := zs) (os := os) (t := i)
        refine ⟨_, rfl, _, rfl, _, rfl, _, rfl, p, W, d, zs, remO zs os i, keyO zs os i, R, z, lkN zs R os i, rfl, ro.same s6, r1000, lstAt eW, rem_nd nd, by omega, rem_sub, nd, rem_has ok ez, s5 _ _ ed3, rem_key, fun H7 r nr s7 er => ?_⟩
        rw [← oe] at er
        have er : H7 r = some (.dK ((remO zs os i).map (kvI (lkN zs R os (i + 1))))) := er
        have eD7 := s7 _ _ (s5 _ _ eD3)
        refine ⟨_, rfl, .inl ⟨rfl, _, lstAt eD7⟩, _, rfl, D, _, _, rfl, rfl, eD7, by rw [List.length_map, hT.1]; exact small1000 (by omega), ?_⟩
        refine ⟨r, es ++ [r], _, _, _, _, rfl, same_at (s6.trans s7) nD, by rw [List.map_append]; exact upd_same, ((hT3.same s5).same s7).snoc er eD7, ?_⟩
        rw [upd_ne (fun e => by rw [e, eD7] at er; cases er)]
        exact er
    · rintro σ H2 ⟨d, es, y4, y5, y6, y7, rfl, s2, eD, hT, ed⟩
      rw [List.length_map] at hT
      exact ⟨_, rfl, q H2 D es nD s2 eD hT⟩
/-! lack_table -/
def spLackTable (K : PySem.W.Frag) (C : Addr) : Sp := fun vs H Q _ => ∃ (p o : Addr) (zs os : List Nam) (R : List BRow), vs = [.ref p, .ref o] ∧ LArgs K C H p o zs os R ∧
  ∀ H' r es, H r = none → Same H H' → H' r = some (.tup (es.map V.ref)) → IRows H' es (rowsI zs R os) → Q (.ref r) H'
theorem kvI_snd (f : Nam → Int) (ks : List Nam) : (ks.map (kvI f)).map (·.2) = (ks.map f).map V.int := by rw [List.map_map, List.map_map]; rfl
/-! lack -/
def spLack (K : PySem.W.Frag) (C : Addr) : Sp := fun vs H Q _ => ∃ (p o : Addr) (zs os : List Nam) (R : List BRow), vs = [.ref p, .ref o] ∧ LArgs K C H p o zs os R ∧ ∀ H', Same H H' → Q (.int (lackV zs R os)) H'
end
end TK

/-! x in a list of tuples; list(o) of an object whose __iter__ hands out an iterator of a tuple -/
namespace TK
open PySem PySem.Spec PyProof.Rows L2
theorem rm65 {k : Nat} {A : Around} (r : Room k A) : A.units + 65 < cLine := by have := r.un; omega
section
variable {X : Cx} {C gi gl : Addr} {n : Nat} {fdL : FuncData} {psL : List Str} {spL : Sp} {R : Addr → Addr → Hp → Prop}
def rListIt (K : PySem.W.Frag) (C : Addr) (R : Addr → Addr → Hp → Prop) (spL : Sp) : List V → Hp → VK → Prop := fun xs H Q => ∃ (a dx : Addr) (fs : List (Str × V)) (t : Addr) (ys : List V), xs = [.ref a] ∧ H a = some (.ins C dx fs) ∧ SqT K H t ys ∧ ys.length ≤ sizeLine ∧
  (∀ H', Same H H' → R a t H' ∧ spL [.ref a] H' (fun z H2 => z = .int ((ys.length : Nat) : Int) ∧ H2 = H') E0) ∧ ∀ q, H q = none → Q (.ref q) (upd H q (.lst ys))
theorem run_own0 {pins : List (Addr × Obj)} {σ : L2.St} {H : Hp} {s : Shared} {g : Addr} {fd : FuncData} {ps : List Str} {sp : Sp} {A : Around} {Q : VK} {us : List Value} {vs : List V} (F : FnOk X.prog X.w X.K X.mg X.base CX0 n g fd ps sp) (hr : Room n A) (e0 : Env0 X.prog X.w X.K X.mg X.base A X.stack s H) (hb : Binds X.K fd ps [])
    (I : Inv X pins σ H s) (r : Vals vs us) (h : sp vs H Q E0) {E : Value → Shared → Prop} : wpAny (model X.prog X.w) A (call (.ref g) us) (EP X pins σ Q) E s := by
  have hl : (us ++ []).length = ps.length := by rw [List.append_nil, ← r.length]; exact F.len _ _ _ _ h
  have hbb := hb s us I.kIn hl
  rw [List.append_nil] at hbb
  refine wpAny_call (codeAny_mono (F.run A X.stack s H ⟨us, []⟩ us vs Q E0 hr e0 hbb r h) fun r s' hq => ?_)
  cases r with
  | error e => exact False.elim hq
  | ok fl =>
    cases fl with
    | ret u => exact I.after hq
    | next => exact False.elim hq
    | brk => exact False.elim hq
    | cont => exact False.elim hq
theorem call_listIt (ci : Own X.K C "__iter__" gi) (FI : FnIt X.prog X.w X.K X.mg X.base n gi R) (cl : Own X.K C "__len__" gl) (FL : FnOk X.prog X.w X.K X.mg X.base CX0 n gl fdL psL spL) (bL : Binds X.K fdL psL []) (hr : Room (n + 3) X.A) : CallR X (.type "list") (rListIt X.K C R spL) := by
  intro pins s σ H xs us Q I rv h
  obtain ⟨a, dx, fs, t, ys, rfl, ha, ht, hz, hR, hQ⟩ := h
  obtain ⟨u, rfl, ru⟩ := vals1 rv
  cases ru
  have r3 : Room n X.A.in1.in1.in1 := hr.in1.in1.in1
  have r2 : Room n X.A.in1.in1 := hr.in1.in1.mono (Nat.le_succ n)
  refine callType_codes (Q₁ := fun obj s₁ => obj = .ref s.heap.objs.size ∧ s₁ = { s with heap := s.heap.push { cls := .type "list", data := .seq #[] } }) PySem.F.called_list (PySem.F.typeCall_list_1 _) PySem.F.entry_list_init
    (code_list_new _ ⟨rfl, rfl⟩) fun obj s₁ h₁ => ?_
  obtain ⟨rfl, rfl⟩ := h₁
  have hS : (s.heap.push { cls := .type "list", data := .seq #[] }).get? s.heap.objs.size = some { cls := .type "list", data := .seq #[] } := Heap.get?_push_size _ rfl
  refine ⟨⟨_, hS, rfl⟩, PySem.F.args_list_init_2 _ _, ?_⟩
  have fr : H s.heap.objs.size = none := I.hok.fresh (Nat.le_refl _)
  have hQq := hQ _ fr
  have sH := same_upd (o := .lst []) fr
  have I1 : Inv X pins σ (upd H s.heap.objs.size (.lst [])) { s with heap := s.heap.push { cls := .type "list", data := .seq #[] } } := I.lnew (its := []) (t' := s.toks) .nil (Nat.zero_le _)
  have ha1 := sH _ _ ha
  have hq1 : (upd H s.heap.objs.size (.lst [])) s.heap.objs.size = some (.lst []) := upd_same
  have ht1 : SqT X.K (upd H s.heap.objs.size (.lst [])) t ys := same_tup sH ht
  obtain ⟨hR1, _⟩ := hR _ sH
  have hup : ∀ l, upd H s.heap.objs.size (.lst l) = upd (upd H s.heap.objs.size (.lst [])) s.heap.objs.size (.lst l) := fun l => (upd_upd ..).symm
  rw [hup] at hQq
  have qlt : X.s_0.heap.objs.size ≤ s.heap.objs.size := I.sz
  have hRL := fun H' (k : Same (upd H s.heap.objs.size (.lst [])) H') => (hR H' (sH.trans k)).2
  generalize hqd : s.heap.objs.size = q at *
  generalize upd H q (.lst []) = H1 at *
  show wpAny _ _ (do let old ← Builtin.List.listItems (.ref q); Builtin.List.listUpdate (.ref q) (fun _ => #[]); letGo old.toList.reverse; Builtin.List.listExtendWith (.ref q) (.ref a) .none) _ _ _
  refine wpAny_bind ?_
  unfold Builtin.List.listItems
  refine wpAny_bind (wpAny_seqItems hS rfl (wpAny_pure ?_))
  show wpAny _ _ (updateSeq q (fun _ => #[]) >>= fun _ => letGo (#[] : Array Value).toList.reverse >>= fun _ => Builtin.List.listExtendWith (.ref q) (.ref a) .none) _ _ _
  refine wpAny_bind (wpAny_updateSeq hS rfl ?_)
  have I2 := I1.lset (f := fun _ => #[]) (its := []) (its' := []) (ys := []) (t' := s.toks) hq1 hS rfl .nil (Nat.zero_le _)
  have e1 : upd H1 q (.lst []) = H1 := by
    funext b
    by_cases hb : b = q
    · rw [hb, upd_same, hq1]
    · rw [upd_ne hb]
  rw [e1] at I2
  refine wpAny_bind (wpAny_letGo ?_)
  generalize ({ s with heap := (s.heap.push { cls := .type "list", data := .seq #[] }).update q (Obj.mapSeq fun _ => #[]) } : Shared) = s2 at I2 ⊢
  have hne : q ≠ a := fun e => by rw [e, ha1] at hq1; cases hq1
  obtain ⟨ox, od, J⟩ := own_at I2 ha1
  obtain ⟨m0, hF⟩ := I2.fr
  unfold Builtin.List.listExtendWith
  refine wpAny_bind (J.type.here ?_)
  have h1 : Builtin.List.listSameRef (.ref q) (.ref a) = false := by simp [Builtin.List.listSameRef, hne]
  have h2 : (Value.ref C == Value.type "list") = false := rfl
  have h3 : (Value.ref C == Value.type "tuple") = false := rfl
  simp only [h1, h2, h3, Bool.or_false, Bool.false_eq_true, if_false]
  refine wpAny_bind (PySem.W.owit_iter hF I2.ok.mod.kin J ci.at_ ci.fn ?_)
  refine wpAny_call (codeAny_mono (FI X.A.in1.in1 X.stack s2 H1 a t r2 I2.env0.in1.in1 hR1) fun r s' hq => ?_)
  cases r with
  | error e => exact False.elim hq
  | ok fl =>
    cases fl with
    | next => exact False.elim hq
    | brk => exact False.elim hq
    | cont => exact False.elim hq
    | ret u =>
      obtain ⟨z, H2, os, bare, un, hok, rz, it, rfl, hn, hge, rfl⟩ := id hq
      have I3 : Inv X pins σ (upd H1 it (ItT t it)) s' := I2.call' os un hok bare (fun b z => absurd z (by simp))
      cases rz
      have hget : s'.heap.get? it = some (itTObj t 0) := (I3.hok it _ upd_same).1
      have hT : s'.TypeIs (.ref it) "tuple_iterator" := ⟨_, hget, rfl⟩
      have hi : (upd H1 it (ItT t it)) it = some (.ext fun h => h.get? it = some (itTObj t 0)) := upd_same
      unfold PySem.W.OwitIt
      refine wpAny_specialOf (name := Str.ofString "__next__") hT PySem.F.slot_tuple_iterator_next.lookup ?_
      have sI := same_upd (H := H1) (o := ItT t it) hn
      have ha3 := sI _ _ ha1
      obtain ⟨ox3, od3, J3⟩ := own_at I3 ha3
      obtain ⟨m3, hF3⟩ := I3.fr
      have hl3 := hRL _ sI
      refine wpAny_bind (wpAny_holding ?_)
      unfold Builtin.List.listLengthHint
      refine wpAny_bind (wpAny_bind (J3.type.here ((PySem.W.looks_findIn I3.kIn cl.at_).here ?_)))
      refine PySem.W.KFB.if_not rfl ?_
      dsimp only
      rw [if_pos (show (some (Value.ref gl)).isSome = true from rfl)]
      refine wpAny_bind (wpAny_rule ?_)
      refine wpAny_bind (wpAny_attempt (PySem.W.len_K hF3 I3.ok.mod.kin J3 cl.at_ cl.fn (wpAny_mono (run_own0 FL r3 I3.env0.in1.in1.in1 bL I3 (vs := [.ref a]) (.cons rfl .nil) hl3) (fun w s' z => ?_) fun _ _ x => x)))
      obtain ⟨z', H', I', rz, rfl, rfl⟩ := z
      obtain ⟨tk, rfl⟩ := (show ∃ t, w = Value.int _ t from rz)
      have hz2 : ys.length < 2 ^ 63 := Nat.lt_of_le_of_lt hz (by rw [sizeLine_eq]; decide)
      refine ⟨⟨by omega, by omega⟩, ?_⟩
      refine wpAny_bind (m := asInt? (Value.int ((ys.length : Nat) : Int) _)) (wpAny_pure ?_)
      dsimp only
      rw [if_neg (by rw [Int.toNat_natCast, notLongL hz]; exact Bool.false_ne_true)]
      refine wpAny_pure ?_
      have main : ∀ s4 : Shared, Inv X pins σ (upd H1 it (ItT t it)) s4 → codeAny (model X.prog X.w) X.A.in1 (.builtin "list.extend.loop" ⟨[.ref q, .ref it, .none], []⟩) (wants (fun r s₂ => r = Value.none ∧ EP X pins σ Q (Value.ref q) s₂) X.xe) s4 := fun s4 I4 => by
        have hget4 : s4.heap.get? it = some (itTObj t 0) := (I4.hok it _ upd_same).1
        have I5 := ItX.inv_drop I4 hi
        have fp := ItX.inv_fp I4 hi (Nat.le_trans I2.sz hge)
        rw [ItX.dropH_upd hn] at I5 fp
        obtain ⟨its, rv, p, hzz⟩ := I5.tuple ht1
        have p : s4.heap.IsTuple t its.toArray := p
        obtain ⟨z, its4, k4, r4, hl4, e4⟩ := I5.lstM hq1
        cases r4
        have hne2 : t ≠ it := fun e => by
          obtain ⟨o, h1, h2, h3⟩ := p
          rw [e, hget4] at h1
          cases Option.some.inj h1
          exact absurd (Value.type.inj h2) (by decide)
        have hqi : q ≠ it := fun e => by
          rw [e, hget4] at e4
          exact absurd (Value.type.inj (congrArg Obj.cls (Option.some.inj e4))) (by decide)
        have hqt : q ≠ t := fun e => by
          obtain ⟨o, h1, h2, h3⟩ := p
          rw [← e, e4] at h1
          cases Option.some.inj h1
          exact absurd (Value.type.inj h2) (by decide)
        have lny : ys.length = its.length := rv.length
        refine codeAny_extend_loopS (Walks.tuple (A := X.A.in1.in1) r2.hd it t hne2 its.toArray).toS (by rw [List.size_toArray]; omega) q (fun m => ?_) .none _ 0 s4 #[] k4 rfl (Nat.zero_le _) ⟨⟨_, hget4, rfl, rfl⟩, p⟩ e4 (ItemsOf.nil _) fun s5 acc' c' hm hS' hacc => ?_
        · rcases List.mem_cons.mp m with m | m
          · exact hqi m
          · exact hqt (List.mem_singleton.mp m)
        have eacc : acc'.toList = its := by
          refine List.ext_getElem (by rw [Array.length_toList, hacc.1, List.size_toArray]) fun j h1 h2 => ?_
          have this : its.toArray[j]? = some acc'[j] := hacc.2 j acc'[j] (Array.getElem?_eq_getElem (by rw [Array.length_toList] at h1; exact h1))
          rw [List.getElem?_toArray, List.getElem?_eq_getElem h2] at this
          rw [Array.getElem_toList]
          exact (Option.some.inj this).symm
        have I6 := I5.write (x := q) (e := q) (o := .lst ys) (t' := s4.toks) (h' := s4.heap.update q fun _ => { cls := .type "list", dict := none, data := .seq acc' c', slots := #[] }) (by rw [hq1]; exact trivial) (.inl rfl) (fun b' u hb hu => (Heap.get?_update_other s4.heap _ (Ne.symm hb)).trans hu) ⟨_, Heap.get?_update_self _ e4 rfl⟩
          ⟨hz, its, c', rv, by rw [Heap.get?_update_self _ e4 rfl, ← eacc]⟩
        have I7 := I6.turnedL (ch := [it]) (h' := s5.heap) (t' := s5.toks) (fun b o hb e => ?_) fun b hb => ?_
        · refine ⟨rfl, .ref q, upd H1 q (.lst ys), ?_, rfl, hQq⟩
          obtain ⟨h5, g5, d5, t5, o5⟩ := s5
          obtain ⟨m1, m2, m3, m4, m5⟩ := hm
          cases (show g5 = _ from m2)
          cases (show d5 = _ from m3)
          cases (show o5 = _ from m4)
          exact I7
        · by_cases hbq : b = q
          · subst hbq
            have e : (s4.heap.update b fun _ => { cls := .type "list", dict := none, data := .seq acc' c', slots := #[] }).get? b = some o := e
            rw [Heap.get?_update_self _ e4 rfl] at e
            cases Option.some.inj e
            exact hS'
          · have e : (s4.heap.update q fun _ => { cls := .type "list", dict := none, data := .seq acc' c', slots := #[] }).get? b = some o := e
            rw [Heap.get?_update_other _ _ (Ne.symm hbq)] at e
            exact hm.heap b o (fun m => (List.mem_cons.mp m).elim hbq fun m => hb m) e
        · cases List.mem_singleton.mp hb
          exact ⟨by rw [upd_ne hqi.symm]; exact fp.1, fp.2⟩
      have I7 := I'.tok (s'.toks)
      have hq7 := sI _ _ hq1
      refine wpAny_ite_split (fun _ => ?_) (fun _ => wpAny_pure ⟨plainId_quiet PySem.F.plain_extend_loop _, main _ (I'.tok _)⟩)
      refine wpAny_bind (wpAny_rule ?_)
      refine wpAny_bind ?_
      show wpAny _ _ (updateSeq q (·.push .none) >>= fun _ => updateSeq q (·.pop)) _ _ _
      obtain ⟨z3, its3, k3, r3', hl3', e3⟩ := I'.lstM hq7
      cases r3'
      refine wpAny_bind (wpAny_updateSeq e3 rfl ?_)
      have I8 := I'.lset (f := (·.push Value.none)) (its' := [Value.none]) (ys := [.non]) (t' := s'.toks) hq7 e3 (by simp) (.cons rfl .nil) (by rw [List.length_singleton, sizeLine_eq]; decide)
      obtain ⟨z4, its4, k4, r4, hl4, e4⟩ := I8.lstM upd_same
      obtain ⟨u4, rfl, ru4⟩ := vals1 r4
      refine wpAny_updateSeq e4 rfl ?_ (by show 1 ≤ sizeLine; rw [sizeLine_eq]; decide) (by show 0 ≤ sizeLine + 1; exact Nat.zero_le _)
      have I9 := I8.lset (f := (·.pop)) (its := [u4]) (its' := []) (ys := []) (t' := s'.toks) upd_same e4 (by rfl) .nil (Nat.zero_le _)
      rw [upd_upd] at I9
      have hH : upd (upd H1 it (ItT t it)) q (.lst []) = upd H1 it (ItT t it) := by
        funext b
        by_cases hb : b = q
        · rw [hb, upd_same, hq7]
        · rw [upd_ne hb]
      rw [hH] at I9
      exact wpAny_pure ⟨plainId_quiet PySem.F.plain_extend_loop _, main _ (I9.tok _)⟩
end
end TK

/-! rows of weights, sums of values -/
namespace TK
open PySem PySem.Spec PyProof.Rows L2
theorem sl_tupK {X : Cx} {K : PySem.W.Frag} (h : X.K = K) : SlR X (rSlT K) := h ▸ sl_tup
/-- a row of weights: the round, an option, the weight -/
abbrev WRow : Type := Nat × Nam × Int
def WAt (H : Hp) (e : Addr) (w : WRow) : Prop := H e = some (.tup [.int ((w.1 : Int) + 1), vN w.2.1, .int w.2.2])
def WsAt (H : Hp) (es : List Addr) (ws : List WRow) : Prop := es.length = ws.length ∧ ∀ (i : Nat) (e : Addr), es[i]? = some e → ∃ w, ws[i]? = some w ∧ WAt H e w
theorem WsAt.same {H H' : Hp} {es : List Addr} {ws : List WRow} (h : WsAt H es ws) (s : Same H H') : WsAt H' es ws := ⟨h.1, fun i e he => by
  obtain ⟨w, a, b⟩ := h.2 i e he
  exact ⟨w, a, s _ _ b⟩⟩
theorem ws_at {H : Hp} {es : List Addr} {ws : List WRow} (h : WsAt H es ws) {i : Nat} {x : V} (hx : (es.map V.ref)[i]? = some x) : ∃ e w, x = .ref e ∧ ws[i]? = some w ∧ WAt H e w := by
  rw [List.getElem?_map] at hx
  obtain ⟨e, he, rfl⟩ := Option.map_eq_some_iff.mp hx
  obtain ⟨w, a, b⟩ := h.2 i e he
  exact ⟨e, w, rfl, a, b⟩
def firstN (os b : List Nam) (k : Nat) : Option Nam := b.find? fun z => decide (z ∉ os.take k)
def rowV (os b : List Nam) (w : WRow) : Int := if firstN os b w.1 = some w.2.1 then w.2.2 else if firstN os b w.1 = os[w.1]? then -w.2.2 else 0
def valB (os : List Nam) (ws : List WRow) (b : List Nam) : Int := (ws.map (rowV os b)).sum
theorem find_congr {α : Type} {f g : α → Bool} : ∀ {l : List α}, (∀ z ∈ l, f z = g z) → l.find? f = l.find? g
  | [], _ => rfl
  | z :: l, h => by
    rw [List.find?_cons, List.find?_cons, h z List.mem_cons_self, find_congr fun y m => h y (List.mem_cons_of_mem _ m)]
theorem top_first (os b : List Nam) (k : Nat) : topN (b.filter fun z => decide (z ∉ os.take k)) b = firstN os b k := by
  unfold topN firstN
  refine find_congr fun z m => ?_
  have : (z ∈ b.filter fun z => decide (z ∉ os.take k)) ↔ z ∉ os.take k := ⟨fun e => of_decide_eq_true (List.mem_filter.mp e).2, fun h => List.mem_filter.mpr ⟨m, decide_eq_true h⟩⟩
  exact decide_eq_decide.mpr this
/-- the sum of a value over rows -/
def gsum (v : List Nam → Int) (R : List BRow) : Int := (R.map fun r => r.2 * v r.1).sum
def leavN (os : List Nam) (k : Nat) : Nam := os.getD k []
theorem leav_at {os : List Nam} {k : Nat} (h : k < os.length) : os[k]? = some (leavN os k) := by
  unfold leavN
  rw [List.getD_eq_getElem?_getD, List.getElem?_eq_getElem h]
  rfl
def dueV (zs os : List Nam) (ws : List WRow) : Int := (ws.map fun w => w.2.2 * leadN zs (leavN os w.1) w.2.1).sum
def WOk (zs os : List Nam) (x : WRow) : Prop := x.1 < os.length ∧ x.2.1 ∈ zs ∧ x.2.1 ∉ os.take (x.1 + 1) ∧ 0 ≤ x.2.2
theorem wok_ne {zs os : List Nam} {x : WRow} (h : WOk zs os x) : leavN os x.1 ≠ x.2.1 := fun e => h.2.2.1 (by
  rw [← e]
  exact List.mem_of_getElem? (i := x.1) (by rw [List.getElem?_take_of_lt (Nat.lt_succ_self _)]; exact leav_at h.1))
theorem gsum_cons (v : List Nam → Int) (r : BRow) (R : List BRow) : gsum v (r :: R) = r.2 * v r.1 + gsum v R := by
  unfold gsum
  rw [List.map_cons, List.sum_cons]
theorem rowV_two {zs os b : List Nam} {x : WRow} (h : WOk zs os x) : rowV os b x = (if firstN os b x.1 = some x.2.1 then x.2.2 else 0) - if firstN os b x.1 = some (leavN os x.1) then x.2.2 else 0 := by
  have hne := wok_ne h
  unfold rowV
  rw [leav_at h.1]
  by_cases h1 : firstN os b x.1 = some x.2.1
  · rw [if_pos h1, if_pos h1, if_neg (show ¬ firstN os b x.1 = some (leavN os x.1) from fun h => hne (Option.some.inj (h.symm.trans h1)))]
    omega
  · rw [if_neg h1, if_neg h1]
    by_cases h2 : firstN os b x.1 = some (leavN os x.1)
    · rw [if_pos h2, if_pos h2]; omega
    · rw [if_neg h2, if_neg h2]; rfl
theorem gsum_add (u v : List Nam → Int) : ∀ ps : List BRow, gsum (fun b => u b + v b) ps = gsum u ps + gsum v ps
  | [] => rfl
  | p :: ps => by
    rw [gsum_cons, gsum_cons, gsum_cons, gsum_add u v ps, Int.mul_add]
    omega
theorem gsum_val (os : List Nam) (ps : List BRow) : ∀ ws : List WRow, gsum (valB os ws) ps = (ws.map fun x => gsum (fun b => rowV os b x) ps).sum
  | [] => by
    show gsum (fun _ => 0) ps = 0
    induction ps with
    | nil => rfl
    | cons p ps ih => rw [gsum_cons, ih, Int.mul_zero]; rfl
  | x :: ws => by
    have e : gsum (valB os (x :: ws)) ps = gsum (fun b => rowV os b x + valB os ws b) ps := rfl
    rw [e, gsum_add, gsum_val os ps ws, List.map_cons, List.sum_cons]
theorem gsum_if (f : List Nam → Bool) (m : Int) : ∀ ps : List BRow, gsum (fun b => if f b then m else 0) ps = m * wsum f ps
  | [] => by
    show (0 : Int) = m * 0
    omega
  | p :: ps => by
    rw [gsum_cons, gsum_if f m ps, wsum_cons, Int.mul_add]
    by_cases h : f p.1
    · rw [if_pos h, if_pos h, Int.mul_comm]
    · rw [if_neg h, if_neg h, Int.mul_zero, Int.mul_zero]
theorem gsum_congr {u v : List Nam → Int} : ∀ {ps : List BRow}, (∀ p ∈ ps, u p.1 = v p.1) → gsum u ps = gsum v ps
  | [], _ => rfl
  | p :: ps, h => by rw [gsum_cons, gsum_cons, h p List.mem_cons_self, gsum_congr fun q m => h q (List.mem_cons_of_mem _ m)]
theorem gsum_sub (u v : List Nam → Int) : ∀ ps : List BRow, gsum (fun b => u b - v b) ps = gsum u ps - gsum v ps
  | [] => rfl
  | p :: ps => by
    rw [gsum_cons, gsum_cons, gsum_cons, gsum_sub u v ps, Int.mul_sub]
    omega
end TK

/-! chains of lacks -/
namespace TK
open PySem PySem.Spec PyProof.Rows L2
theorem votesR_eq {R ps : List BRow} (h : ∀ f, wsum f R = wsum f ps) (ks : List Nam) (z : Nam) : votesR R ks z = votesR ps ks z := by rw [votesR_w, votesR_w, h]
theorem lkN_eq {R ps : List BRow} (h : ∀ f, wsum f R = wsum f ps) (zs os : List Nam) : ∀ t, lkN zs R os t = lkN zs ps os t
  | 0 => rfl
  | t + 1 => by
    show stepN zs R (remO zs os t) (osAt os t) (lkN zs R os t) = stepN zs ps (remO zs os t) (osAt os t) (lkN zs ps os t)
    rw [lkN_eq h zs os t]
    funext y
    unfold stepN
    rw [votesR_eq h, votesR_eq h]
/-- the rows that follow the lack of an option in a round back -/
inductive Ch (zs : List Nam) (R : List BRow) (os : List Nam) : Nat → Nam → List WRow → Prop
  | nil {t : Nat} {o : Nam} : lkN zs R os t o ≤ 0 → Ch zs R os t o []
  | cons {t : Nat} {o : Nam} {j : Nat} {rest : List WRow} : 0 < lkN zs R os t o → j < t → lkN zs R os (j + 1) o = lkN zs R os t o → (∀ i, i < j → lkN zs R os (i + 1) o ≠ lkN zs R os t o) → Ch zs R os (j + 1) (osAt os j) rest → Ch zs R os t o ((j, o, 1) :: rest)
theorem lk_leaver {zs os : List Nam} {R : List BRow} (j : Nat) : lkN zs R os (j + 1) (osAt os j) = lkN zs R os j (osAt os j) := by
  show stepN zs R (remO zs os j) (osAt os j) (lkN zs R os j) (osAt os j) = _
  unfold stepN
  rw [if_pos rfl]
/-- the first round of a lack: it is not the leaver's -/
theorem ch_ne {zs os : List Nam} {R : List BRow} {t j : Nat} {o : Nam} (h0 : 0 < lkN zs R os t o) (e : lkN zs R os (j + 1) o = lkN zs R os t o) (f : ∀ i, i < j → lkN zs R os (i + 1) o ≠ lkN zs R os t o) : o ≠ osAt os j := fun q => by
  have h := lk_leaver (zs := zs) (R := R) (os := os) j
  rw [← q, e] at h
  cases j with
  | zero =>
    have : lkN zs R os 0 o = 0 := rfl
    omega
  | succ i => exact f i (Nat.lt_succ_self i) h.symm
theorem ch_need {zs os : List Nam} {R : List BRow} {t j : Nat} {o : Nam} (h0 : 0 < lkN zs R os t o) (e : lkN zs R os (j + 1) o = lkN zs R os t o) (f : ∀ i, i < j → lkN zs R os (i + 1) o ≠ lkN zs R os t o) :
    lkN zs R os t o = votesR R (remO zs os j) (osAt os j) + lkN zs R os j (osAt os j) + leadN zs (osAt os j) o - votesR R (remO zs os j) o := by
  have ne := ch_ne h0 e f
  have h : lkN zs R os (j + 1) o = max (lkN zs R os j o) (votesR R (remO zs os j) (osAt os j) + lkN zs R os j (osAt os j) + leadN zs (osAt os j) o - votesR R (remO zs os j) o) := by
    show stepN zs R (remO zs os j) (osAt os j) (lkN zs R os j) o = _
    unfold stepN
    rw [if_neg ne]
  have hne : lkN zs R os j o ≠ lkN zs R os t o := by
    cases j with
    | zero =>
      have : lkN zs R os 0 o = 0 := rfl
      omega
    | succ i => exact f i (Nat.lt_succ_self i)
  rw [e] at h
  rcases Int.le_total (lkN zs R os j o) (votesR R (remO zs os j) (osAt os j) + lkN zs R os j (osAt os j) + leadN zs (osAt os j) o - votesR R (remO zs os j) o) with c | c
  · rw [Int.max_eq_right c] at h
    exact h
  · rw [Int.max_eq_left c] at h
    exact absurd h.symm hne
/-- how far a chain can go -/
def muC (os : List Nam) (t : Nat) (o : Nam) : Nat := if o = osAt os (t - 1) then t - 1 else t
theorem mu_next {zs os : List Nam} {R : List BRow} {t j : Nat} {o : Nam} (h0 : 0 < lkN zs R os t o) (t1 : 1 ≤ t) (jt : j < t) (f : ∀ i, i < j → lkN zs R os (i + 1) o ≠ lkN zs R os t o) : muC os (j + 1) (osAt os j) < muC os t o := by
  have e1 : muC os (j + 1) (osAt os j) = j := by
    show (if osAt os j = osAt os j then j else j + 1) = j
    rw [if_pos rfl]
  rw [e1]
  unfold muC
  split
  · rename_i e
    obtain ⟨i, rfl⟩ : ∃ i, t = i + 1 := ⟨t - 1, by omega⟩
    have e : o = osAt os i := e
    have h := lk_leaver (zs := zs) (R := R) (os := os) i
    rw [← e] at h
    show j < i
    cases i with
    | zero =>
      have : lkN zs R os 0 o = 0 := rfl
      omega
    | succ k =>
      refine Nat.lt_of_not_le fun c => ?_
      exact f k (by omega) h.symm
  · exact jt
theorem osAt_rem {zs os : List Nam} {j : Nat} (ok : BOk zs os) (h : j < os.length) : osAt os j ∈ remO zs os j := by
  have e : os[j]? = some (osAt os j) := leav_at h
  exact rem_has ok e
theorem take_mono {os : List Nam} {i j : Nat} {x : Nam} (h : i ≤ j) (m : x ∈ os.take i) : x ∈ os.take j := (List.take_prefix_take_left h).subset m
theorem rem_mono {zs os : List Nam} {i j : Nat} {x : Nam} (h : i ≤ j) (m : x ∈ remO zs os j) : x ∈ remO zs os i := by
  obtain ⟨m1, m2⟩ := List.mem_filter.mp m
  exact List.mem_filter.mpr ⟨m1, decide_eq_true fun q => of_decide_eq_true m2 (take_mono h q)⟩
/-- its rows are right ones -/
theorem ch_ok {zs os : List Nam} {R : List BRow} (ok : BOk zs os) {t : Nat} {o : Nam} {ws : List WRow} (h : Ch zs R os t o ws) : t ≤ os.length → o ∈ remO zs os (t - 1) → ∀ x ∈ ws, WOk zs os x ∧ x.1 < t := by
  induction h with
  | nil _ => intro _ _ x m; cases m
  | @cons t o j rest h0 jt e f _ ih =>
    intro tl mo x m
    rcases List.mem_cons.mp m with rfl | m
    · have ne := ch_ne h0 e f
      obtain ⟨m1, m2⟩ := List.mem_filter.mp mo
      refine ⟨⟨show j < os.length by omega, m1, fun q => ?_, (by decide : (0 : Int) ≤ 1)⟩, jt⟩
      have q : o ∈ os.take (j + 1) := q
      rw [List.take_add_one] at q
      rcases List.mem_append.mp q with q | q
      · exact of_decide_eq_true m2 (take_mono (by omega) q)
      · have : os[j]? = some (osAt os j) := leav_at (by omega)
        rw [this] at q
        exact ne (List.mem_singleton.mp q)
    · obtain ⟨a, b⟩ := ih (by omega) (osAt_rem ok (by omega)) x m
      exact ⟨a, by omega⟩
theorem first_up {os : List Nam} {o : Nam} {i j : Nat} (h : i ≤ j) (n : o ∉ os.take j) : ∀ {b : List Nam}, firstN os b i = some o → firstN os b j = some o
  | [], h => nomatch h
  | z :: b, e => by
    unfold firstN at e ⊢
    rw [List.find?_cons] at e ⊢
    by_cases q : z ∈ os.take i
    · rw [decide_eq_false (show ¬ z ∉ os.take i from fun h => h q)] at e
      rw [decide_eq_false (show ¬ z ∉ os.take j from fun h' => h' (take_mono h q))]
      exact first_up h n (b := b) e
    · rw [decide_eq_true q] at e
      cases e
      rw [decide_eq_true n]
theorem valB_cons (os : List Nam) (x : WRow) (ws : List WRow) (b : List Nam) : valB os (x :: ws) b = rowV os b x + valB os ws b := by
  unfold valB
  rw [List.map_cons, List.sum_cons]
/-- no ballot has a value above one -/
theorem ch_val {zs os : List Nam} {R : List BRow} (ok : BOk zs os) (b : List Nam) {t : Nat} {o : Nam} {ws : List WRow} (h : Ch zs R os t o ws) : t ≤ os.length → o ∈ remO zs os (t - 1) → valB os ws b ≤ if firstN os b (t - 1) = some o then 1 else 0 := by
  induction h with
  | nil _ =>
    intro _ _
    show (0 : Int) ≤ _
    split <;> decide
  | @cons t o j rest h0 jt e f hc ih =>
    intro tl mo
    have hx := ch_ok ok (Ch.cons h0 jt e f hc) tl mo _ List.mem_cons_self
    have hr := ih (by omega) (osAt_rem ok (by omega))
    rw [valB_cons, rowV_two hx.1]
    show ((if firstN os b j = some o then (1 : Int) else 0) - if firstN os b j = some (leavN os j) then 1 else 0) + valB os rest b ≤ _
    have hr : valB os rest b ≤ if firstN os b j = some (leavN os j) then 1 else 0 := hr
    have up : firstN os b j = some o → firstN os b (t - 1) = some o := first_up (by omega) (of_decide_eq_true (List.mem_filter.mp mo).2)
    by_cases c1 : firstN os b j = some o
    · rw [if_pos c1, if_pos (up c1)]
      omega
    · rw [if_neg c1]
      have h0 : (0 : Int) ≤ if firstN os b (t - 1) = some o then 1 else 0 := by split <;> decide
      split at hr <;> rename_i c2
      · rw [if_pos c2]; omega
      · rw [if_neg c2]; omega
theorem first_top {zs os b : List Nam} {j : Nat} (hb : ∀ x ∈ b, x ∈ zs) : firstN os b j = topN (remO zs os j) b := by
  unfold topN firstN
  refine find_congr fun z m => decide_eq_decide.mpr ⟨fun h => List.mem_filter.mpr ⟨hb z m, decide_eq_true h⟩, fun h => of_decide_eq_true (List.mem_filter.mp h).2⟩
/-- the sum of a row's values is the difference of the votes -/
theorem row_votes {zs os : List Nam} {ps : List BRow} (hS : ∀ p ∈ ps, ∀ x ∈ p.1, x ∈ zs) {x : WRow} (h : WOk zs os x) : gsum (fun b => rowV os b x) ps = x.2.2 * (votesR ps (remO zs os x.1) x.2.1 - votesR ps (remO zs os x.1) (leavN os x.1)) := by
  rw [gsum_congr (v := fun b => (if decide (topN (remO zs os x.1) b = some x.2.1) = true then x.2.2 else 0) - (if decide (topN (remO zs os x.1) b = some (leavN os x.1)) = true then x.2.2 else 0)) fun p m => by
    rw [rowV_two h, first_top (hS p m)]
    simp only [decide_eq_true_eq]]
  rw [gsum_sub, gsum_if, gsum_if, ← votesR_w, ← votesR_w, Int.mul_sub]
/-- what the law shows of rows -/
def shownV (zs os : List Nam) (ps : List BRow) (ws : List WRow) : Int := dueV zs os ws - gsum (valB os ws) ps
theorem shown_nil (zs os : List Nam) (ps : List BRow) : shownV zs os ps [] = 0 := by
  unfold shownV
  rw [gsum_val]
  rfl
theorem shown_cons {zs os : List Nam} {ps : List BRow} (hS : ∀ p ∈ ps, ∀ x ∈ p.1, x ∈ zs) {x : WRow} (h : WOk zs os x) (ws : List WRow) : shownV zs os ps (x :: ws) = x.2.2 * (leadN zs (leavN os x.1) x.2.1 - votesR ps (remO zs os x.1) x.2.1 + votesR ps (remO zs os x.1) (leavN os x.1)) + shownV zs os ps ws := by
  unfold shownV dueV
  rw [gsum_val, gsum_val, List.map_cons, List.map_cons, List.sum_cons, List.sum_cons, row_votes hS h, Int.mul_add, Int.mul_sub, Int.mul_sub]
  omega
theorem shown_app {zs os : List Nam} {ps : List BRow} (hS : ∀ p ∈ ps, ∀ x ∈ p.1, x ∈ zs) : ∀ {ws us : List WRow}, (∀ x ∈ ws, WOk zs os x) → shownV zs os ps (ws ++ us) = shownV zs os ps ws + shownV zs os ps us
  | [], us, _ => by rw [List.nil_append, shown_nil, Int.zero_add]
  | w :: ws, us, h => by
    rw [List.cons_append, shown_cons hS (h w List.mem_cons_self), shown_cons hS (h w List.mem_cons_self), shown_app hS (fun x m => h x (List.mem_cons_of_mem _ m))]
    omega
/-- a chain shows the lack that it follows -/
theorem ch_shown {zs os : List Nam} {ps : List BRow} (ok : BOk zs os) (hS : ∀ p ∈ ps, ∀ x ∈ p.1, x ∈ zs) {t : Nat} {o : Nam} {ws : List WRow} (h : Ch zs ps os t o ws) : t ≤ os.length → o ∈ remO zs os (t - 1) → shownV zs os ps ws = lkN zs ps os t o := by
  induction h with
  | @nil t o h =>
    intro _ _
    have := lk_nn (zs := zs) (R := ps) (os := os) t o
    rw [shown_nil]
    omega
  | @cons t o j rest h0 jt e f hc ih =>
    intro tl mo
    have hx := ch_ok ok (Ch.cons h0 jt e f hc) tl mo _ List.mem_cons_self
    have hr := ih (by omega) (osAt_rem ok (by omega))
    rw [shown_cons hS hx.1, hr, lk_leaver, ch_need h0 e f]
    show 1 * (leadN zs (osAt os j) o - votesR ps (remO zs os j) o + votesR ps (remO zs os j) (osAt os j)) + _ = _
    omega
/-- the chains of some options -/
inductive Chs (zs : List Nam) (R : List BRow) (os : List Nam) (t : Nat) : List Nam → List WRow → Prop
  | nil : Chs zs R os t [] []
  | snoc {ks : List Nam} {ws c : List WRow} {z : Nam} : Chs zs R os t ks ws → Ch zs R os t z c → Chs zs R os t (ks ++ [z]) (ws ++ c)
theorem chs_ok {zs os : List Nam} {R : List BRow} (ok : BOk zs os) {t : Nat} (tl : t ≤ os.length) {ks : List Nam} {ws : List WRow} (h : Chs zs R os t ks ws) : (∀ z ∈ ks, z ∈ remO zs os (t - 1)) → ∀ x ∈ ws, WOk zs os x ∧ x.1 < t := by
  induction h with
  | nil => intro _ x m; cases m
  | @snoc ks ws c z _ hc ih =>
    intro hk x m
    rcases List.mem_append.mp m with m | m
    · exact ih (fun z m => hk z (List.mem_append_left _ m)) x m
    · exact ch_ok ok hc tl (hk z (List.mem_append_right _ (List.mem_singleton.mpr rfl))) x m
theorem valB_app (os : List Nam) (ws us : List WRow) (b : List Nam) : valB os (ws ++ us) b = valB os ws b + valB os us b := by
  unfold valB
  rw [List.map_append, List.sum_append]
theorem chs_val {zs os : List Nam} {R : List BRow} (ok : BOk zs os) (b : List Nam) {t : Nat} (tl : t ≤ os.length) {ks : List Nam} {ws : List WRow} (h : Chs zs R os t ks ws) : ks.Nodup → (∀ z ∈ ks, z ∈ remO zs os (t - 1)) → valB os ws b ≤ 1 ∧ ((∀ z ∈ ks, firstN os b (t - 1) ≠ some z) → valB os ws b ≤ 0) := by
  induction h with
  | nil => intro _ _; exact ⟨(by decide : (0 : Int) ≤ 1), fun _ => Int.le_refl _⟩
  | @snoc ks ws c z _ hc ih =>
    intro nd hk
    obtain ⟨n1, _, n3⟩ := List.nodup_append.mp nd
    obtain ⟨h1, h2⟩ := ih n1 fun z m => hk z (List.mem_append_left _ m)
    have h3 := ch_val ok b hc tl (hk z (List.mem_append_right _ (List.mem_singleton.mpr rfl)))
    rw [valB_app]
    constructor
    · by_cases c1 : firstN os b (t - 1) = some z
      · rw [if_pos c1] at h3
        have := h2 fun y my e => n3 y my z (List.mem_singleton.mpr rfl) (Option.some.inj (e.symm.trans c1))
        omega
      · rw [if_neg c1] at h3
        omega
    · intro hn
      rw [if_neg (hn z (List.mem_append_right _ (List.mem_singleton.mpr rfl)))] at h3
      have := h2 fun y my => hn y (List.mem_append_left _ my)
      omega
theorem chs_shown {zs os : List Nam} {ps : List BRow} (ok : BOk zs os) (hS : ∀ p ∈ ps, ∀ x ∈ p.1, x ∈ zs) {t : Nat} (tl : t ≤ os.length) {ks : List Nam} {ws : List WRow} (h : Chs zs ps os t ks ws) : (∀ z ∈ ks, z ∈ remO zs os (t - 1)) → shownV zs os ps ws = (ks.map (lkN zs ps os t)).sum := by
  induction h with
  | nil => intro _; exact shown_nil zs os ps
  | @snoc ks ws c z hs hc ih =>
    intro hk
    rw [shown_app hS fun x m => (chs_ok ok tl hs (fun z m => hk z (List.mem_append_left _ m)) x m).1, ih fun z m => hk z (List.mem_append_left _ m), ch_shown ok hS hc tl (hk z (List.mem_append_right _ (List.mem_singleton.mpr rfl))), List.map_append, List.sum_append]
    simp
theorem ch_eq {zs os : List Nam} {R ps : List BRow} (h : ∀ f, wsum f R = wsum f ps) {t : Nat} {o : Nam} {ws : List WRow} (c : Ch zs R os t o ws) : Ch zs ps os t o ws := by
  have e : ∀ t o, lkN zs R os t o = lkN zs ps os t o := fun t o => by rw [lkN_eq h]
  induction c with
  | nil h => exact .nil (by rw [← e]; exact h)
  | cons h0 jt e1 f _ ih => exact .cons (by rw [← e]; exact h0) jt (by rw [← e, ← e]; exact e1) (fun i hi => by rw [← e, ← e]; exact f i hi) ih
theorem chs_eq {zs os : List Nam} {R ps : List BRow} (h : ∀ f, wsum f R = wsum f ps) {t : Nat} {ks : List Nam} {ws : List WRow} (c : Chs zs R os t ks ws) : Chs zs ps os t ks ws := by
  induction c with
  | nil => exact .nil
  | snoc _ hc ih => exact .snoc ih (ch_eq h hc)
end TK

/-! _chain, chain_weights -/
namespace TK
open PySem PySem.Spec PyProof.Rows L2
theorem cut_tk (xs : List V) (i : Nat) : cutV xs none (some ((i : Nat) : Int)) = xs.take i := cut_to_l xs i
theorem int_first {f : Nat → Int} {t j : Nat} {v : Int} (jt : j < t) (e : f j = v) (h : ∀ i, i < j → f i ≠ v) : (((List.range t).map f).map V.int)[j]? = some (V.int v) ∧ eqV (V.int v) (V.int v) = true ∧ ∀ (m : Nat) (z' : V), m < j → (((List.range t).map f).map V.int)[m]? = some z' → eqV z' (V.int v) = false := by
  refine ⟨by rw [List.getElem?_map, List.getElem?_map, List.getElem?_range jt]; show some (V.int (f j)) = _; rw [e], by simp [eqV], fun m z' hm hz => ?_⟩
  rw [List.getElem?_map, List.getElem?_map, List.getElem?_range (by omega)] at hz
  cases hz
  have := h m hm
  simp [eqV, this]
theorem ints_flat (ns : List Int) : (ns.map V.int).all flatV = true := by
  rw [List.all_eq_true]
  intro x m
  obtain ⟨i, _, rfl⟩ := List.mem_map.mp m
  rfl
theorem first_ex {f : Nat → Int} {v : Int} : ∀ {t : Nat}, (∃ i, i < t ∧ f i = v) → ∃ j, j < t ∧ f j = v ∧ ∀ i, i < j → f i ≠ v
  | 0, h => by obtain ⟨i, h, _⟩ := h; exact absurd h (Nat.not_lt_zero _)
  | t + 1, h => by
    by_cases c : ∃ i, i < t ∧ f i = v
    · obtain ⟨j, a, b, d⟩ := first_ex c
      exact ⟨j, by omega, b, d⟩
    · obtain ⟨i, hi, e⟩ := h
      have : i = t := by
        by_cases q : i < t
        · exact absurd ⟨i, q, e⟩ c
        · omega
      subst this
      exact ⟨i, Nat.lt_succ_self _, e, fun k hk e' => c ⟨k, hk, e'⟩⟩
/-- the dicts of the rounds, locked or not -/
def RowsR (H : Hp) (es : List Addr) (zs : List Nam) (R : List BRow) (os : List Nam) : Prop := es.length = os.length ∧ ∀ (t : Nat) (e : Addr), es[t]? = some e → Rd H e (.dK ((remO zs os t).map (kvI (lkN zs R os (t + 1)))))
theorem RowsR.same {H H' : Hp} {es : List Addr} {zs os : List Nam} {R : List BRow} (h : RowsR H es zs R os) (s : Same H H') : RowsR H' es zs R os := ⟨h.1, fun t e he => (h.2 t e he).elim (fun h => .inl (s _ _ h)) fun ⟨o, h⟩ => .inr ⟨o, s _ _ h⟩⟩
theorem WsAt.app {H : Hp} {es fs : List Addr} {ws us : List WRow} (h : WsAt H es ws) (k : WsAt H fs us) : WsAt H (es ++ fs) (ws ++ us) := by
  refine ⟨by rw [List.length_append, List.length_append, h.1, k.1], fun i e he => ?_⟩
  by_cases hi : i < es.length
  · rw [List.getElem?_append_left hi] at he
    obtain ⟨b, h1, h2⟩ := h.2 i e he
    exact ⟨b, by rw [List.getElem?_append_left (by rw [← h.1]; exact hi)]; exact h1, h2⟩
  · rw [List.getElem?_append_right (by omega)] at he
    obtain ⟨b, h1, h2⟩ := k.2 _ e he
    exact ⟨b, by rw [List.getElem?_append_right (by rw [← h.1]; omega), ← h.1]; exact h1, h2⟩
theorem WsAt.one {H : Hp} {e : Addr} {w : WRow} (h : WAt H e w) : WsAt H [e] [w] := ⟨rfl, fun i x hx => by
  match i, hx with
  | 0, hx => cases hx; exact ⟨w, rfl, h⟩
  | i + 1, hx => cases hx⟩
theorem WsAt.upd {H : Hp} {es : List Addr} {ws : List WRow} {D : Addr} {l : List V} {o : HO} (h : WsAt H es ws) (hd : H D = some (.lst l)) : WsAt (upd H D o) es ws := ⟨h.1, fun i e he => by
  obtain ⟨w, a, b⟩ := h.2 i e he
  have b : H e = _ := b
  refine ⟨w, a, ?_⟩
  show (L2.upd H D o) e = _
  rw [upd_ne (fun z => by rw [z, hd] at b; cases b)]
  exact b⟩
section
variable {P : Program} {w : World} {K : PySem.W.Frag} {mg : Str → Option Value} {base : Heap}
def spChain (K : PySem.W.Frag) : Sp := fun vs H Q _ => ∃ (r ord : Addr) (x : Nam) (t : Nat) (es : List Addr) (zs os : List Nam) (R : List BRow), vs = [.ref r, .ref ord, vN x, .int (t : Nat)] ∧ H r = some (.lst (es.map V.ref)) ∧ RowsR H es zs R os ∧ SqT K H ord (os.map vN) ∧ BOk zs os ∧ os.length ≤ 10 ∧ 1 ≤ t ∧ t ≤ os.length ∧ x ∈ remO zs os (t - 1) ∧
  ∀ H' L ks ws, H L = none → Same H H' → H' L = some (.lst (ks.map V.ref)) → WsAt H' ks ws → Ch zs R os t x ws → ws.length ≤ t → Q (.ref L) H'
theorem ok_chain {f : Addr} {fd : FuncData} (F : Fun K "_chain" "_chain" s_chain f fd) : FnOk P w K mg base CX0 1 f fd ["rows", "order", "option", "at"] (spChain K) := by
  refine F.ok sc_chain (fun vs H Q E h => ?_) (fun cdv A outer s H vs Q E hr h => ?_)
  · obtain ⟨r, ord, x, t, es, zs, os, R, rfl, _⟩ := h
    rfl
  · obtain ⟨r, ord, x, t, es, zs, os, R, rfl, hr', hR, hO, ok, o10, t1, tl, mx, q⟩ := h
    refine ⟨_, (pss_cons (ps_set (i := 4) sc_chain.nd rfl (.inl rfl) (pe_lst pa_nil))
  (pss_cons (ps_while PassesOwn.never (pt_cmpR op_gt (pe_dget (hu_of hr) (pe_ix ix_list (pv 0) (pe_op op_sub (pv 3) pe_int) (fun _ _ => rfl)) (pv 2) (fun _ _ => rfl)) pe_int (nomark _)) (pss_cons (ps_set (i := 5) sc_chain.nd rfl (.inl rfl) (pe_dget (hu_of hr) (pe_ix ix_list (pv 0) (pe_op op_sub (pv 3) pe_int) (fun _ _ => rfl)) (pv 2) (fun _ _ => rfl)))
  (pss_cons (ps_set (i := 3) sc_chain.nd rfl (.inl rfl) (pe_op op_add (pe_bm PySem.F.plainAttrs_list PySem.F.slot_list_index PySem.F.type_list_index mt_index (pe_lc (own := [("row", 6)]) (by rfl) sc_chain.nd (pi_list (pe_slice sl_list (pv 0) po_none (po_some (pv 3)))) (blkOk_by (N := ["rows", "order", "option", "at", "chain", "amount", "row"]) (sc := defScope s_chain) (by decide +kernel)) (fun _ _ _ _ _ => (pg_name (i := 6) sc_chain.nd rfl (.inl rfl))) (fun _ _ _ _ _ => pts_nil) (fun _ _ _ _ _ => (pe_dget (hu_of hr) (pv 6) (pv 2) (fun _ _ => rfl)))) (pa_cons (pv 5) pa_nil)) pe_int))
  (pss_cons (ps_expr (pe_bm PySem.F.plainAttrs_list PySem.F.slot_list_append PySem.F.type_list_append mt_append (pv 4) (pa_cons (pe_tup (pa_cons (pv 3) (pa_cons (pv 2) (pa_cons pe_int pa_nil)))) pa_nil)))
  (pss_one (ps_set (i := 2) sc_chain.nd rfl (.inr rfl) (pe_ix ix_tup (pv 1) (pe_op op_sub (pv 3) pe_int) (fun _ _ => rfl))))))))
  (pss_one (ps_ret (pv 4))))), ?_⟩
    refine ⟨(show (0 : Nat) ≤ sizeLine by decide), fun L nL => ?_⟩
    have s0 := same_upd (o := .lst []) nL
    have eL : (upd H L (.lst [])) L = some (.lst (([] : List Addr).map V.ref)) := upd_same
    generalize upd H L (.lst []) = H0 at s0 eL ⊢
    refine ⟨fun m σ H' => ∃ (u : Nat) (y : Nam) (ks : List Addr) (pre : List WRow) (y5 y6 : Option V), σ = [some (.ref r), some (.ref ord), some (vN y), some (.int (u : Nat)), some (.ref L), y5, y6] ∧ m = muC os u y ∧ 1 ≤ u ∧ u ≤ t ∧ y ∈ remO zs os (u - 1) ∧ pre.length + muC os u y ≤ t ∧ Same H H' ∧ H' L = some (.lst (ks.map V.ref)) ∧ WsAt H' ks pre ∧ ∀ rest, Ch zs R os u y rest → Ch zs R os t x (pre ++ rest),
      ⟨_, t, x, [], [], _, _, rfl, rfl, t1, Nat.le_refl _, mx, by unfold muC; split <;> simp, s0, eL, ⟨rfl, fun _ _ h => nomatch h⟩, fun rest h => h⟩, fun m σ H1 inv => ?_⟩
    obtain ⟨u, y, ks, pre, y5, y6, rfl, rfl, u1, ut, my, pl, s1, eL1, hW, hc⟩ := inv
    have r1 : H1 r = _ := s1 _ _ hr'
    have el : es.length = os.length := hR.1
    have hu : u - 1 < es.length := by omega
    have R1 := hR.same s1
    have ae : atI (es.map V.ref) ((u : Int) - 1) = some (.ref es[u - 1]) := atI_in (by omega) (by rw [show ((u : Int) - 1).toNat = u - 1 by omega, List.getElem?_map, List.getElem?_eq_getElem hu]; rfl)
    have dg : ∀ {H' : Hp} {i : Nat} (hi : i < es.length), Same H H' → y ∈ remO zs os i → DGet H' es[i] (vN y) (some (.int (lkN zs R os (i + 1) y))) := fun {H' i} hi s' m => by
      have h := (hR.same s').2 i _ (List.getElem?_eq_getElem hi)
      have e := valI (f := lkN zs R os (i + 1)) m
      rw [← e]
      exact .inl ⟨_, _, h, rfl, rfl⟩
    have dgu : DGet H1 es[u - 1] (vN y) (some (.int (lkN zs R os u y))) := by
      have h := dg hu s1 my
      rw [show u - 1 + 1 = u by omega] at h
      exact h
    refine ⟨_, rfl, _, rfl, _, _, rfl, rfl, _, _, _, _, rfl, rfl, lstAt r1, ae, _, rfl, es[u - 1], _, rfl, dgu, _, _, rfl, rfl, _, rfl, ?_⟩
    by_cases hA : 0 < lkN zs R os u y
    · rw [decide_eq_true hA]
      refine iteT ⟨_, fun _ _ h => h, ?_⟩
      refine ⟨_, rfl, _, rfl, _, _, rfl, rfl, _, _, _, _, rfl, rfl, lstAt r1, ae, _, rfl, es[u - 1], _, rfl, dgu, ?_⟩
      obtain ⟨j, jt, je, jf⟩ := first_ex (f := fun i => lkN zs R os (i + 1) y) (v := lkN zs R os u y) (t := u) ⟨u - 1, by omega, by show lkN zs R os (u - 1 + 1) y = _; rw [show u - 1 + 1 = u by omega]⟩
      refine ⟨_, rfl, _, rfl, _, rfl, r, _, rfl, lstAt r1, fun S nS => ?_⟩
      rw [show cutV (es.map V.ref) none (some (u : Int)) = (es.take u).map V.ref by rw [List.map_take]; exact cut_tk _ u]
      have sS := same_upd (o := .lst ((es.take u).map V.ref)) nS
      have eS : (upd H1 S (.lst ((es.take u).map V.ref))) S = some (.lst ((es.take u).map V.ref)) := upd_same
      have eL2 := sS _ _ eL1
      have hW2 := hW.same sS
      have s2 := s1.trans sS
      have nL0 := nL
      generalize upd H1 S (.lst ((es.take u).map V.ref)) = H2 at sS eS eL2 hW2 s2 ⊢
      refine ⟨S, rfl, ⟨_, lstAt eS⟩, fun D nD => ?_⟩
      refine lc_list (K := K) (a := S) (xs := (es.take u).map V.ref) (fun i H' => H' = upd H2 D (.lst (((List.range i).map fun i => lkN zs R os (i + 1) y).map V.int))) rfl (fun i H' _ e => e ▸ lstAt ((same_upd nD) _ _ eS)) (fun i v H' hx hq => ?_) (fun H' hq => ?_)
      · subst hq
        have hi : i < u := by
          have := (List.getElem?_eq_some_iff.mp hx).1
          rw [List.length_map, List.length_take] at this
          omega
        have hie : i < es.length := by omega
        rw [List.getElem?_map, List.getElem?_take_of_lt hi, List.getElem?_eq_getElem hie] at hx
        cases hx
        refine ⟨rfl, yesT ⟨_, rfl, _, rfl, es[i], _, rfl, dg hie (s2.trans (same_upd nD)) (rem_mono (by omega) my), _, upd_same, by rw [List.length_map, List.length_map, List.length_range]; exact small1000 (by omega), ?_⟩⟩
        rw [upd_twice, List.range_succ, List.map_append, List.map_append]
        rfl
      subst hq
      rw [show ((es.take u).map V.ref).length = u by rw [List.length_map, List.length_take]; omega]
      have sD := same_upd (o := .lst (((List.range u).map fun i => lkN zs R os (i + 1) y).map V.int)) nD
      obtain ⟨f1, f2, f3⟩ := int_first (f := fun i => lkN zs R os (i + 1) y) jt je jf
      refine ⟨.inl ⟨rfl, _, lstAt upd_same⟩, _, rfl, D, _, _, j, _, rfl, rfl, lstAt upd_same, rfl, ints_flat _, f1, f2, f3, ?_⟩
      generalize upd H2 D (.lst (((List.range u).map fun i => lkN zs R os (i + 1) y).map V.int)) = H3 at sD ⊢
      have s3 := s2.trans sD
      have eL3 := sD _ _ eL2
      have hW3 := hW2.same sD
      refine ⟨_, _, rfl, rfl, ?_⟩
      refine ⟨_, rfl, .inl ⟨rfl, _, lstAt eL3⟩, _, rfl, _, rfl, (show (3 : Nat) ≤ sizeLine by decide), fun w1 nw => ?_⟩
      have sw := same_upd (o := .tup [.int ((j : Nat) + 1 : Int), vN y, .int 1]) nw
      have ew : WAt (upd H3 w1 (.tup [.int ((j : Nat) + 1 : Int), vN y, .int 1])) w1 (j, y, 1) := upd_same
      have eL4 := sw _ _ eL3
      have hW4 := hW3.same sw
      have s4 := s3.trans sw
      generalize upd H3 w1 (.tup [.int ((j : Nat) + 1 : Int), vN y, .int 1]) = H4 at ew eL4 hW4 s4 ⊢
      have mu := mu_next hA u1 jt jf
      have hj : j < os.length := by omega
      refine ⟨L, _, _, rfl, rfl, eL4, by rw [List.length_map, hW4.1]; exact small1000 (by omega), ?_⟩
      have s5 := same_at (o := .lst (ks.map V.ref ++ [.ref w1])) s4 nL
      have ao : atI (os.map vN) ((j : Nat) + 1 - 1 : Int) = some (vN (osAt os j)) := atI_in (by omega) (by
        rw [show ((j : Nat) + 1 - 1 : Int).toNat = j by omega, List.getElem?_map, show os[j]? = some (osAt os j) from leav_at hj]
        rfl)
      refine ⟨_, rfl, _, rfl, _, _, rfl, rfl, _, _, _, _, rfl, rfl, same_tup s5 hO, ao, ?_⟩
      refine ⟨_, mu, j + 1, osAt os j, ks ++ [w1], pre ++ [(j, y, 1)], _, _, rfl, rfl, by omega, by omega, osAt_rem ok hj, ?_, s5, by rw [List.map_append]; exact upd_same, (hW4.app (WsAt.one ew)).upd eL4, fun rest h => ?_⟩
      · rw [List.length_append]
        show pre.length + 1 + _ ≤ t
        omega
      · rw [List.append_assoc]
        exact hc _ (.cons hA jt je jf h)
    · rw [decide_eq_false hA]
      refine iteF ⟨_, rfl, q H1 L ks (pre ++ []) nL s1 eL1 (by rw [List.append_nil]; exact hW) (hc [] (.nil (by omega))) (by rw [List.append_nil]; omega)⟩
/-! chain_weights -/
def CsAt (H : Hp) (cs : List Addr) (zs : List Nam) (R : List BRow) (os : List Nam) (t : Nat) (ks : List Nam) : Prop := cs.length = ks.length ∧ ∀ (i : Nat) (c : Addr), cs[i]? = some c → ∃ z ws es, ks[i]? = some z ∧ H c = some (.lst (es.map V.ref)) ∧ WsAt H es ws ∧ Ch zs R os t z ws ∧ ws.length ≤ t
theorem CsAt.same {H H' : Hp} {cs : List Addr} {zs : List Nam} {R : List BRow} {os : List Nam} {t : Nat} {ks : List Nam} (h : CsAt H cs zs R os t ks) (s : Same H H') : CsAt H' cs zs R os t ks := ⟨h.1, fun i c hc => by
  obtain ⟨z, ws, es, a, b, d, e⟩ := h.2 i c hc
  exact ⟨z, ws, es, a, s _ _ b, d.same s, e⟩⟩
/-- what was locked is as it was -/
theorem same_unlock {H H' : Hp} {d : Addr} {od : Obj} {u : HO} (h : H d = some u) (s : Same (upd H d (.frz od u)) H') : Same H (upd H' d u) := fun c o e => by
  by_cases q : c = d
  · rw [q] at e ⊢
    rw [upd_same, ← h, e]
  · rw [upd_ne q]
    exact s c o (by rw [upd_ne q]; exact e)
theorem CsAt.unlock {H : Hp} {d : Addr} {od : Obj} {u : HO} {cs : List Addr} {zs : List Nam} {R : List BRow} {os : List Nam} {t : Nat} {ks : List Nam} (h : CsAt H cs zs R os t ks) (hd : H d = some (.frz od u)) : CsAt (upd H d u) cs zs R os t ks := ⟨h.1, fun i c hc => by
  obtain ⟨z, ws, es, a, b, e, f⟩ := h.2 i c hc
  refine ⟨z, ws, es, a, by rw [upd_ne (fun q => by rw [q, hd] at b; cases b)]; exact b, ⟨e.1, fun j x hx => ?_⟩, f⟩
  obtain ⟨w, a1, b1⟩ := e.2 j x hx
  have b1 : H x = _ := b1
  refine ⟨w, a1, ?_⟩
  show (L2.upd H d u) x = _
  rw [upd_ne (fun q => by rw [q, hd] at b1; cases b1)]
  exact b1⟩
def spCW (K : PySem.W.Frag) (C : Addr) : Sp := fun vs H Q _ => ∃ (p o : Addr) (t : Nat) (zs os : List Nam) (R : List BRow), vs = [.ref p, .ref o, .int (t : Nat)] ∧ LArgs K C H p o zs os R ∧ 1 ≤ t ∧ t ≤ os.length ∧
  ∀ H' r es ws, Same H H' → H' r = some (.tup (es.map V.ref)) → WsAt H' es ws → Chs zs R os t (remO zs os (t - 1)) ws → ws.length ≤ 100 → Q (.ref r) H'
theorem ok_chain_weights {f C : Addr} {fd : FuncData} (F : Fun K "chain_weights" "chain_weights" s_chain_weights f fd) (T : TxtR K C) (m_len : mg "len" = none) (m_tuple : mg "tuple" = none) (d_check_order : Def P w K mg base "check_order" 2 ["options", "order"] (spCheckO K)) (d_check_range : Def P w K mg base "check_range" 1 ["number", "low", "high"] spRange)
    (d_lack_rows : Def P w K mg base "lack_rows" 4 ["roll", "order"] (spLackRows K C)) (d_chain : Def P w K mg base "_chain" 1 ["rows", "order", "option", "at"] (spChain K)) : FnOk P w K mg base CX0 5 f fd ["roll", "order", "at"] (spCW K C) := by
  refine F.ok sc_chain_weights (fun vs H Q E h => ?_) (fun cdv A outer s H vs Q E hr h => ?_)
  · obtain ⟨p, o, t, zs, os, R, rfl, _⟩ := h
    rfl
  · obtain ⟨p, o, t, zs, os, R, rfl, la, t1, tl, q⟩ := h
    obtain ⟨ro, r1000, hO, ok, ol, nd, z10⟩ := id la
    obtain ⟨dx, a, t0, rs, ob, hp, ha, hoc, hod, ht, hR⟩ := id ro
    have oll : (os.map vN).length = os.length := List.length_map ..
    refine ⟨_, (pss_cons (ps_expr (pe_callD d_check_order (hr.mono (by decide)) (by rfl) (pa_cons (pe_fld (pv 0) rfl) (pa_cons (pv 1) pa_nil))))
  (pss_cons (ps_expr (pe_callD d_check_range (hr.mono (by decide)) (by rfl) (pa_cons (pv 2) (pa_cons pe_int (pa_cons (pe_callB call_len_seq (by rfl) m_len (by decide +kernel) (pa_cons (pv 1) pa_nil)) pa_nil)))))
  (pss_cons (ps_set (i := 3) sc_chain_weights.nd rfl (.inr rfl) (pe_callD d_lack_rows (hr.mono (by decide)) (by rfl) (pa_cons (pv 0) (pa_cons (pv 1) pa_nil))))
  (pss_cons (ps_lock (ps_setLc (i := 4) (own := [("option", 5)]) (by rfl) sc_chain_weights.nd rfl rfl (sw_true rfl rfl rfl (by decide +kernel)) (pi_keys (pe_ix ix_list (pv 3) (pe_op op_sub (pv 2) pe_int) (fun _ _ => rfl))) (blkOk_by (N := ["roll", "order", "at", "rows", "chains", "option", "chain", "row"]) (sc := defScope s_chain_weights) (by decide +kernel)) (fun _ _ _ _ _ => (pg_name (i := 5) sc_chain_weights.nd rfl (.inl rfl))) (fun _ _ _ _ _ => pts_nil) (fun _ _ _ _ _ => (pe_callD d_chain (hr.mono (by decide)) (by rfl) (pa_cons (pv 3) (pa_cons (pv 1) (pa_cons (pv 5) (pa_cons (pv 2) pa_nil))))))))
  (pss_one (ps_ret (pe_callTy call_tuple_of (by rfl) m_tuple (by decide +kernel) (pa_cons (pe_lc2 (own := [("chain", 6), ("row", 7)]) (vs1 := [7]) (by rfl) sc_chain_weights.nd (pi_list (pv 4)) (blkOk_by (N := ["roll", "order", "at", "rows", "chains", "option", "chain", "row"]) (sc := defScope s_chain_weights) (by decide +kernel)) (by decide) (fun _ _ _ _ _ => (pg_name (i := 6) sc_chain_weights.nd rfl (.inl rfl))) (fun _ _ _ _ _ => pts_nil) (fun _ _ _ _ _ => (pi_listK (K := K) rfl (pv 6))) (fun _ _ _ _ _ => (pg_name (i := 7) sc_chain_weights.nd rfl (.inl rfl))) (fun _ _ _ _ _ => pts_nil) (fun _ _ _ _ _ => (pv 7))) pa_nil)))))))), ?_⟩
    refine ⟨_, rfl, p, C, dx, _, _, rfl, hp, T.cl, T.nO, fldsR_options _ _ _, _, rfl, a, o, zs, os, rfl, .inr (.inl (.inr ⟨ob, ha⟩)), hO, ok, ol, fun H1 s1 => ?_⟩
    refine ⟨_, rfl, _, rfl, o, _, rfl, .inr (same_tup s1 hO), _, _, _, rfl, by omega, by rw [oll]; omega, ?_⟩
    refine ⟨_, rfl, _, rfl, p, o, zs, os, R, rfl, la.same s1, fun G L es nL s2 eL hD => ?_⟩
    have sG := s1.trans s2
    have hlt : t - 1 < es.length := by rw [hD.1]; omega
    have ed : G es[t - 1] = some (.dK ((remO zs os (t - 1)).map (kvI (lkN zs R os t)))) := by
      have h := hD.2 (t - 1) _ (List.getElem?_eq_getElem hlt)
      rw [show t - 1 + 1 = t by omega] at h
      exact h
    have ae : atI (es.map V.ref) ((t : Int) - 1) = some (.ref es[t - 1]) := atI_in (by omega) (by rw [show ((t : Int) - 1).toNat = t - 1 by omega, List.getElem?_map, List.getElem?_eq_getElem hlt]; rfl)
    refine ⟨es[t - 1], _, ed, trivial, fun od => ?_⟩
    have ed2 : (upd G es[t - 1] (.frz od (.dK ((remO zs os (t - 1)).map (kvI (lkN zs R os t)))))) es[t - 1] = some (.frz od (.dK ((remO zs os (t - 1)).map (kvI (lkN zs R os t))))) := upd_same
    have un : ∀ {H'}, Same (upd G es[t - 1] (.frz od (.dK ((remO zs os (t - 1)).map (kvI (lkN zs R os t)))))) H' → Same G (upd H' es[t - 1] (.dK ((remO zs os (t - 1)).map (kvI (lkN zs R os t))))) := fun s => same_unlock ed s
    have eLX : (upd G es[t - 1] (.frz od (.dK ((remO zs os (t - 1)).map (kvI (lkN zs R os t)))))) L = some (.lst (es.map V.ref)) := by
      rw [upd_ne (fun q => by rw [q, ed] at eL; cases eL)]
      exact eL
    have RX : RowsR (upd G es[t - 1] (.frz od (.dK ((remO zs os (t - 1)).map (kvI (lkN zs R os t)))))) es zs R os := ⟨hD.1, fun i e he => by
      have h := hD.2 i e he
      by_cases q : e = es[t - 1]
      · refine .inr ⟨od, ?_⟩
        rw [q] at h ⊢
        rw [upd_same, ← Option.some.inj (ed.symm.trans h)]
      · exact .inl (by rw [upd_ne q]; exact h)⟩
    have hOX : SqT K (upd G es[t - 1] (.frz od (.dK ((remO zs os (t - 1)).map (kvI (lkN zs R os t)))))) o (os.map vN) := by
      have h := same_tup sG hO
      rcases h with (h | ⟨o', h⟩) | h
      · exact .inl (.inl (by rw [upd_ne (fun q => by rw [q, ed] at h; cases h)]; exact h))
      · exact .inl (.inr ⟨o', by rw [upd_ne (fun q => by rw [q, ed] at h; cases h)]; exact h⟩)
      · exact .inr h
    generalize upd G es[t - 1] (.frz od (.dK ((remO zs os (t - 1)).map (kvI (lkN zs R os t))))) = X at ed2 un eLX RX hOX ⊢
    have rnd := rem_nd (os := os) (t := t - 1) nd
    have rl := rem_len (zs := zs) (os := os) (t := t - 1)
    generalize hk : remO zs os (t - 1) = ks at *
    generalize hu : ks.map (kvI (lkN zs R os t)) = kd at ed2 un ed ⊢
    have kl : kd.length = ks.length := by rw [← hu, List.length_map]
    refine ⟨_, rfl, _, rfl, _, _, rfl, rfl, _, _, _, _, rfl, rfl, lstAt eLX, ae, es[t - 1], od, rfl, .inl ⟨kd, ed2, fun D nD => ?_⟩⟩
    refine walk_go (walk_keys (d := es[t - 1]) (o := od) (kvs := kd)) (fun i H' => Same X H' ∧ ∃ cs : List Addr, H' D = some (.lst (cs.map V.ref)) ∧ (∀ c ∈ cs, c ≠ D) ∧ CsAt H' cs zs R os t (ks.take i)) ⟨same_upd nD, [], upd_same, (fun _ h => nomatch h), rfl, fun _ _ h => nomatch h⟩ (fun i H' _ hq => hq.1 _ _ ed2) (fun i x H2 H2' hi hq hy => ?_) (fun H' hq => ?_)
    · obtain ⟨s3, cs, eD, cD, hC⟩ := hq
      obtain ⟨rfl, k, v, ek, rfl⟩ := hy
      rw [← hu, List.getElem?_map] at ek
      obtain ⟨z, ez, e⟩ := Option.map_eq_some_iff.mp ek
      cases e
      have mz := List.mem_of_getElem? ez
      have hiK : i < ks.length := (List.getElem?_eq_some_iff.mp ez).1
      refine ⟨rfl, yesT ⟨_, rfl, _, rfl, _, rfl, _, rfl, L, o, z, t, es, zs, os, R, rfl, s3 _ _ eLX, RX.same s3, same_tup s3 hOX, ok, by omega, t1, tl, by rw [hk]; exact mz, fun H3 c ks' ws nc s4 ec hW hc wl => ?_⟩⟩
      have eD4 := s4 _ _ eD
      have hC4 := hC.same s4
      refine ⟨_, eD4, by rw [List.length_map, hC.1, List.length_take]; exact small1000 (by omega), same_at (s3.trans s4) nD, cs ++ [c], by rw [List.map_append]; exact upd_same, ?_, ?_⟩
      · have nc2 : c ≠ D := (ne_of_none eD nc).symm
        intro c' m
        rcases List.mem_append.mp m with m | m
        · exact cD c' m
        · rw [List.mem_singleton.mp m]; exact nc2
      have nc2 : c ≠ D := (ne_of_none eD nc).symm
      refine ⟨by rw [List.length_append, hC4.1, List.take_add_one, ez, List.length_append]; rfl, fun m e' he' => ?_⟩
      rw [List.take_add_one, ez]
      by_cases hm : m < cs.length
      · rw [List.getElem?_append_left hm] at he'
        obtain ⟨z', ws', es', q1, q2, q3, q4⟩ := hC4.2 m e' he'
        exact ⟨z', ws', es', by rw [List.getElem?_append_left (by rw [← hC4.1]; exact hm)]; exact q1, by rw [upd_ne (cD e' (List.mem_of_getElem? he'))]; exact q2, q3.upd eD4, q4⟩
      · rw [List.getElem?_append_right (by omega)] at he'
        have hm2 : m - cs.length = 0 := by
          have := (List.getElem?_eq_some_iff.mp he').1
          simp at this
          omega
        rw [hm2] at he'
        cases Option.some.inj he'
        exact ⟨z, ws, ks', by rw [List.getElem?_append_right (by rw [← hC4.1]; omega), ← hC4.1, hm2]; rfl, by rw [upd_ne nc2]; exact ec, hW.upd eD4, hc, wl⟩
    obtain ⟨s3, cs, eD, cD, hC⟩ := hq
    rw [kl, List.take_length] at hC
    refine ⟨s3 _ _ ed2, ?_⟩
    have sY := sG.trans (un s3)
    have hC2 := hC.unlock (s3 _ _ ed2)
    have eD2 : (upd H' es[t - 1] (.dK kd)) D = some (.lst (cs.map V.ref)) := by
      have e1 := s3 _ _ ed2
      rw [upd_ne (fun q => by rw [q, e1] at eD; cases eD)]
      exact eD
    generalize upd H' es[t - 1] (.dK kd) = Y at sY hC2 eD2 ⊢
    refine ⟨_, rfl, D, rfl, ⟨_, lstAt eD2⟩, fun D2 nD2 => ?_⟩
    refine walk_go (walk_list (K := K) (a := D) (xs := cs.map V.ref)) (fun i H' => Same Y H' ∧ ∃ (es0 : List Addr) (ws0 : List WRow), H' D2 = some (.lst (es0.map V.ref)) ∧ WsAt H' es0 ws0 ∧ Chs zs R os t (ks.take i) ws0 ∧ ws0.length ≤ i * t) ⟨same_upd nD2, [], [], upd_same, ⟨rfl, fun _ _ h => nomatch h⟩, .nil, Nat.zero_le _⟩ (fun i H' _ hq => lstAt (hq.1 _ _ eD2)) (fun i x H2 H2' hi hq hy => ?_) (fun H' hq => ?_)
    · obtain ⟨s4, es0, ws0, eX, hX, hS, l0⟩ := hq
      obtain ⟨rfl, hx⟩ := hy
      rw [List.getElem?_map] at hx
      obtain ⟨c, ec, rfl⟩ := Option.map_eq_some_iff.mp hx
      obtain ⟨z, ws, es', ez, hc1, hW1, hCh, wl⟩ := hC2.2 i c ec
      have el' : (es'.map V.ref).length = ws.length := by rw [List.length_map, hW1.1]
      have hiK : i < ks.length := (List.getElem?_eq_some_iff.mp ez).1
      have ks10 : i * t ≤ 90 := Nat.le_trans (Nat.mul_le_mul (show i ≤ 9 by omega) (show t ≤ 10 by omega)) (by decide)
      refine ⟨by simp [wipe, L2.start], yesT ⟨_, rfl, c, rfl, ⟨_, lstAt (s4 _ _ hc1)⟩, ?_⟩⟩
      refine walk_go (walk_list (K := K) (a := c) (xs := es'.map V.ref)) (fun j H' => Same Y H' ∧ ∃ (es1 : List Addr) (ws1 : List WRow), H' D2 = some (.lst (es1.map V.ref)) ∧ WsAt H' es1 ws1 ∧ ws1 = ws0 ++ ws.take j) ⟨s4, es0, ws0, eX, hX, by rw [List.take_zero, List.append_nil]⟩ (fun j H' _ hq => lstAt (hq.1 _ _ hc1)) (fun j y H4 H4' hj hq hy2 => ?_) (fun H' hq => ?_)
      · obtain ⟨s5, es1, ws1, eX1, hX1, rfl⟩ := hq
        obtain ⟨rfl, hx2⟩ := hy2
        obtain ⟨e, w1, rfl, ew, he⟩ := ws_at (hW1.same s5) hx2
        have hj' : j < ws.length := by omega
        refine ⟨by simp [wipe], yesT ⟨_, rfl, _, eX1, ?_, same_at s5 nD2, es1 ++ [e], (ws0 ++ ws.take j) ++ [w1], by rw [List.map_append]; exact upd_same, (hX1.app (WsAt.one he)).upd eX1, by rw [List.take_add_one, ew, List.append_assoc]; rfl⟩⟩
        rw [List.length_map, hX1.1, List.length_append, List.length_take]
        exact small1000 (by omega)
      · obtain ⟨s5, es1, ws1, eX1, hX1, rfl⟩ := hq
        rw [el', List.take_length] at hX1
        refine ⟨s5, es1, ws0 ++ ws, eX1, hX1, ?_, ?_⟩
        · rw [List.take_add_one, ez]
          exact .snoc hS hCh
        · rw [List.length_append, Nat.succ_mul]
          omega
    obtain ⟨s4, es0, ws0, eX, hX, hS, l0⟩ := hq
    rw [List.length_map, hC2.1] at hS l0
    rw [List.take_length] at hS
    have l1 : ks.length * t ≤ 100 := Nat.le_trans (Nat.mul_le_mul (show ks.length ≤ 10 by omega) (show t ≤ 10 by omega)) (by decide)
    refine ⟨D2, _, rfl, .inl ⟨lstAt eX, fun r nr => ?_⟩⟩
    have sr := same_upd (o := .tup (es0.map V.ref)) nr
    exact q _ r es0 ws0 (sY.trans (s4.trans sr)) upd_same (hX.same sr) hS (by omega)
end
end TK

/-! an own exception over ValueError whose __init__ says super().__init__(..); self.f = x -/
namespace TK
section
open PySem PySem.W PySem.Calls PySem.Spec PyProof.Rows
variable {prog : Program} {w : World} {A : Around} {E : Value → Shared → Prop} {h : Heap} {g : Array GenState} {d : Drawn} {t : Nat} {os : OsState}
variable {nm q : Str} {C N : Addr} {bs bm : List Value} {hdct : Bool} {sn : List Str} {sub : List Value} {ab : Bool} {col : Option Bool} {dd : Option Addr} {k0 k1 k2 k3 k5 : Option Value}
/-- the bound __init__ called -/
theorem call_mw {u e t0 : Addr} {rest : List Value} {Q : Value → Shared → Prop}
    (hC : h.get? C = some (excClassObj nm q C N bs bm hdct sn sub ab col dd k0 k1 k2 k3 k5 "ValueError.__new__")) (he : h.get? e = some (HandSPX.excO C t0)) (hu : h.get? u = some (kxs_mw "ValueError.__init__" e)) (hrest : rest.length ≤ sizeLine)
    (hq : ∀ h' t1, (∀ b o, b ≠ e → h.get? b = some o → h'.get? b = some o) → h'.get? e = some (HandSPX.excO C t1) → Q .none ⟨h', g, d, t, os⟩) :
    wpAny (model prog w) A (call (.ref u) rest) Q E ⟨h, g, d, t, os⟩ := by
  refine wpAny_call (codeAny_of_tree ?_)
  show wpAny _ A.in1 (callAny (.ref u) ⟨rest, []⟩) _ _ _
  simp only [callAny]
  refine wpAny_bind (wpAny_load hu ?_)
  simp only [kxs_mw, show (Value.type "method-wrapper" == Value.type "method" || Value.type "method-wrapper" == Value.type "builtin_function_or_method" || Value.type "method-wrapper" == Value.type "method-wrapper") = true by decide, if_true]
  refine PySem.W.KFB.if_so (by decide) ?_
  refine wpAny_bind (ESX.check_bound F.excBase_ValueError hC he rfl ?_)
  refine wpAny_bind (wpAny_pure (wpAny_pure ?_))
  refine ⟨Code.quiet_builtin _ (by decide +kernel), codeAny_builtin F.excBase_ValueError.initEntry ?_⟩
  rw [Around.under_plainId F.excBase_ValueError.init.plain _]
  wp_walk
  refine hq _ h.objs.size (fun b o hb ho => ?_) ?_
  · rw [Heap.get?_update_other _ _ (Ne.symm hb)]
    exact Heap.get?_push_of_some _ ho
  · rw [Heap.get?_update_self _ (Heap.get?_push_of_some _ he) rfl]
    rfl
end
open PySem PySem.Spec PyProof.Rows L2 NdefX
open PySem.W (ks_superIn kxs_mw kxs_getMethod kxs_ValueError kxs_callWith)
def supBody (p0 p1 p2 p3 p4 p5 p6 p7 p8 : Pos) (msg : Expr) (arg fld : Str) : List Stmt :=
  [.Expr (.Call (.Attribute (.Call (.Name "super" p0) [] [] p1) "__init__" p2) [msg] [] p3) p4, .Assign [.Attribute (.Name "self" p5) fld p6] (.Name arg p7) p8]
/-- X.__init__(self, y): the exception at a gets its dict with the one field -/
def spSup (C : Addr) (fld : Str) (okv : V → Prop) : Sp := fun vs H Q _ => ∃ (a : Addr) (y : V), vs = [.ref a, y] ∧ okv y ∧ H a = some (exo a C none) ∧ ∀ dx, H dx = none → dx ≠ a → Q .non (upd (upd H dx (exd dx [(fld, y)])) a (exo a C (some dx)))
theorem fn_sup {CX : CXT} {P : Program} {w : World} {K : PySem.W.Frag} {mg : Str → Option Value} {base : Heap} {k : Nat} {f C cc cda : Addr} {qual arg fld file : Str} {params : Arguments} {scope : Scope} {msg : Expr} {p0 p1 p2 p3 p4 p5 p6 p7 p8 : Pos}
    {oc ccl cl dV kV doc pm ct : Value} {an od cdd cld : Option Addr} {osl ccs csl : Array (Option Value)} {vs0 : Array Value} {tf : Tok} {okv : V → Prop} {te : TE} {ar : Arg}
    (lk : K.lookup f = some ⟨oc, od, .func (PySem.W.fnX "__init__" qual params (supBody p0 p1 p2 p3 p4 p5 p6 p7 p8 msg arg fld) scope [("__class__", cc)] dV kV doc pm an (.ref cda) ct), osl⟩) (hcd : PySem.W.codeIn K (.ref cda) qual = true)
    (hcode : K.lookup cda = some ⟨ccl, cdd, .fields vs0, ccs⟩) (hvs : vs0[2]? = some (.str file tf)) (hfile : ((P.main.file : Str) == file) = true)
    (hcell : K.lookup cc = some ⟨cl, cld, .cell (some (.ref C)), csl⟩)
    (S : NScope ["self", arg, "__class__"] ["self", arg] ["__class__"] scope) (hks : scope.names.lookup ("super" : Str) = some .globalImplicit)
    (hpar : (params.posonlyargs ++ params.args).head? = some ar) (har : ar.arg = "self")
    (htop : (P.main.scope.names.lookup ("super" : Str)).isSome = false) (hsup : mg "super" = none)
    (T : OexC K C) (hmr : PySem.W.mroIn K C (.ref C) = some true) (hst : PySem.W.nsIn K cStatics "thirdparty.any" = some none) (hal : ks_superIn K C C "__init__" = some (some (.builtin "ValueError.__init__")))
    (hVE : PySem.W.subIn K (.ref C) (.type "ValueError") = some true) (hno : PySem.W.findIn K (.ref C) fld = some none)
    (hpa : ∀ (A : Around) (outer : List Env) (s : Shared) (H : Hp) (E : XK), PA (ncx CX P w K mg base ["self", arg, "__class__"] ⟨"__init__", qual, params, supBody p0 p1 p2 p3 p4 p5 p6 p7 p8 msg arg fld, scope, [("__class__", cc)], cda⟩ f A outer s H E) [msg] (tCons te tNil))
    (hpl : ∀ env : Env, starEach [msg] env = [(false, eval msg env)])
    (hte : ∀ (a : Addr) (y : V) (H : Hp) (Q : VK), okv y → (∀ z, Q z H) → te [some (.ref a), some y, some (.ref C)] H Q)
    (hdb : (arg == ("__debug__" : Str)) = false) (hdc : (arg == ("__classdict__" : Str)) = false) {pl : Env → Sem Bool} (hev : ∀ env : Env, eval (.Call (.Attribute (.Call (.Name "super" p0) [] [] p1) "__init__" p2) [msg] [] p3) env = (do
      let ov ← attributeBase (.Call (.Name "super" p0) [] [] p1) "__init__" env (eval (.Call (.Name "super" p0) [] [] p1) env)
      standAt p2.atName
      let (f, first) ← holding [ov] (getMethod ov "__init__" (pl env))
      callWith p3 f first (backTo p3 (starEach [msg] env)) [])) :
    FnOk P w K mg base CX (k + 1) f (PySem.W.fnX "__init__" qual params (supBody p0 p1 p2 p3 p4 p5 p6 p7 p8 msg arg fld) scope [("__class__", cc)] dV kV doc pm an (.ref cda) ct) ["self", arg] (spSup C fld okv) := by
  have len : ∀ vs H Q E, spSup C fld okv vs H Q E → vs.length = (["self", arg] : List Str).length := fun vs H Q E h => by
    obtain ⟨a, y, rfl, _⟩ := h
    rfl
  refine ⟨len, fun A outer s H args us vs Q E hr e0 hb r hsp => ?_⟩
  have hl := len _ _ _ _ hsp
  obtain ⟨a, y, rfl, oky, ea, q⟩ := hsp
  obtain ⟨hp0, g0, d0, tk0, os0⟩ := s
  have KX : K.In hp0 := e0.mod.kin.keeps fun b o e => (e0.bs b o e).1
  have lim : hp0.NoLimit := e0.mod.nolimit.keeps fun b o e => (e0.bs b o e).1
  have one : ∀ (y : Str) (c : Addr), ([(("__class__" : Str), cc)] : List (Str × Addr)).lookup y = some c → y = ("__class__" : Str) ∧ c = cc := fun y c e => by
    simp only [List.lookup] at e
    split at e
    · rename_i h
      exact ⟨eq_of_beq h, (Option.some.inj e).symm⟩
    · cases e
  have cls : CellsAt [(("__class__" : Str), cc)] ["__class__"] [some (.ref C)] hp0 H := by
    refine ⟨rfl, fun y c e => ?_, fun x y c e1 e2 => (one _ _ e1).1.trans (one _ _ e2).1.symm, fun i y hy => ?_⟩
    · obtain ⟨_, rfl⟩ := one _ _ e
      exact ⟨(e0.bs _ _ (e0.mod.kin _ _ hcell)).2, _, _, KX _ _ hcell, rfl⟩
    · match i, hy with
      | 0, hy =>
        cases Option.some.inj hy
        refine ⟨cc, by simp [List.lookup], fun v ev => ?_⟩
        cases Option.some.inj (Option.some.inj ev)
        exact ⟨.ref C, rfl, _, KX _ _ hcell, rfl⟩
      | i + 1, hy => simp at hy
  refine PySem.ks_codeAny_call_defAt (body := supBody p0 p1 p2 p3 p4 p5 p6 p7 p8 msg arg fld) (binds := (["self", arg] : List Str).zip us) hr.depth (KX _ _ lk) rfl lim (PySem.W.codeRec_of KX hcd) rfl hb S.nocell (fun ⟨n, v⟩ hy => S.par n (List.of_mem_zip hy).1) (fun h₁ hns kp => ?_) S.co S.gen S.kind
  let F : NF := ⟨"__init__", qual, params, supBody p0 p1 p2 p3 p4 p5 p6 p7 p8 msg arg fld, scope, [("__class__", cc)], cda⟩
  let X : Cx := ncx CX P w K mg base ["self", arg, "__class__"] F f A outer ⟨hp0, g0, d0, tk0, os0⟩ H E
  have I : Inv X [] (startF ["self", arg, "__class__"] [V.ref a, y] [some (.ref C)]) H ⟨h₁, g0, d0, tk0 + ((["self", arg] : List Str).zip us).length, os0⟩ :=
    inv_startN (CX := CX) (E := E) (N := ["self", arg, "__class__"]) (F := F) (f := f) (ws := [some (.ref C)]) S hr.hd e0 hl r cls hns kp
  have eσ : startF ["self", arg, "__class__"] [V.ref a, y] [some (.ref C)] = [some (.ref a), some y, some (.ref C)] := rfl
  rw [eσ] at I
  have pa : PA X [msg] (tCons te tNil) := hpa A outer ⟨hp0, g0, d0, tk0, os0⟩ H E
  generalize tk0 + ((["self", arg] : List Str).zip us).length = tk1 at I ⊢
  have KX1 : K.In h₁ := I.kIn
  obtain ⟨nm, q1, N, bs, bm, sn, sub, ab, col, dd, k0, k1, k2, k3, k5, hC, hbm⟩ := id T.cls
  obtain ⟨t1, hx⟩ := exo_at I.hok ea
  obtain ⟨mb, hb1, hb2⟩ := I.mod.blt
  have hself : scope.names.lookup ar.arg = some .local := by rw [har]; exact S.par "self" (by simp)
  obtain ⟨u, rfl⟩ : ∃ u, us = [Value.ref a, u] := by
    cases r with
    | @cons _ u0 _ ur ra rw' =>
      obtain rfl : u0 = Value.ref a := ra
      cases rw' with
      | cons rb rc => cases rc; exact ⟨_, rfl⟩
  have vself : (((["self", arg] : List Str).zip [Value.ref a, u]).reverse.lookup ar.arg) = some (.ref a) := by
    rw [har]
    have nd : (["self", arg] : List Str).Nodup := by
      have q := S.nd
      simp only [List.nodup_cons, List.mem_cons, not_or] at q ⊢
      exact ⟨⟨q.1.1, by simp⟩, by simp, by simp⟩
    exact zip_look (i := 0) nd rfl rfl
  show _root_.PySem.wpAt (model P w) X.A (.func (supBody p0 p1 p2 p3 p4 p5 p6 p7 p8 msg arg fld) X.env) (execs (supBody p0 p1 p2 p3 p4 p5 p6 p7 p8 msg arg fld) X.env) _ X.xe _
  refine PySem.ks_wpAt_execs_cons (PySem.ks_wpAt_Expr_any (PySem.ks_wpAt_MethodCall (PySem.ks_wpAt_super_base (env := X.env) (ar := ar) (f := f) hks (S.frk _ (by simp)) (by decide) rfl (KX1 _ _ lk) rfl hpar rfl (KX1 _ _ hcode) rfl hvs hfile htop ?_) (hev X.env)) I.quiet)
  refine PySem.W.ks_loadName_global S.kind hks (Calls.loadGlobal_builtin (mg := mg) (I.mod.glob.keeps I.bk) hsup (hb1.keeps I.bk) ((hb2 "super" (by decide)).trans (by decide +kernel : bootBuiltins "super" = some (.type "super"))) ⟨rfl, ?_⟩)
  refine wpAny_loadName_free S.kind (S.frk "__class__" (by simp)) (c := cc) rfl ⟨_, KX1 _ _ hcell, rfl⟩ ?_
  refine wpAny_loadName_local S.kind hself hns vself ?_
  have hCd := KX1 _ _ hC
  refine PySem.ks_wpAny_isType_cls hCd rfl ⟨rfl, ?_⟩
  refine PySem.ks_wpAny_call_super hCd rfl hx rfl (fun c e => by cases e) (PySem.W.looks_mroIn KX1 hmr) (fun h2 e2 kp2 => ?_)
  have I2 : Inv X [] [some (.ref a), some y, some (.ref C)] H ⟨h2, g0, d0, tk1, os0⟩ := I.kept (t' := tk1) kp2
  have KX2 : K.In h2 := I2.kIn
  have hx2 := kp2 _ _ hx
  have IA : PySem.W.InstAt h2 a _ C none := ⟨hx2, rfl, rfl, trivial⟩
  -- the bound __init__
  cases hcc : PySem.W.clsIn K C with
  | none => unfold ks_superIn at hal; rw [hcc] at hal; cases hal
  | some cd =>
    unfold ks_superIn at hal
    rw [hcc] at hal
    refine kxs_getMethod kxs_ValueError e2 (PySem.W.looks_opaque KX2 hst) (l₀ := cd.mro) (fun A Q E s k q => wpAny_bind ((PySem.W.looks_clsIn KX2 hcc) A _ E s k (wpAny_pure q))) rfl KX2 hal (IA.type.andThen (PySem.W.looks_subIn KX2 hVE)) (PySem.W.ks_ne KX2 IA hcc) (by decide) ?_
    have kp3 : ∀ b o, h2.get? b = some o → (h2.push (kxs_mw "ValueError.__init__" a)).get? b = some o := fun b o e => Heap.get?_push_of_some _ e
    have hu3 : (h2.push (kxs_mw "ValueError.__init__" a)).get? h2.objs.size = some (kxs_mw "ValueError.__init__" a) := Heap.get?_push_at rfl rfl
    have I3 : Inv X [] [some (.ref a), some y, some (.ref C)] H ⟨h2.push (kxs_mw "ValueError.__init__" a), g0, d0, tk1 + 1, os0⟩ := I2.kept (t' := tk1 + 1) kp3
    have I4 : Inv X [(h2.objs.size, kxs_mw "ValueError.__init__" a)] [some (.ref a), some y, some (.ref C)] H ⟨h2.push (kxs_mw "ValueError.__init__" a), g0, d0, tk1 + 1, os0⟩ := I3.pins_of fun p hp => by
      rw [List.mem_singleton.mp hp]
      exact ⟨hu3, I2.hok.fresh (Nat.le_refl _), Nat.ne_of_gt I2.lt, I2.nofs (Nat.le_refl _), fun v z => by cases z⟩
    show wpAny _ _ (callWith p3 (.ref h2.objs.size) [] (backTo p3 (starEach [msg] X.env)) []) _ _ _
    have ra := pa.run p3 _ _ _ H (fun vs H1 => ∃ z, vs = [z] ∧ H1 = H) I4 (hte a y H _ oky fun z => ⟨z, rfl, rfl⟩)
    rw [hpl] at ra ⊢
    refine kxs_callWith (i := "ValueError.__init__") (x := a) rfl (Calls.evalArgs_plain (thn ra fun us4 s4 hh => ?_))
    obtain ⟨vs4, H4, I5, r5, z, ev, eH⟩ := hh
    subst ev
    subst eH
    obtain ⟨h4, g4, d4, tk4, os4⟩ := s4
    have pin4 := I5.pin (h2.objs.size, kxs_mw "ValueError.__init__" a) (List.mem_append_right _ List.mem_cons_self)
    obtain ⟨t4, hx4⟩ := exo_at I5.hok ea
    refine ⟨pin4.1, call_mw (I5.kIn _ _ hC) hx4 pin4.1 (by show us4.length ≤ sizeLine; rw [← r5.length]; exact (show (1 : Nat) ≤ sizeLine by decide)) fun h5 t5 k5' hx5 => ?_⟩
    have J := I5.write (t' := tk4) (x := a) (e := a) (o := exo a C none) (by rw [ea]; exact True.intro) (.inl rfl) k5' ⟨_, hx5⟩ (exo_ok hx5)
    have eu : upd H4 a (exo a C none) = H4 := by
      funext b
      by_cases hb : b = a
      · rw [hb, upd_same, ea]
      · rw [upd_ne hb]
    rw [eu] at J
    -- self.f = y
    have hst2 : PSs X [.Assign [.Attribute (.Name "self" p5) fld p6] (.Name arg p7) p8] _ := pss_one (ps_ost (f := fld) (pe_var (i := 0) rfl (.inl (S.par "self" (by simp))) (by decide) (by decide)) (pe_var (i := 1) rfl (.inl (S.par arg (by simp))) hdb hdc))
    refine wpAt_of_wpAny (wpAny_mono (hst2.run _ _ _ _ { nx := fun _ H' => Q .non H', rt := Q } J ?_) (fun fl s' hs => ?_) fun e s' hs => hs)
    · exact ⟨_, rfl, _, rfl, a, C, rfl, T, hno, .inl ⟨ea, fun dx hdx n => q dx hdx n⟩⟩
    · have fin : ∀ {σ' : L2.St} {H' : Hp} {v : V} {u : Value}, Inv X [(h2.objs.size, kxs_mw "ValueError.__init__" a)] σ' H' s' → RelV v u → Q v H' → CE outer P w H4 ⟨hp0, g0, d0, tk0, os0⟩ Q u s' :=
        fun {σ' H' v u} J rv q => ⟨v, H', J.os, J.bare, J.base, J.hok, rv, q⟩
      cases fl with
      | ret u =>
        obtain ⟨v, σ', H', J, rv, q⟩ := hs
        exact fin J rv q
      | next =>
        obtain ⟨σ', H', J, q⟩ := hs
        exact fin (v := V.non) (u := Value.none) J rfl q
      | brk =>
        obtain ⟨_, _, _, q⟩ := hs
        exact False.elim q
      | cont =>
        obtain ⟨_, _, _, q⟩ := hs
        exact False.elim q
end TK

/-! raise X(e), X an own exception whose __init__ says super().__init__(..); self.f = e -/
namespace TK
open PySem PySem.Spec PyProof.Rows L2 NdefX
/-- what is told of X, at C, its __init__ at fI -/
structure SupT (P : Program) (w : World) (K : PySem.W.Frag) (mg : Str → Option Value) (base : Heap) (x arg fld : Str) (okv : V → Prop) (C fI : Addr) (fd : FuncData) : Prop where
  gC : mg x = some (.ref C)
  T : OexC K C
  iC : PySem.W.findIn K (.ref C) "__init__" = some (some (.ref fI))
  tI : PySem.W.typeIn K (.ref fI) = some (.type "function")
  F : FnOk P w K mg base CX0 1 fI fd ["self", arg] (spSup C fld okv)
  b : Binds K fd ["self", arg] []
  xf : XfC K C
  noN : PySem.W.findIn K (.ref C) fld = some none
  te : PySem.W.exmOne K (.ref C) (.ref C) = some true
/-- what the making asks -/
theorem sup_read {C : Addr} {fld : Str} {okv : V → Prop} {v : V} {H1 : Hp} {Q : XK} (ok : okv v) (q : ∀ d, H1 d = none → Q (.ref C) (some d) (upd H1 d (.xd [(fld, v)]))) :
    ([v] : List V).length ≤ 1000 ∧ ∀ a, H1 a = none → spSup C fld okv (.ref a :: ([v] ++ [])) (upd H1 a (exo a C none))
      (fun v H2 => v = .non ∧ ∃ (d : Addr) (fs : List (Str × V)), H2 a = some (exo a C (some d)) ∧ H2 d = some (exd d fs) ∧ H1 d = none ∧ Q (.ref C) (some d) (upd (del H2 a) d (.xd fs))) (fun _ _ _ => False) := by
  refine ⟨(show (1 : Nat) ≤ 1000 by decide), fun a na => ⟨a, v, rfl, ok, upd_same, fun dx hdx ne => ⟨rfl, dx, [(fld, v)], upd_same, ?_, ?_, ?_⟩⟩⟩
  · rw [upd_ne ne]; exact upd_same
  · rw [upd_ne ne] at hdx; exact hdx
  · rw [upd_ne ne] at hdx
    have e : upd (del (upd (upd (upd H1 a (exo a C none)) dx (exd dx [(fld, v)])) a (exo a C (some dx))) a) dx (.xd [(fld, v)]) = upd H1 dx (.xd [(fld, v)]) := by
      funext b
      by_cases h1 : b = dx
      · rw [h1, upd_same, upd_same]
      · rw [upd_ne h1, upd_ne h1]
        by_cases h2 : b = a
        · rw [h2, del_same, na]
        · rw [del_ne h2, upd_ne h2, upd_ne h1, upd_ne h2]
    rw [e]
    exact q dx hdx
section
variable {X : Cx} {W : WX} {x arg fld : Str} {okv : V → Prop} {C fI : Addr} {fd : FuncData} {e : Expr} {ta : TA} {p pos pos2 : Pos}
theorem ps_raiseSup (hc : X.calm = true) (T : SupT X.prog X.w X.K X.mg X.base x arg fld okv C fI fd) (hr : Room 2 X.A) (tk : Takes X W) (ha : PA X [e] ta) (hg : Gl X x)
    (hdb : (x == ("__debug__" : Str)) = false := by decide) (he : starEach (e :: []) X.env = (false, eval e X.env) :: starEach [] X.env := by rfl) (hpl : (backTo pos (starEach [] X.env)).any (·.1) = false := by rfl) :
    PS X (.Raise (some (.Call (.Name x p) [e] [] pos)) none pos2) (fun _ σ H => tMkO C (spSup C fld okv) [] ta σ H fun cls d H' => W cls d σ H') :=
  ps_raise hc tk (pmk_oex (dvs := []) T.T T.iC T.tI T.F hr T.b .nil (fun _ _ _ _ _ _ _ h => h.elim) hg T.gC ha hdb he hpl)
end
end TK

/-! X(), X an own exception without an __init__ -/
namespace TK
open PySem PySem.Spec PyProof.Rows L2
theorem pmk_own0 {X : Cx} {C : Addr} {bmB : List Value} {B newId initId : String} {x : Str} {p pos : Pos} (F : ExcBaseFacts B newId initId bmB) (q : PySem.W.excIn X.K C bmB newId = true) (gC : X.mg x = some (.ref C)) (kC : PySem.W.keepIn X.K (.ref C) = true) (r : Raises X (.ref C)) (hg : Gl X x)
    (hdb : (x == ("__debug__" : Str)) = false := by decide) : PMk X (.Call (.Name x p) [] [] pos) (fun _ H Q => Q (.ref C) none H) := by
  intro pins s σ H Q I h
  refine wpAny_Call_Name_kw (ld_glob I hg gC ?_ hdb)
  refine PySem.W.callWith_K0 I.kIn kC ?_
  show wpAny _ _ (call (.ref C) []) _ _ _
  obtain ⟨bm, N, nm, qn, bs, hdct, sn, sub, ab, col, dd, k0, k1, k2, k3, k5, mN, hC, hN, hni, T⟩ := exc_obj I.kIn q
  refine wpAny_call_exc_subT F T hC hN hni (fun h' e hm => ?_) (by show 0 ≤ sizeLine; exact Nat.zero_le _)
  exact mk_of I hm r h (I.hok.gone hm.new)
end TK

/-! isinstance of a caught exception that has its dict -/
namespace TK
section
open PySem PySem.W PySem.Spec PySem.Calls PyProof.Rows
variable {prog : Program} {w : World} {A : Around} {E : Value → Shared → Prop} {s : Shared} {K : Frag} {x D : Addr} {ox : Obj}
theorem findObj_dataO {C : Addr} {odc : Option Obj} {name : Str} {a g : Value} (hc : (clsIn K C).isSome = true) (ha : findIn K (.ref C) name = some (some a)) (hg : specialIn K a "__get__" = some (some g)) (ht : takesIn K a = some true) : findObj K C odc name = some (.bind g a) := by
  obtain ⟨cd, hc⟩ := Option.isSome_iff_exists.mp hc
  unfold findObj
  rw [hc, Option.bind_some, ha, Option.bind_some]
  simp [hg, ht]
theorem kin_classEo {Q : Option Value → Shared → Prop} (hga : findIn K (.ref D) "__getattribute__" = some (some (.builtin "BaseException.__getattribute__"))) (hgt : findIn K (.ref D) "__getattr__" = some none) (hsub : subIn K (.ref D) (.type "BaseException") = some true)
    (hdct : hasDictIn K D = true) (ha : findIn K (.ref D) "__class__" = some (some (.builtin "object.__class__")))
    (hn : specialIn K (.builtin "object.__class__") "__get__" = some (some (.builtin "getset_descriptor.__get__"))) (htk : takesIn K (.builtin "object.__class__") = some true) (hm : mroIn K D (.type "object") = some true)
    {odc : Option Obj} (X : K.In s.heap) (I : InstAt s.heap x ox D odc) (h : Q (some (.ref D)) { s with toks := s.toks + 1 }) : wpAny (model prog w) A (getAttr? (.ref x) "__class__") Q E s := by
  have hf : findObj K D odc "__class__" = some (.bind (.builtin "getset_descriptor.__get__") (.builtin "object.__class__")) := findObj_dataO (by obtain ⟨cd, hc, _⟩ := any_some hdct; rw [hc]; rfl) ha hn htk
  obtain ⟨hp, g, d, t, os⟩ := s
  have L0 := I.type (M := model prog w)
  have L1 := looks_findIn (M := model prog w) X hga
  have L2 := looks_findIn (M := model prog w) X hgt
  have L3 := looks_find (M := model prog w) X I hf
  have sub : Looks (model prog w) hp (isInstance (.ref x) (.type "BaseException")) true := L0.andThen (looks_subIn X hsub)
  have hx0 : (false && onTheHeap (Value.builtin "BaseException.__getattribute__")) = false := rfl
  have hx2 : (Value.builtin "BaseException.__getattribute__" == Value.builtin "object.__getattribute__") = false := by decide +kernel
  have hx1 : (onTheHeap (Value.ref D) && Value.builtin "BaseException.__getattribute__" == Value.builtin "object.__getattribute__") = false := by rw [hx2]; rfl
  unfold getAttr? getAttrBy? getAttrBy
  refine wpAny_bind (wpAny_mkText (wpAny_bind (wpAny_attempt (wpAny_holding (wpAny_bind (L0.at (wpAny_bind (L1.at ?_))))))))
  show wpAny _ _ (if (onTheHeap (Value.ref D) && Value.builtin "BaseException.__getattribute__" == Value.builtin "object.__getattribute__") = true then _ else _) _ _ _
  rw [hx1, if_neg Bool.false_ne_true]
  unfold getAttrByItsOwn hookBefore
  refine wpAny_bind ?_
  rw [if_pos (show onTheHeap (Value.ref D) = true from rfl)]
  refine L2.at ?_
  refine wpAny_bind (wpAny_attempt (wpAny_holding ?_))
  unfold callGetattribute
  rw [hx0, if_neg Bool.false_ne_true]
  unfold boundAndCalled
  rw [PySem.F.excAttr_ValueError.ga.bind (.ref x)]
  refine wpAny_bind (wpAny_pure ?_)
  show wpAny _ _ (call (.builtin "BaseException.__getattribute__") [.ref x, .str "__class__" t]) _ _ _
  refine wpAny_call (codeAny_call_builtin PySem.F.excAttr_ValueError.ga.plain PySem.F.entry_bexc_ga ?_)
  refine @check_slot (model prog w) _ _ ⟨hp, g, d, t + 1, os⟩ "BaseException.__getattribute__" "BaseException" "__getattribute__" (.ref x) [.str "__class__" t] [] _ (by decide +kernel) (by decide +kernel) sub (PySem.F.args_bexc_ga (.ref x) (.str "__class__" t)) ?_
  unfold Builtin.«object.__getattribute__»
  refine wpAny_bind (wpAny_of_eq (a := ((Value.ref x : Value), [Value.str "__class__" t])) (by first | rfl | (simp only [slotArgs]; rfl)) ?_)
  refine wpAny_bind (wpAny_pure (wpAny_bind (L0.at (wpAny_bind (L3.at ?_)))))
  show wpAny _ _ (holding [Value.builtin "object.__class__"] (call (.builtin "getset_descriptor.__get__") [.builtin "object.__class__", .ref x, .ref D]) >>= ret) _ _ _
  refine wpAny_bind (wpAny_holding (wpAny_call (class_get (s := ⟨hp, g, d, t + 1, os⟩) (ox := ox) (od := odc) X I hm ?_)))
  refine wpAny_pure ?_
  show wpAny _ _ (handedOut (.ref D)) _ _ _
  rw [handedOut_of (v := .ref D) rfl]
  first
    | exact wpAny_pure (wpAny_pure h)
    | exact wpAny_pure h
    | exact wpAny_pure (wpAny_bind (wpAny_pure (wpAny_pure h)))
theorem kitx_exco (hga : findIn K (.ref D) "__getattribute__" = some (some (.builtin "BaseException.__getattribute__"))) (hgt : findIn K (.ref D) "__getattr__" = some none) (hsub : subIn K (.ref D) (.type "BaseException") = some true) (hdct : hasDictIn K D = true) (ha : findIn K (.ref D) "__class__" = some (some (.builtin "object.__class__")))
    (hn : specialIn K (.builtin "object.__class__") "__get__" = some (some (.builtin "getset_descriptor.__get__"))) (htk : takesIn K (.builtin "object.__class__") = some true) (hm : mroIn K D (.type "object") = some true) {odc : Option Obj} :
    KitX K (.ref x) (.ref D) (fun h => InstAt h x ox D odc) where
  ty := fun _ _ _ I => I.type
  it := fun _ _ X _ => by
    obtain ⟨cdD, hcD, _⟩ := any_some hdct
    unfold clsIn at hcD
    split at hcD
    · rename_i c' d' cd' sl' ho
      intro A' Q' E' s' k q
      unfold isType loadHead
      exact wpAny_bind (wpAny_loadPart (k _ _ (X _ _ ho)) (wpAny_pure q))
    · cases hcD
  ne := fun h tp dd its n sl X htp => by
    obtain ⟨cdD, hcD, _⟩ := any_some hdct
    refine Bool.eq_false_iff.mpr fun q => ?_
    have e : D = tp := Value.ref.inj (beq_iff_eq.mp q)
    subst e
    unfold clsIn at hcD
    split at hcD
    · rename_i c' d' cd' sl' ho
      have z := (X _ _ ho).symm.trans htp
      cases z
    · cases hcD
  ca := fun X I k => kin_classEo hga hgt hsub hdct ha hn htk hm X I k
end
end TK

namespace TK
open PySem PySem.Spec PyProof.Rows L2
/-- the caught exception as it stands: its dict none, or told -/
def DctAt (d : Option Addr) (H : Hp) : Prop := d = none ∨ ∃ (dd : Addr) (fs : List (Str × V)), d = some dd ∧ H dd = some (.xd fs)
theorem inst_suite {X : Cx} {a D : Addr} {oe : Obj} {cls : Value} {d : Option Addr} {pn pins : List (Addr × Obj)} {σ : L2.St} {H : Hp} {s : Shared} (hz : Zc cls d oe) (hf : ∃ vs, oe.data = .fields vs) (I : Inv (X.suite a ((a, oe) :: pn)) pins σ H s) (ec : cls = .ref D) (hd : DctAt d H) :
    ∃ od, PySem.W.InstAt s.heap a oe D od := by
  obtain ⟨hget, _⟩ := I.pin (a, oe) (List.mem_append.mpr (.inl List.mem_cons_self))
  obtain ⟨vs, hv⟩ := hf
  subst ec
  rcases hd with rfl | ⟨dd, fs, rfl, e⟩
  · exact ⟨none, hget, hz.1, by unfold PySem.W.notCls; rw [hv] <;> rfl, by rw [hz.2]; exact True.intro⟩
  · have hx : ObjOk X.prog X.w H s.heap dd (.xd fs) := I.hok dd _ e
    obtain ⟨mA, hns, hr⟩ := hx
    obtain ⟨od, ho, hl⟩ := lookIn_ns hns
    exact ⟨some od, hget, hz.1, by unfold PySem.W.notCls; rw [hv] <;> rfl, by rw [hz.2]; exact ho⟩
/-- isinstance(e, c) -/
def rIsX (K : PySem.W.Frag) (D a : Addr) (cls : Value) (d : Option Addr) : List V → Hp → VK → Prop := fun xs H Q => ∃ (c : V) (cv : Value) (b : Bool), xs = [.ref a, c] ∧ cls = .ref D ∧ DctAt d H ∧ (∀ u, RelV c u → u = cv) ∧ PySem.W.kitOne K (.ref D) cv = some b ∧ Q (.bl b) H
theorem call_isX {X : Cx} {a D : Addr} {oe : Obj} {cls : Value} {d : Option Addr} {pn : List (Addr × Obj)} (C : ExcC X.K D) (hz : Zc cls d oe) (hf : ∃ vs, oe.data = .fields vs) : CallR (X.suite a ((a, oe) :: pn)) (.builtin "isinstance") (rIsX X.K D a cls d) := by
  intro pins s σ H xs us Q I r h
  obtain ⟨c, cv, b, rfl, ec, hd, hcv, e, q⟩ := h
  cases r with
  | cons rx rr =>
    cases rr with
    | cons rt rr =>
      cases rr
      cases rx
      have ec2 := hcv _ rt
      subst ec2
      obtain ⟨od, J⟩ := inst_suite hz hf I ec hd
      exact PySem.W.kia_one (kitx_exco C.hg C.hk C.hs C.hd C.ha C.hn C.ht C.hm) I.kIn J e (fun z => nomatch z) fun tk => ⟨.bl b, H, I.kept (t' := tk) fun _ _ z => z, rfl, q⟩
/-- isinstance(e, (c, ..)) -/
def rIsXT (K : PySem.W.Frag) (D a : Addr) (cls : Value) (d : Option Addr) : List V → Hp → VK → Prop := fun xs H Q => ∃ (tp : Addr) (cs : List V) (ws : List Value) (b : Bool), xs = [.ref a, .ref tp] ∧ cls = .ref D ∧ DctAt d H ∧ H tp = some (.tup cs) ∧ (∀ us, Vals cs us → us = ws) ∧ PySem.W.kitAny K (.ref D) ws = some b ∧ Q (.bl b) H
theorem call_isXT {X : Cx} {a D : Addr} {oe : Obj} {cls : Value} {d : Option Addr} {pn : List (Addr × Obj)} (C : ExcC X.K D) (hz : Zc cls d oe) (hf : ∃ vs, oe.data = .fields vs) : CallR (X.suite a ((a, oe) :: pn)) (.builtin "isinstance") (rIsXT X.K D a cls d) := by
  intro pins s σ H xs us Q I r h
  obtain ⟨tp, cs, ws, b, rfl, ec, hd, hT, hw, e, q⟩ := h
  cases r with
  | cons rx rr =>
    cases rr with
    | cons rt rr =>
      cases rr
      cases rx
      cases rt
      obtain ⟨od, J⟩ := inst_suite hz hf I ec hd
      obtain ⟨_, its, rv, o, h1, h2, n, h3⟩ := (show ObjOk X.prog X.w H s.heap tp (.tup cs) from I.hok tp _ hT)
      have e3 := hw _ rv
      subst e3
      obtain ⟨oc, odd, dt, sl⟩ := o
      simp only at h2 h3
      subst h2 h3
      exact PySem.W.kia_tup (kitx_exco C.hg C.hk C.hs C.hd C.ha C.hn C.ht C.hm) I.kIn J h1 e (fun z => nomatch z) fun tk => ⟨.bl b, H, I.kept (t' := tk) fun _ _ z => z, rfl, q⟩
end TK

/-! which classes an own exception is of, from simple facts -/
namespace TK
open PySem PySem.Spec PyProof.Rows L2 NdefX
/-- what is known of a class -/
structure ClsK (K : PySem.W.Frag) (N : Addr) : Prop where
  is_ : PySem.W.isClsIn K N = true
  ty : PySem.W.typeIn K (.ref N) = some (.type "type")
theorem kitCls_ref {K : PySem.W.Frag} {A N : Addr} {b : Bool} (h : ClsK K N) (s : PySem.W.subIn K (.ref A) (.ref N) = some b) : PySem.W.kitCls K (.ref A) (.ref N) = some b := by
  have h1 := h.is_
  unfold PySem.W.isClsIn at h1
  unfold PySem.W.kitCls
  simp [h1, h.ty, s]
theorem kit_no {K : PySem.W.Frag} {A N : Addr} (h : ClsK K N) (r : PySem.W.subIn K (.ref A) (.ref A) = some true) (s : PySem.W.subIn K (.ref A) (.ref N) = some false) : PySem.W.kitOne K (.ref A) (.ref N) = some false := by
  have ne : ((Value.ref A) == Value.ref N) = false := by
    cases e : ((Value.ref A) == Value.ref N) with
    | false => rfl
    | true =>
      have e2 := eq_of_beq e
      rw [← e2, r] at s
      cases s
  unfold PySem.W.kitOne
  rw [ne]
  exact kitCls_ref h s
theorem kit_yes {K : PySem.W.Frag} {A N : Addr} (h : ClsK K N) (s : PySem.W.subIn K (.ref A) (.ref N) = some true) : PySem.W.kitOne K (.ref A) (.ref N) = some true := by
  unfold PySem.W.kitOne
  split
  · rfl
  · exact kitCls_ref h s
theorem kitT_yes {K : PySem.W.Frag} {A : Addr} {T : String} (m : PySem.W.kitMeta T = true) (s : PySem.W.subIn K (.ref A) (.type T) = some true) : PySem.W.kitOne K (.ref A) (.type T) = some true := by
  unfold PySem.W.kitOne
  split
  · rfl
  · unfold PySem.W.kitCls
    simp [m, s]
theorem exm_self {K : PySem.W.Frag} {C : Addr} (h : ClsK K C) (b : PySem.W.subIn K (.ref C) (.type "BaseException") = some true) (r : PySem.W.subIn K (.ref C) (.ref C) = some true) : PySem.W.exmOne K (.ref C) (.ref C) = some true := by
  unfold PySem.W.exmOne
  rw [b, kitCls_ref h r]
  rfl
theorem kitAny_no {K : PySem.W.Frag} {t : Value} : ∀ {cs : List Value}, (∀ c ∈ cs, PySem.W.kitOne K t c = some false) → PySem.W.kitAny K t cs = some false
  | [], _ => rfl
  | c :: r, h => by
    unfold PySem.W.kitAny
    rw [h c (List.mem_cons_self ..)]
    exact kitAny_no fun d hd => h d (List.mem_cons_of_mem _ hd)
theorem kitAny_c {K : PySem.W.Frag} {t c : Value} {cs : List Value} (h : PySem.W.kitOne K t c = some false) (r : PySem.W.kitAny K t cs = some false) : PySem.W.kitAny K t (c :: cs) = some false := by
  unfold PySem.W.kitAny
  rw [h]
  exact r
theorem kitMeta_VE : PySem.W.kitMeta "ValueError" = true := by decide +kernel
/-- the facts of an exception's class, as the top's world tells them -/
theorem oexC_mk {K : PySem.W.Frag} {C : Addr} {nm q : Str} {N : Addr} {bs bm : List Value} {sn : List Str} {sub : List Value} {ab : Bool} {col : Option Bool} {dd : Option Addr} {k0 k1 k2 k3 k5 : Option Value}
    (lC : K.lookup C = some (excClassObj nm q C N bs bm true sn sub ab col dd k0 k1 k2 k3 k5 "ValueError.__new__")) (rf : PySem.HandSPX.refsVE bm = true) (sa : PySem.W.findIn K (.ref C) "__setattr__" = some (some (.builtin "object.__setattr__")))
    (bx : PySem.W.subIn K (.ref C) (.type "BaseException") = some true) (ty : PySem.W.typeIn K (.ref C) = some (.type "type")) (kc : PySem.W.keepIn K (.ref C) = true) : OexC K C := ⟨⟨_, _, _, _, _, _, _, _, _, _, _, _, _, _, _, lC, rf⟩, sa, bx, ty, kc⟩
end TK

/-! calls of methods that may raise, the exception's promise with the slots as they stand -/
namespace TK
open PySem PySem.Spec PyProof.Rows L2 NdefX
section
variable {X : Cx} {CX : CXT} {k : Nat} {f g C : Addr} {m : Str} {fd : FuncData} {ps : List Str} {sp : Sp} {E : L2.St → XK} {apos pos : Pos} {o e : Expr} {es : List Expr} {ta : TE} {t : TA}
def tMethAt (C : Addr) (m : Str) (sp : Sp) (E : L2.St → XK) (ta : TE) (t : TA) : TE := fun σ H Q => ta σ H fun x H1 => ∃ a dx fs, x = V.ref a ∧ H1 a = some (.ins C dx fs) ∧ fs.lookup m = none ∧
  t σ H1 fun vs H2 => sp (x :: vs) H2 Q (E σ)
/-- o.m(e, ..), that may raise -/
theorem pe_methAt {pl : Sem Bool} (he : PE X o ta) (c : Cls X.K C) (hm : Meth X.K C m f) (F : FnOk X.prog X.w X.K X.mg X.base CX k f fd ps sp) (hr : Room k X.A) (hb : Binds X.K fd ps []) (hx : ∀ σ, PassesAt CX X σ (E σ)) (ha : PA X (e :: es) t)
    (hst : starEach (e :: es) X.env = (false, eval e X.env) :: starEach es X.env := by rfl) (hpl : (backTo pos (starEach es X.env)).any (·.1) = false := by rfl)
    (ht : eval (.Call (.Attribute o m apos) (e :: es) [] pos) X.env = (do
      let ov ← eval o X.env
      standAt apos.atName
      let (f, first) ← holding [ov] (getMethod ov m pl)
      callWith pos f first (backTo pos (starEach (e :: es) X.env)) (backToKw pos (keywordEach [] X.env))) := by rfl) :
    PE X (.Call (.Attribute o m apos) (e :: es) [] pos) (tMethAt C m sp E ta t) := by
  refine ⟨fun pins s σ H Q I h => ?_⟩
  refine PySem.W.methodCall_KW (pl := pl) (thn (he.run pins s σ H _ I h) fun u s1 ⟨x, H1, I1, rx, a, dx, fs, ex, ea, l, q⟩ => ?_) ht
  subst ex
  obtain rfl : u = Value.ref a := rx
  refine getmeth_ok I1 ea c hm l ?_
  refine PySem.W.callWith_K (first := [.ref a]) (h₀ := X.base) I.ok.mod.kin hm.kp (thn (ha.run pos pins s1 σ H1 _ I1 q) fun us s2 ⟨vs, H2, I2, r, q2⟩ => ⟨I2.kIn, ?_⟩) hst hpl
  exact run_fnS (us := .ref a :: us) (vs := .ref a :: vs) F hr hb (hx σ) I2 (.cons rfl r) q2
/-- o.m(), that may raise -/
theorem pe_methAt0 {pl : Sem Bool} (he : PE X o ta) (c : Cls X.K C) (hm : Meth X.K C m f) (F : FnOk X.prog X.w X.K X.mg X.base CX k f fd ps sp) (hr : Room k X.A) (hb : Binds X.K fd ps []) (hx : ∀ σ, PassesAt CX X σ (E σ))
    (ht : eval (.Call (.Attribute o m apos) [] [] pos) X.env = (do
      let ov ← eval o X.env
      standAt apos.atName
      let (f, first) ← holding [ov] (getMethod ov m pl)
      callWith pos f first (backTo pos (starEach [] X.env)) (backToKw pos (keywordEach [] X.env))) := by rfl) :
    PE X (.Call (.Attribute o m apos) [] [] pos) (tMethAt C m sp E ta tNil) := by
  refine ⟨fun pins s σ H Q I h => ?_⟩
  refine PySem.W.methodCall_KW (pl := pl) (thn (he.run pins s σ H _ I h) fun u s1 ⟨x, H1, I1, rx, a, dx, fs, ex, ea, l, q⟩ => ?_) ht
  subst ex
  obtain rfl : u = Value.ref a := rx
  refine getmeth_ok I1 ea c hm l ?_
  exact PySem.W.callWith_K0 (first := [.ref a]) I1.kIn hm.kp (run_fnS (us := [.ref a]) (vs := [.ref a]) F hr hb (hx σ) I1 (.cons rfl .nil) q)
end
end TK

/-! wrong rounds -/
namespace TK
open PySem PySem.Spec PyProof.Rows L2 NdefX
section
variable {P : Program} {w : World} {K : PySem.W.Frag} {mg : Str → Option Value} {base : Heap}
/-! check_range, that may raise -/
def spRangeX (CB : Addr) : Sp := fun vs H Q E => ∃ a lo hi : Int, vs = [.int a, .int lo, .int hi] ∧ ((lo ≤ a ∧ a ≤ hi ∧ Q .non H) ∨ (¬ (lo ≤ a ∧ a ≤ hi) ∧ ∀ H' d, H d = none → Same H H' → H' d = some (.xd [("number", .int a)]) → E (.ref CB) (some d) H'))
theorem ok_check_rangeX {f CB fB : Addr} {fd fdB : FuncData} (F : Fun K "check_range" "check_range" s_check_range f fd) (TB : SupT P w K mg base "BadNumber" "number" "number" (fun _ => True) CB fB fdB) : FnOk P w K mg base (L2.CX P w) 3 f fd ["number", "low", "high"] (spRangeX CB) := by
  refine F.okX sc_check_range (fun vs H Q E h => ?_) (fun cdv A outer s H vs Q E hr h => ?_)
  · obtain ⟨a, lo, hi, rfl, _⟩ := h
    rfl
  · obtain ⟨a, lo, hi, rfl, q⟩ := h
    refine ⟨_, (pss_one (ps_if (pt_not (pt_chain op_le op_le (pv 1) (pv 0) (pv 2))) (pss_one (ps_raiseSup rfl TB (hr.mono (by decide)) (takes_of rfl rfl rfl rfl) (pa_cons (pv 0) pa_nil) (by rfl))) pss_nil)), ?_⟩
    refine ⟨_, rfl, _, rfl, _, _, rfl, rfl, _, rfl, ?_⟩
    by_cases h1 : lo ≤ a
    · rw [decide_eq_true h1]
      refine iteT ⟨_, rfl, _, _, rfl, rfl, _, rfl, ?_⟩
      by_cases h2 : a ≤ hi
      · rw [decide_eq_true h2]
        rcases q with ⟨_, _, q⟩ | ⟨e, _⟩
        · exact iteF q
        · exact absurd ⟨h1, h2⟩ e
      · rw [decide_eq_false h2]
        rcases q with ⟨_, e, _⟩ | ⟨_, q⟩
        · exact absurd e h2
        · exact iteT ⟨_, rfl, sup_read trivial fun d nd => q _ d nd (same_upd nd) upd_same⟩
    · rw [decide_eq_false h1]
      rcases q with ⟨e, _⟩ | ⟨_, q⟩
      · exact absurd e h1
      · exact iteF ⟨_, rfl, iteT ⟨_, rfl, sup_read trivial fun d nd => q _ d nd (same_upd nd) upd_same⟩⟩

def spCWX (K : PySem.W.Frag) (C CB : Addr) : Sp := fun vs H Q E => ∃ (p o : Addr) (t : Int) (zs os : List Nam) (R : List BRow), vs = [.ref p, .ref o, .int t] ∧ LArgs K C H p o zs os R ∧ ¬ (1 ≤ t ∧ t ≤ os.length) ∧ ∀ H' d, H d = none → Same H H' → H' d = some (.xd [("number", .int t)]) → E (.ref CB) (some d) H'
theorem ok_chain_weightsX {f C CB fR : Addr} {fd fdR : FuncData} (F : Fun K "chain_weights" "chain_weights" s_chain_weights f fd) (T : TxtR K C) (m_len : mg "len" = none) (m_tuple : mg "tuple" = none) (d_check_order : Def P w K mg base "check_order" 2 ["options", "order"] (spCheckO K))
    (G_check_range : FnOk P w K mg base (L2.CX P w) 3 fR fdR ["number", "low", "high"] (spRangeX CB)) (g_check_range : mg "check_range" = some (.ref fR)) (k_check_range : PySem.W.keepIn K (.ref fR) = true) (b_check_range : Binds K fdR ["number", "low", "high"] [])
    (d_lack_rows : Def P w K mg base "lack_rows" 4 ["roll", "order"] (spLackRows K C)) (d_chain : Def P w K mg base "_chain" 1 ["rows", "order", "option", "at"] (spChain K)) : FnOk P w K mg base (L2.CX P w) 5 f fd ["roll", "order", "at"] (spCWX K C CB) := by
  refine F.okX sc_chain_weights (fun vs H Q E h => ?_) (fun cdv A outer s H vs Q E hr h => ?_)
  · obtain ⟨p, o, t, zs, os, R, rfl, _⟩ := h
    rfl
  · obtain ⟨p, o, t, zs, os, R, rfl, la, bad, q⟩ := h
    obtain ⟨ro, r1000, hO, ok, ol, nd, z10⟩ := id la
    obtain ⟨dx, a, t0, rs, ob, hp, ha, hoc, hod, ht, hR⟩ := id ro
    have oll : (os.map vN).length = os.length := List.length_map ..
    refine ⟨_, (pss_cons (ps_expr (pe_callD d_check_order (hr.mono (by decide)) (by rfl) (pa_cons (pe_fld (pv 0) rfl) (pa_cons (pv 1) pa_nil))))
  (pss_cons (ps_expr (pe_callS (E := fun _ => E) G_check_range (hr.mono (by decide)) (by rfl) g_check_range k_check_range b_check_range (fun σ => passAt (takes_of rfl rfl rfl rfl) σ) (pa_cons (pv 2) (pa_cons pe_int (pa_cons (pe_callB call_len_seq (by rfl) m_len (by decide +kernel) (pa_cons (pv 1) pa_nil)) pa_nil)))))
  (PSs.nox (pss_cons (ps_set (i := 3) sc_chain_weights.nd rfl (.inr rfl) (pe_callD d_lack_rows (hr.mono (by decide)) (by rfl) (pa_cons (pv 0) (pa_cons (pv 1) pa_nil))))
  (pss_cons (ps_lock (ps_setLc (i := 4) (own := [("option", 5)]) (by rfl) sc_chain_weights.nd rfl rfl (sw_true rfl rfl rfl (by decide +kernel)) (pi_keys (pe_ix ix_list (pv 3) (pe_op op_sub (pv 2) pe_int) (fun _ _ => rfl))) (blkOk_by (N := ["roll", "order", "at", "rows", "chains", "option", "chain", "row"]) (sc := defScope s_chain_weights) (by decide +kernel)) (fun _ _ _ _ _ => (pg_name (i := 5) sc_chain_weights.nd rfl (.inl rfl))) (fun _ _ _ _ _ => pts_nil) (fun _ _ _ _ _ => (pe_callD d_chain (hr.mono (by decide)) (by rfl) (pa_cons (pv 3) (pa_cons (pv 1) (pa_cons (pv 5) (pa_cons (pv 2) pa_nil))))))))
  (pss_one (ps_ret (pe_callTy call_tuple_of (by rfl) m_tuple (by decide +kernel) (pa_cons (pe_lc2 (own := [("chain", 6), ("row", 7)]) (vs1 := [7]) (by rfl) sc_chain_weights.nd (pi_list (pv 4)) (blkOk_by (N := ["roll", "order", "at", "rows", "chains", "option", "chain", "row"]) (sc := defScope s_chain_weights) (by decide +kernel)) (by decide) (fun _ _ _ _ _ => (pg_name (i := 6) sc_chain_weights.nd rfl (.inl rfl))) (fun _ _ _ _ _ => pts_nil) (fun _ _ _ _ _ => (pi_listK (K := K) rfl (pv 6))) (fun _ _ _ _ _ => (pg_name (i := 7) sc_chain_weights.nd rfl (.inl rfl))) (fun _ _ _ _ _ => pts_nil) (fun _ _ _ _ _ => (pv 7))) pa_nil))))))))), ?_⟩
    refine ⟨_, rfl, p, C, dx, _, _, rfl, hp, T.cl, T.nO, fldsR_options _ _ _, _, rfl, a, o, zs, os, rfl, .inr (.inl (.inr ⟨ob, ha⟩)), hO, ok, ol, fun H1 s1 => ?_⟩
    exact ⟨_, rfl, _, rfl, o, _, rfl, .inr (same_tup s1 hO), t, 1, _, rfl, .inr ⟨by rw [oll]; exact bad, fun H' d nd s e => q H' d (none_of s1 nd) (s1.trans s) e⟩⟩
end
end TK

/-! the law's refusal -/
namespace TK
open PySem PySem.Spec PyProof.Rows L2 NdefX
section
variable {P : Program} {w : World} {K : PySem.W.Frag} {mg : Str → Option Value} {base : Heap}
structure ErrT (K : PySem.W.Frag) (mg : Str → Option Value) (CB N1 N2 N3 CH : Addr) : Prop where
  g1 : mg "Refused" = some (.ref N1)
  g2 : mg "BadCount" = some (.ref N2)
  g3 : mg "UnknownName" = some (.ref N3)
  gH : mg "HouseError" = some (.ref CH)
  k1 : PySem.W.kitOne K (.ref CB) (.ref N1) = some false
  k2 : PySem.W.kitOne K (.ref CB) (.ref N2) = some false
  k3 : PySem.W.kitOne K (.ref CB) (.ref N3) = some false
  hs : PySem.W.kitOne K (.ref CB) (.ref CH) = some true
  ve : PySem.W.kitOne K (.ref CB) (.type "ValueError") = some true
abbrev toldV (t : Int) : List V := [V.int t, .bl true, .bl true, .bl false, .bl false, .bl false]
def spRefusal (K : PySem.W.Frag) (C : Addr) : Sp := fun vs H Q _ => ∃ (p o : Addr) (t : Int) (zs os : List Nam) (R : List BRow), vs = [.ref p, .ref o, .int t] ∧ LArgs K C H p o zs os R ∧ ¬ (1 ≤ t ∧ t ≤ os.length) ∧ ∀ H' L, Same H H' → H' L = some (.lst (toldV t)) → Q (.ref L) H'
theorem ok_L_refusal {f C CB fB fC N1 N2 N3 CH : Addr} {fd fdB fdC : FuncData} (F : Fun K "_law_refusal" "_law_refusal" s_L_refusal f fd) (TB : SupT P w K mg base "BadNumber" "number" "number" (fun _ => True) CB fB fdB) (EC : ExcC K CB) (ET : ErrT K mg CB N1 N2 N3 CH)
    (m_isinstance : mg "isinstance" = none) (m_ValueError : mg "ValueError" = none)
    (G_cw : FnOk P w K mg base (L2.CX P w) 5 fC fdC ["roll", "order", "at"] (spCWX K C CB)) (g_cw : mg "chain_weights" = some (.ref fC)) (k_cw : PySem.W.keepIn K (.ref fC) = true) (b_cw : Binds K fdC ["roll", "order", "at"] []) : FnOk P w K mg base CX0 6 f fd ["_law_sheet", "_law_leave", "_law_turn"] (spRefusal K C) := by
  refine F.ok sc_L_refusal (fun vs H Q E h => ?_) (fun cdv A outer s H vs Q E hr h => ?_)
  · obtain ⟨p, o, t, zs, os, R, rfl, _⟩ := h
    rfl
  · obtain ⟨p, o, t, zs, os, R, rfl, la, bad, q⟩ := h
    refine ⟨_, pss_cons (ps_set (i := 3) sc_L_refusal.nd rfl (.inl rfl) pe_non)
      (pss_cons (ps_try_as (i := 4) (Wout := fun _ _ _ _ => False) rfl rfl sc_L_refusal.nd rfl rfl ⟨rfl, by decide, .inl TB.gC⟩ takes0
        (fun W pn xe tk _ => pss_one (ps_expr (pe_callS (E := fun σ => WE W σ) G_cw (hr.mono (by decide)) (by rfl) g_cw k_cw b_cw (fun σ => passAt tk σ) (pa_cons (pv 0) (pa_cons (pv 1) (pa_cons (pv 2) pa_nil))))))
        (fun a oe cls d pn hz hf => pss_one (ps_set (i := 3) sc_L_refusal.nd rfl (.inl rfl) (pe_lst (pa_cons (pe_xf TB.xf TB.noN hz hf (pv 4)) (pa_cons (pe_callB (call_isX EC hz hf) (by rfl) m_isinstance (by decide +kernel) (pa_cons (pv 4) (pa_cons (pe_glob (v := .ref CH) (u := .ref CH) (by rfl) ET.gH rfl) pa_nil))) (pa_cons (pe_callB (call_isX EC hz hf) (by rfl) m_isinstance (by decide +kernel) (pa_cons (pv 4) (pa_cons (pe_bltn (v := .ty "ValueError") (u := .type "ValueError") (by rfl) m_ValueError (by decide +kernel) rfl) pa_nil))) (pa_cons (pe_callB (call_isX EC hz hf) (by rfl) m_isinstance (by decide +kernel) (pa_cons (pv 4) (pa_cons (pe_glob (v := .ref N1) (u := .ref N1) (by rfl) ET.g1 rfl) pa_nil))) (pa_cons (pe_callB (call_isX EC hz hf) (by rfl) m_isinstance (by decide +kernel) (pa_cons (pv 4) (pa_cons (pe_glob (v := .ref N2) (u := .ref N2) (by rfl) ET.g2 rfl) pa_nil))) (pa_cons (pe_callB (call_isX EC hz hf) (by rfl) m_isinstance (by decide +kernel) (pa_cons (pv 4) (pa_cons (pe_glob (v := .ref N3) (u := .ref N3) (by rfl) ET.g3 rfl) pa_nil))) pa_nil))))))))))
      (pss_one (ps_ret (pv 3)))), ?_⟩
    refine ⟨_, rfl, _, rfl, _, rfl, p, o, t, zs, os, R, rfl, la, bad, fun H1 d nd s1 ed => ?_⟩
    refine ⟨true, TB.te, fun _ e0 ne0 => ?_, fun z => nomatch z⟩
    refine ⟨_, rfl, rfl, rfl, d, [(("number" : Str), V.int t)], V.int t, rfl, ed, by simp [List.lookup], ?_⟩
    refine ⟨_, rfl, .ref CH, .ref CH, true, rfl, rfl, .inr ⟨d, _, rfl, ed⟩, (fun u r => r), ET.hs, ?_⟩
    refine ⟨_, rfl, .ty "ValueError", .type "ValueError", true, rfl, rfl, .inr ⟨d, _, rfl, ed⟩, (fun u r => r), ET.ve, ?_⟩
    refine ⟨_, rfl, .ref N1, .ref N1, false, rfl, rfl, .inr ⟨d, _, rfl, ed⟩, (fun u r => r), ET.k1, ?_⟩
    refine ⟨_, rfl, .ref N2, .ref N2, false, rfl, rfl, .inr ⟨d, _, rfl, ed⟩, (fun u r => r), ET.k2, ?_⟩
    refine ⟨_, rfl, .ref N3, .ref N3, false, rfl, rfl, .inr ⟨d, _, rfl, ed⟩, (fun u r => r), ET.k3, ?_⟩
    exact ⟨(show (6 : Nat) ≤ sizeLine by decide), fun L nL => ⟨_, rfl, q _ L (s1.trans (same_upd nL)) upd_same⟩⟩
end
end TK

/-! the law's own sums of lacks -/
namespace TK
open PySem PySem.Spec PyProof.Rows L2
theorem mapI_at {zs : List Nam} {g : Nam → Int} {z : Nam} (mz : z ∈ zs) : atI ((zs.map g).map V.int) ((zs.idxOf z : Nat) : Int) = some (.int (g z)) := by
  refine atI_nat ?_
  have hl := List.idxOf_lt_length_iff.mpr mz
  rw [List.getElem?_map, List.getElem?_map, List.getElem?_eq_getElem hl, List.getElem_idxOf hl]
  rfl
theorem mapI_set {zs : List Nam} {g : Nam → Int} {z : Nam} {n : Int} (nd : zs.Nodup) (mz : z ∈ zs) : ((zs.map g).map V.int).set (zs.idxOf z) (.int n) = (zs.map fun w => if w = z then n else g w).map V.int := by
  refine List.ext_getElem? fun i => ?_
  have hl := List.idxOf_lt_length_iff.mpr mz
  by_cases e : zs.idxOf z = i
  · subst e
    rw [List.getElem?_set_self (by rw [List.length_map, List.length_map]; exact hl), List.getElem?_map, List.getElem?_map, List.getElem?_eq_getElem hl, List.getElem_idxOf hl]
    show _ = some (V.int (if z = z then n else g z))
    rw [if_pos rfl]
  · rw [List.getElem?_set_ne e, List.getElem?_map, List.getElem?_map, List.getElem?_map, List.getElem?_map]
    cases h : zs[i]? with
    | none => rfl
    | some y =>
      have : y ≠ z := fun q => e (by
        subst q
        obtain ⟨h1, h2⟩ := List.getElem?_eq_some_iff.mp h
        exact (List.getElem?_inj hl nd).mp (by rw [List.getElem?_eq_getElem hl, List.getElem_idxOf hl, h]))
      show some (V.int (g y)) = some (V.int (if y = z then n else g y))
      rw [if_neg this]
def GArgs (K : PySem.W.Frag) (H : Hp) (a g : Addr) (zs : List Nam) (es : List Addr) (ps : List BRow) : Prop := SqL K H a (zs.map vN) ∧ H g = some (.lst (es.map V.ref)) ∧ PairsAt H es ps ∧ (∀ p ∈ ps, p.1.length ≤ 10 ∧ ∀ x ∈ p.1, x ∈ zs) ∧ (∀ z ∈ zs, Nm z) ∧ zs.Nodup ∧ 1 ≤ zs.length ∧ zs.length ≤ 4
theorem GArgs.same {K : PySem.W.Frag} {H H' : Hp} {a g : Addr} {zs : List Nam} {es : List Addr} {ps : List BRow} (h : GArgs K H a g zs es ps) (s : Same H H') : GArgs K H' a g zs es ps := ⟨s.seq h.1, s _ _ h.2.1, h.2.2.1.same s, h.2.2.2⟩
theorem remO_succ {zs os : List Nam} {t : Nat} {x : Nam} (h : os[t]? = some x) : remO zs os (t + 1) = (remO zs os t).filter fun y => decide (y ≠ x) := by
  unfold remO
  rw [List.filter_filter]
  refine List.filter_congr fun y _ => ?_
  rw [List.take_add_one, h]
  by_cases h1 : y = x
  · simp [h1]
  · by_cases h2 : y ∈ os.take t <;> simp [h1, h2]
theorem remO_zero (zs os : List Nam) : remO zs os 0 = zs := by
  unfold remO
  exact List.filter_eq_self.mpr fun y _ => decide_eq_true (by rw [List.take_zero]; exact fun h => nomatch h)
theorem rem_iff {zs os : List Nam} {i : Nat} {y : Nam} (my : y ∈ zs) : y ∈ remO zs os i ↔ y ∉ os.take i := ⟨fun m => of_decide_eq_true (List.mem_filter.mp m).2, fun h => List.mem_filter.mpr ⟨my, decide_eq_true h⟩⟩
section
variable {P : Program} {w : World} {K : PySem.W.Frag} {mg : Str → Option Value} {base : Heap}
def sumsV (zs : List Nam) (ps : List BRow) (os : List Nam) : List Int := (rowsI zs ps os).map List.sum
def spMissS (K : PySem.W.Frag) : Sp := fun vs H Q _ => ∃ (a g o : Addr) (zs os : List Nam) (es : List Addr) (ps : List BRow), vs = [.ref a, .ref g, .ref o] ∧ GArgs K H a g zs es ps ∧ SqT K H o (os.map vN) ∧ BOk zs os ∧ os.length < zs.length ∧ ∀ H' L, Same H H' → H' L = some (.lst ((sumsV zs ps os).map V.int)) → Q (.ref L) H'
theorem ok_L_missing_sums {f : Addr} {fd : FuncData} (F : Fun K "_law_missing_sums" "_law_missing_sums" s_L_missing_sums f fd) (m_list : mg "list" = none) (m_max : mg "max" = none) (m_sum : mg "sum" = none) (m_int : mg "int" = none) (m_range : mg "range" = none) (m_len : mg "len" = none) (d_L_votes : Def P w K mg base "_law_votes" 1 ["_law_rows", "_law_options", "_law_left"] (spVotesL K)) : FnOk P w K mg base CX0 2 f fd ["_law_choices", "_law_given_here", "_law_leave"] (spMissS K) := by
  refine F.ok sc_L_missing_sums (fun vs H Q E h => ?_) (fun cdv A outer s H vs Q E hr h => ?_)
  · obtain ⟨a, g, o, zs, os, es, ps, rfl, _⟩ := h
    rfl
  · obtain ⟨a, g, o, zs, os, es, ps, rfl, ga, hO, ok, ol, q⟩ := h
    have z4 := ga.2.2.2.2.2.2.2
    have nd := ga.2.2.2.2.2.1
    have zl : (zs.map vN).length = zs.length := List.length_map ..
    refine ⟨_, (pss_cons (ps_set (i := 3) sc_L_missing_sums.nd rfl (.inl rfl) (pe_callTy call_list_of (by rfl) m_list (by decide +kernel) (pa_cons (pv 0) pa_nil)))
  (pss_cons (ps_set (i := 4) sc_L_missing_sums.nd rfl (.inr rfl) (pe_lc (own := [("_law_choice", 10)]) (by rfl) sc_L_missing_sums.nd (pi_list (pv 0)) (blkOk_by (N := ["_law_choices", "_law_given_here", "_law_leave", "_law_left", "_law_lacks", "_law_sums", "_law_leaver", "_law_spot", "_law_votes_here", "_law_k", "_law_choice"]) (sc := defScope s_L_missing_sums) (by decide +kernel)) (fun _ _ _ _ _ => (pg_name (i := 10) sc_L_missing_sums.nd rfl (.inl rfl))) (fun _ _ _ _ _ => pts_nil) (fun _ _ _ _ _ => pe_int)))
  (pss_cons (ps_set (i := 5) sc_L_missing_sums.nd rfl (.inl rfl) (pe_lst pa_nil))
  (pss_cons (ps_for PassesOwn.never rfl (pi_tup (pv 2)) (pg_name (i := 6) sc_L_missing_sums.nd rfl (.inr rfl))
    (pss_cons (ps_set (i := 7) sc_L_missing_sums.nd rfl (.inl rfl) (pe_bm PySem.F.plainAttrs_list PySem.F.slot_list_index PySem.F.type_list_index mt_index (pv 0) (pa_cons (pv 6) pa_nil)))
  (pss_cons (ps_set (i := 8) sc_L_missing_sums.nd rfl (.inl rfl) (pe_callD d_L_votes (hr.mono (by decide)) (by rfl) (pa_cons (pv 1) (pa_cons (pv 0) (pa_cons (pv 3) pa_nil)))))
  (pss_cons (ps_for PassesOwn.never rfl (pi_range1 (by rfl) m_range (pa_cons (pe_callB call_len_seq (by rfl) m_len (by decide +kernel) (pa_cons (pv 0) pa_nil)) pa_nil)) (pg_name (i := 9) sc_L_missing_sums.nd rfl (.inl rfl))
    (pss_one (ps_if (PW.pt (pw_and (pt_cmpR op_in_seq (pe_ix ix_list (pv 0) (pv 9) (fun _ _ => rfl)) (pv 3) (by rfl)) (pw_and1 (pt_cmpR op_ne (pv 9) (pv 7) (nomark _))))) (pss_one (ps_asg (pe_callB (call_max2 rfl) (by rfl) m_max (by decide +kernel) (pa_cons (pe_ix ix_list (pv 4) (pv 9) (fun _ _ => rfl)) (pa_cons (pe_op op_sub (pe_op op_add (pe_op op_add (pe_ix ix_list (pv 8) (pv 7) (fun _ _ => rfl)) (pe_ix ix_list (pv 4) (pv 7) (fun _ _ => rfl))) (pe_callTy call_int1 (by rfl) m_int (by decide +kernel) (pa_cons (pe_cmpR op_lt (pv 7) (pv 9) (nomark _)) pa_nil))) (pe_ix ix_list (pv 8) (pv 9) (fun _ _ => rfl))) pa_nil))) (pg_sub (pv 4) (pv 9) set_list))) pss_nil)))
  (pss_cons (ps_expr (pe_bm PySem.F.plainAttrs_list PySem.F.slot_list_append PySem.F.type_list_append mt_append (pv 5) (pa_cons (pe_callB (cr_sum rfl) (by rfl) m_sum (by decide +kernel) (pa_cons (pe_lc (own := [("_law_choice", 10)]) (by rfl) sc_L_missing_sums.nd (pi_list (pv 3)) (blkOk_by (N := ["_law_choices", "_law_given_here", "_law_leave", "_law_left", "_law_lacks", "_law_sums", "_law_leaver", "_law_spot", "_law_votes_here", "_law_k", "_law_choice"]) (sc := defScope s_L_missing_sums) (by decide +kernel)) (fun _ _ _ _ _ => (pg_name (i := 10) sc_L_missing_sums.nd rfl (.inl rfl))) (fun _ _ _ _ _ => pts_nil) (fun _ _ _ _ _ => (pe_ix (ix_listK (K := K) rfl) (pv 4) (pe_bmK (K := K) rfl PySem.F.plainAttrs_list PySem.F.slot_list_index PySem.F.type_list_index (mt_indexK (K := K) rfl) (pv 0) (pa_cons (pv 10) pa_nil)) (fun _ _ => rfl)))) pa_nil)) pa_nil)))
  (pss_one (ps_setLc (i := 3) (own := [("_law_choice", 10)]) (by rfl) sc_L_missing_sums.nd rfl rfl (sw_true rfl rfl rfl (by decide +kernel)) (pi_list (pv 3)) (blkOk_by (N := ["_law_choices", "_law_given_here", "_law_leave", "_law_left", "_law_lacks", "_law_sums", "_law_leaver", "_law_spot", "_law_votes_here", "_law_k", "_law_choice"]) (sc := defScope s_L_missing_sums) (by decide +kernel)) (fun _ _ _ _ _ => (pg_name (i := 10) sc_L_missing_sums.nd rfl (.inl rfl))) (fun _ _ _ _ _ => (pts_one (pt_cmpR op_ne (pv 10) (pv 6) (nomark _)))) (fun _ _ _ _ _ => (pv 10)))))))))
  (pss_one (ps_ret (pv 5))))))), ?_⟩
    refine ⟨_, rfl, a, _, rfl, .inl ga.1, fun L0 nL0 => ?_⟩
    have s0 := same_upd (o := .lst (zs.map vN)) nL0
    have eL0 : (upd H L0 (.lst (zs.map vN))) L0 = some (.lst (zs.map vN)) := upd_same
    generalize upd H L0 (.lst (zs.map vN)) = H0 at s0 eL0 ⊢
    refine ⟨_, rfl, a, rfl, ⟨_, s0.seq ga.1⟩, fun D nD => ?_⟩
    refine lc_list (K := K) (a := a) (xs := zs.map vN) (fun i H' => H' = upd H0 D (.lst ((zs.take i).map fun _ => V.int 0))) rfl (fun i H' _ e => e ▸ (same_upd nD).seq (s0.seq ga.1)) (fun i v H' hx hq => ?_) (fun H' hq => ?_)
    · subst hq
      obtain ⟨z, ez, rfl⟩ := vN_at hx
      have hi : i < zs.length := (List.getElem?_eq_some_iff.mp ez).1
      refine ⟨rfl, yesT ⟨_, upd_same, by rw [List.length_map, List.length_take]; exact small1000 (by omega), ?_⟩⟩
      rw [upd_twice, List.take_add_one, ez, List.map_append]
      rfl
    subst hq
    rw [List.length_map, List.take_length, show zs.map (fun _ => V.int 0) = (zs.map fun _ => (0 : Int)).map V.int by rw [List.map_map]; rfl]
    have s1' := same_upd (o := .lst ((zs.map fun _ => (0 : Int)).map V.int)) nD
    have eD1 : (upd H0 D (.lst ((zs.map fun _ => (0 : Int)).map V.int))) D = some (.lst ((zs.map fun _ => (0 : Int)).map V.int)) := upd_same
    have s1 := s0.trans s1'
    have eL1 := s1' _ _ eL0
    have LD : L0 ≠ D := fun e => by rw [e, nD] at eL0; cases eL0
    have nDH := none_of s0 nD
    generalize upd H0 D (.lst ((zs.map fun _ => (0 : Int)).map V.int)) = H1 at s1 eD1 eL1 ⊢
    refine ⟨(show (0 : Nat) ≤ sizeLine by decide), fun S nS => ?_⟩
    have sS := same_upd (o := .lst []) nS
    have eS1 : (upd H1 S (.lst [])) S = some (.lst (((sumsV zs ps os).take 0).map V.int)) := upd_same
    have LS : L0 ≠ S := ne_of_none eL1 nS
    have DS : D ≠ S := ne_of_none eD1 nS
    have nSH := none_of s1 nS
    have eD2 := sS _ _ eD1
    have eL2 := sS _ _ eL1
    have s2 := s1.trans sS
    generalize upd H1 S (.lst []) = H2 at sS eS1 eD2 eL2 s2 ⊢
    clear s1' eD1 eL1 eL0 s0 s1 sS nL0 nD
    refine ⟨_, rfl, o, rfl, ⟨_, same_tup s2 hO⟩, for_tup (K := K) (a := o) (xs := os.map vN) (fun i σ H' => ∃ (L : Addr) (g2 : Nam → Int) (y6 y7 y8 y9 : Option V), σ = [some (.ref a), some (.ref g), some (.ref o), some (.ref L), some (.ref D), some (.ref S), y6, y7, y8, y9, none] ∧ Same H H' ∧ L ≠ D ∧ L ≠ S ∧ H' L = some (.lst ((remO zs os i).map vN)) ∧ H' D = some (.lst ((zs.map g2).map V.int)) ∧ H' S = some (.lst (((sumsV zs ps os).take i).map V.int)) ∧ ∀ y ∈ keyO zs os i, g2 y = lkN zs ps os i y)
      ⟨L0, _, _, _, _, _, rfl, s2, LD, LS, by rw [remO_zero]; exact eL2, eD2, eS1, fun _ _ => rfl⟩ (fun i σ H' _ hq => ?_) ?_ ?_⟩
    · obtain ⟨_, _, _, _, _, _, rfl, s3, _⟩ := hq
      exact same_tup s3 hO
    · rintro i x σ H2 hx ⟨L, g2, y6, y7, y8, y9, rfl, s2, LD2, LS2, eL, eD, eS, hg⟩
      obtain ⟨z, ez, rfl⟩ := vN_at hx
      have hi : i < os.length := (List.getElem?_eq_some_iff.mp ez).1
      have ox := os_at ez
      have mz := rem_has ok ez
      have mzz := rem_sub z mz
      have rl := rem_len (zs := zs) (os := os) (t := i)
      have rnd := rem_nd (os := os) (t := i) nd
      obtain ⟨hA, hG, hP, hS, nm, _, z1, _⟩ := ga.same s2
      obtain ⟨f1, f2, f3⟩ := nmV_first nd mzz
      refine ⟨_, rfl, .inl ⟨rfl, _, hA⟩, _, rfl, a, _, _, _, _, rfl, rfl, hA, rfl, nms_flat _, f1, f2, f3, ?_⟩
      refine ⟨_, rfl, _, rfl, _, rfl, g, a, L, zs, remO zs os i, es, ps, rfl, hG, hP, hS, hA, nm, nd, by omega, lstAt eL, fun H3 t nt s3 et => ?_⟩
      have s23 := s2.trans s3
      have eL3 := s3 _ _ eL
      have eD3 := s3 _ _ eD
      have eS3 := s3 _ _ eS
      have tD : t ≠ D := fun e => by rw [e, eD] at nt; cases nt
      have tS : t ≠ S := fun e => by rw [e, eS] at nt; cases nt
      have hgx : g2 z = lkN zs ps os i z := hg z (rem_key z mz)
      have hgx2 : lkN zs ps os (i + 1) z = lkN zs ps os i z := by
        show stepN zs ps (remO zs os i) (osAt os i) (lkN zs ps os i) z = _
        unfold stepN
        rw [ox, if_pos rfl]
      refine ⟨_, rfl, a, _, rfl, .inl (s23.seq ga.1), _, rfl, by omega, by omega, for_range (fun j σ H' => ∃ (g3 : Nam → Int) (y9 : Option V), σ = [some (.ref a), some (.ref g), some (.ref o), some (.ref L), some (.ref D), some (.ref S), some (vN z), some (.int ((zs.idxOf z : Nat) : Int)), some (.ref t), y9, none] ∧ Same H H' ∧ H' L = some (.lst ((remO zs os i).map vN)) ∧ H' t = some (.lst ((votesZ zs ps (remO zs os i)).map V.int)) ∧ H' D = some (.lst ((zs.map g3).map V.int)) ∧ H' S = some (.lst (((sumsV zs ps os).take i).map V.int)) ∧ ∀ (k : Nat) (y : Nam), zs[k]? = some y → y ∈ remO zs os i → g3 y = if k < j then lkN zs ps os (i + 1) y else lkN zs ps os i y)
        ⟨g2, _, rfl, s23, eL3, et, eD3, eS3, fun k y hk my => by rw [if_neg (Nat.not_lt_zero _)]; exact hg y (rem_key y my)⟩ ?_ ?_⟩
      · rintro j σ H4 hj ⟨g3, y9, rfl, s4, eL4, et4, eD4, eS4, hg3⟩
        have hj : j < zs.length := by omega
        obtain ⟨y, ey⟩ : ∃ y, zs[j]? = some y := ⟨_, List.getElem?_eq_getElem hj⟩
        have myz := List.mem_of_getElem? ey
        have jy : zs.idxOf y = j := by
          obtain ⟨h1, h2⟩ := List.getElem?_eq_some_iff.mp ey
          exact (List.getElem?_inj (List.idxOf_lt_length_iff.mpr myz) nd).mp (by rw [List.getElem?_eq_getElem (List.idxOf_lt_length_iff.mpr myz), List.getElem_idxOf, ey])
        have hA4 := s4.seq ga.1
        have ay : atI (zs.map vN) (0 + (j : Int)) = some (vN y) := atI_in (by omega) (by rw [show (0 + (j : Int)).toNat = j by omega, List.getElem?_map, ey]; rfl)
        refine ⟨_, rfl, _, rfl, _, _, _, _, rfl, rfl, hA4, ay, _, rfl, L, _, rfl, .inl (lstAt eL4), rfl, nms_flat _, ?_⟩
        rw [in_nm]
        refine ⟨_, rfl, ?_⟩
        by_cases my : y ∈ remO zs os i
        · rw [decide_eq_true my]
          refine iteT ⟨_, rfl, _, rfl, rfl, _, rfl, ?_⟩
          have hgy : g3 y = lkN zs ps os i y := by rw [hg3 j y ey my, if_neg (Nat.lt_irrefl _)]
          have hgz : g3 z = lkN zs ps os i z := by
            have e : zs[zs.idxOf z]? = some z := by rw [List.getElem?_eq_getElem (List.idxOf_lt_length_iff.mpr mzz), List.getElem_idxOf]
            rw [hg3 _ z e mz, hgx2, ite_self]
          by_cases hyz : y = z
          · rw [show (!decide (V.int (0 + (j : Int)) = V.int ((zs.idxOf z : Nat) : Int))) = false by rw [decide_eq_true (congrArg V.int (by rw [← hyz, jy]; omega))]; rfl]
            refine iteF ⟨g3, _, rfl, s4, eL4, et4, eD4, eS4, fun k u hk mu => ?_⟩
            rw [hg3 k u hk mu]
            by_cases q : k < j
            · rw [if_pos q, if_pos (by omega)]
            · rw [if_neg q]
              by_cases q2 : k = j
              · subst q2
                rw [if_pos (Nat.lt_succ_self _)]
                have : u = z := (Option.some.inj (hk.symm.trans ey)).trans hyz
                rw [this, hgx2]
              · rw [if_neg (by omega)]
          · have ez2 : zs.idxOf z ≠ j := fun h => hyz (by
              have h1 := List.getElem_idxOf (List.idxOf_lt_length_iff.mpr mzz)
              have h2 := (List.getElem?_eq_some_iff.mp ey).2
              rw [← h1, ← h2]
              congr 1
              exact h.symm)
            rw [show (!decide (V.int (0 + (j : Int)) = V.int ((zs.idxOf z : Nat) : Int))) = true by rw [decide_eq_false (fun e => ez2 (by have := V.int.inj e; omega))]; rfl]
            have aDy : atI ((zs.map g3).map V.int) (0 + (j : Int)) = some (.int (g3 y)) := by
              have := mapI_at (g := g3) myz
              rw [jy] at this
              rw [Int.zero_add]
              exact this
            have avy : atI ((votesZ zs ps (remO zs os i)).map V.int) (0 + (j : Int)) = some (.int (votesR ps (remO zs os i) y)) := by
              have := votesZ_at (ps := ps) (ks := remO zs os i) myz
              rw [jy] at this
              rw [Int.zero_add]
              exact this
            have ms : ∀ n : Int, ((zs.map g3).map V.int).set j (.int n) = (zs.map fun w => if w = y then n else g3 w).map V.int := fun n => by
              have := mapI_set (g := g3) (n := n) nd myz
              rw [jy] at this
              exact this
            refine iteT ⟨_, rfl, _, rfl, _, _, _, _, rfl, rfl, lstAt eD4, aDy, ?_⟩
            refine ⟨_, rfl, _, rfl, _, _, _, _, rfl, rfl, lstAt et4, votesZ_at mzz, ?_⟩
            refine ⟨_, rfl, _, rfl, _, _, _, _, rfl, rfl, lstAt eD4, mapI_at mzz, _, _, rfl, rfl, ?_⟩
            refine ⟨_, rfl, _, rfl, _, _, rfl, rfl, .inr ⟨_, rfl, _, _, rfl, rfl, _, rfl, _, rfl, _, _, _, _, rfl, rfl, lstAt et4, avy, _, _, rfl, rfl, ?_⟩⟩
            refine ⟨_, _, rfl, ?_⟩
            refine ⟨_, rfl, _, rfl, D, _, _, j, rfl, rfl, eD4, by rw [Int.zero_add]; exact ixN_at (by rw [List.length_map, List.length_map]; exact hj), ?_⟩
            rw [ms]
            refine ⟨_, _, rfl, same_at s4 nDH, by rw [upd_ne LD2]; exact eL4, by rw [upd_ne tD]; exact et4, upd_same, by rw [upd_ne DS.symm]; exact eS4, fun k u hk mu => ?_⟩
            by_cases q2 : k = j
            · subst q2
              obtain rfl : u = y := Option.some.inj (hk.symm.trans ey)
              rw [if_pos (Nat.lt_succ_self _)]
              show (if u = u then _ else _) = stepN zs ps (remO zs os i) (osAt os i) (lkN zs ps os i) u
              rw [if_pos rfl]
              unfold stepN
              rw [ox, if_neg hyz, hgz, hgy]
              have hl : (if decide (((zs.idxOf z : Nat) : Int) < 0 + (k : Int)) = true then (1 : Int) else 0) = leadN zs z u := by
                unfold leadN
                rw [jy]
                by_cases h : zs.idxOf z < k
                · rw [if_neg (show ¬ k < zs.idxOf z by omega), decide_eq_true (show ((zs.idxOf z : Nat) : Int) < 0 + (k : Int) by omega)]
                  rfl
                · rw [if_pos (show k < zs.idxOf z by omega), decide_eq_false (show ¬ ((zs.idxOf z : Nat) : Int) < 0 + (k : Int) by omega)]
                  rfl
              rw [hl]
              generalize votesR ps (remO zs os i) z = v1
              generalize votesR ps (remO zs os i) u = v2
              generalize lkN zs ps os i z = l1
              generalize lkN zs ps os i u = l2
              generalize leadN zs z u = l3
              split <;> omega
            · have uy : u ≠ y := fun e => q2 ((List.getElem?_inj (List.getElem?_eq_some_iff.mp hk).1 nd).mp (by rw [hk, ey, e]))
              show (if u = y then _ else g3 u) = _
              rw [if_neg uy, hg3 k u hk mu]
              by_cases q : k < j
              · rw [if_pos q, if_pos (by omega)]
              · rw [if_neg q, if_neg (by omega)]
        · rw [decide_eq_false my]
          refine iteF (iteF ⟨g3, _, rfl, s4, eL4, et4, eD4, eS4, fun k u hk mu => ?_⟩)
          rw [hg3 k u hk mu]
          have kj : k ≠ j := fun e => my (by
            subst e
            rw [hk] at ey
            rw [← Option.some.inj ey]
            exact mu)
          by_cases q : k < j
          · rw [if_pos q, if_pos (by omega)]
          · rw [if_neg q, if_neg (by omega)]
      · rintro σ H4 ⟨g3, y9, rfl, s4, eL4, et4, eD4, eS4, hg3⟩
        have hg4 : ∀ y ∈ remO zs os i, g3 y = lkN zs ps os (i + 1) y := fun y my => by
          obtain ⟨k, hk, e⟩ := List.mem_iff_getElem.mp (rem_sub y my)
          rw [hg3 k y (by rw [List.getElem?_eq_getElem hk, e]) my, if_pos (by omega)]
        have hA4 := s4.seq ga.1
        refine ⟨_, rfl, .inl ⟨rfl, _, lstAt eS4⟩, _, rfl, L, rfl, ⟨_, lstAt eL4⟩, fun W nW => ?_⟩
        refine lc_list (K := K) (a := L) (xs := (remO zs os i).map vN) (fun j H' => H' = upd H4 W (.lst ((((remO zs os i).take j).map (lkN zs ps os (i + 1))).map V.int))) rfl (fun j H' _ e => e ▸ lstAt ((same_upd nW) _ _ eL4)) (fun j v H' hx2 hq => ?_) (fun H' hq => ?_)
        · subst hq
          obtain ⟨y, ey, rfl⟩ := vN_at hx2
          have my := List.mem_of_getElem? ey
          obtain ⟨k1, k2, k3⟩ := nmV_first nd (rem_sub y my)
          have sW := same_upd (o := .lst ((((remO zs os i).take j).map (lkN zs ps os (i + 1))).map V.int)) nW
          refine ⟨rfl, yesT ⟨_, rfl, _, rfl, .inl ⟨rfl, _, sW.seq hA4⟩, _, rfl, a, _, _, _, _, rfl, rfl, sW.seq hA4, rfl, nms_flat _, k1, k2, k3, D, _, _, _, rfl, rfl, lstAt (sW _ _ eD4), mapI_at (rem_sub y my), _, upd_same, ?_, ?_⟩⟩
          · rw [List.length_map, List.length_map, List.length_take]
            exact small1000 (by omega)
          · rw [upd_twice, List.take_add_one, ey, List.map_append, List.map_append, hg4 y my]
            rfl
        subst hq
        rw [List.length_map, List.take_length]
        have sW := same_upd (o := .lst (((remO zs os i).map (lkN zs ps os (i + 1))).map V.int)) nW
        refine ⟨W, _, rfl, lstAt upd_same, ?_⟩
        have s5 := s4.trans sW
        have eL5 := sW _ _ eL4
        have eD5 := sW _ _ eD4
        have eS5 := sW _ _ eS4
        have sl : (sumsV zs ps os).length = os.length := by unfold sumsV; rw [List.length_map, rowsI_len]
        have sat : (sumsV zs ps os)[i]? = some (((remO zs os i).map (lkN zs ps os (i + 1))).sum) := by
          unfold sumsV
          rw [List.getElem?_map, rowsI_at hi]
          rfl
        generalize upd H4 W (.lst (((remO zs os i).map (lkN zs ps os (i + 1))).map V.int)) = H5 at s5 eL5 eD5 eS5 ⊢
        refine ⟨S, _, _, rfl, rfl, eS5, by rw [List.length_map, List.length_take]; exact small1000 (by omega), ?_⟩
        have s6 := same_at (o := .lst (((sumsV zs ps os).take i).map V.int ++ [V.int ((remO zs os i).map (lkN zs ps os (i + 1))).sum])) s5 nSH
        have eS6 : (upd H5 S (.lst (((sumsV zs ps os).take i).map V.int ++ [V.int ((remO zs os i).map (lkN zs ps os (i + 1))).sum]))) S = some (.lst (((sumsV zs ps os).take (i + 1)).map V.int)) := by
          rw [List.take_add_one, sat, List.map_append]
          exact upd_same
        have eL6 : (upd H5 S (.lst (((sumsV zs ps os).take i).map V.int ++ [V.int ((remO zs os i).map (lkN zs ps os (i + 1))).sum]))) L = some (.lst ((remO zs os i).map vN)) := by rw [upd_ne LS2]; exact eL5
        have eD6 : (upd H5 S (.lst (((sumsV zs ps os).take i).map V.int ++ [V.int ((remO zs os i).map (lkN zs ps os (i + 1))).sum]))) D = some (.lst ((zs.map g3).map V.int)) := by rw [upd_ne DS]; exact eD5
        generalize upd H5 S (.lst (((sumsV zs ps os).take i).map V.int ++ [V.int ((remO zs os i).map (lkN zs ps os (i + 1))).sum])) = H6 at s6 eS6 eL6 eD6 ⊢
        refine ⟨_, rfl, L, rfl, ⟨_, lstAt eL6⟩, fun W2 nW2 => ?_⟩
        refine lc_list (K := K) (a := L) (xs := (remO zs os i).map vN) (fun j H' => H' = upd H6 W2 (.lst ((((remO zs os i).take j).filter fun y => decide (y ≠ z)).map vN))) rfl (fun j H' _ e => e ▸ lstAt ((same_upd nW2) _ _ eL6)) (fun j v H' hx2 hq => ?_) (fun H' hq => ?_)
        · subst hq
          obtain ⟨y, ey, rfl⟩ := vN_at hx2
          refine ⟨rfl, _, rfl, _, rfl, rfl, _, rfl, ?_⟩
          rw [eq_nm, flt_snoc ey]
          by_cases hyz : y = z
          · rw [decide_eq_true hyz, if_neg (by simp [hyz]), List.append_nil]
            exact iteF rfl
          · rw [decide_eq_false hyz, if_pos (by simp [hyz])]
            refine iteT ⟨_, rfl, _, upd_same, ?_, by rw [upd_twice, List.map_append]; rfl⟩
            have l1 : (((remO zs os i).take j).filter fun y => decide (y ≠ z)).length ≤ ((remO zs os i).take j).length := List.length_filter_le _ _
            rw [List.length_take] at l1
            rw [List.length_map]
            exact small1000 (by omega)
        subst hq
        rw [List.length_map, List.take_length, ← remO_succ ez]
        have sW2 := same_upd (o := .lst ((remO zs os (i + 1)).map vN)) nW2
        exact ⟨W2, g3, _, _, _, _, rfl, s6.trans sW2, (ne_of_none eD6 nW2).symm, (ne_of_none eS6 nW2).symm, upd_same, sW2 _ _ eD6, sW2 _ _ eS6, fun y my => hg4 y my⟩
    · rintro σ H2 ⟨L, g2, y6, y7, y8, y9, rfl, s2, LD2, LS2, eL, eD, eS, hg⟩
      have sl : (sumsV zs ps os).length = os.length := by unfold sumsV; rw [List.length_map, rowsI_len]
      rw [List.length_map, List.take_of_length_le (by omega)] at eS
      exact ⟨_, rfl, q H2 S s2 eS⟩
end
end TK

/-! the law's own value of a ballot -/
namespace TK
open PySem PySem.Spec PyProof.Rows L2
theorem map_snoc_sum (f : WRow → Int) {ws : List WRow} {i : Nat} {x : WRow} (h : ws[i]? = some x) : (ws.take (i + 1)).map f = (ws.take i).map f ++ [f x] := by
  rw [List.take_add_one, h, List.map_append]
  rfl
section
variable {P : Program} {w : World} {K : PySem.W.Frag} {mg : Str → Option Value} {base : Heap}
/-! _law_value -/
def spVal (K : PySem.W.Frag) : Sp := fun vs H Q _ => ∃ (o l e : Addr) (zs os b : List Nam) (es : List Addr) (ws : List WRow), vs = [.ref o, .ref l, .ref e] ∧ SqT K H o (os.map vN) ∧ H l = some (.tup (es.map V.ref)) ∧ WsAt H es ws ∧ (∀ x ∈ ws, WOk zs os x) ∧ SqT K H e (b.map vN) ∧ b.length ≤ 10 ∧ (∀ z ∈ b, Nm z) ∧ ∀ H', Same H H' → Q (.int (valB os ws b)) H'
theorem ok_L_value {f : Addr} {fd : FuncData} (F : Fun K "_law_value" "_law_value" s_L_value f fd) : FnOk P w K mg base CX0 1 f fd ["_law_leave", "_law_rows", "_law_ballot"] (spVal K) := by
  refine F.ok sc_L_value (fun vs H Q E h => ?_) (fun cdv A outer s H vs Q E hr h => ?_)
  · obtain ⟨o, l, e, zs, os, b, es, ws, rfl, _⟩ := h
    rfl
  · obtain ⟨o, l, e0, zs, os, b, es, ws, rfl, hO, hL, hW, hk, hB, b10, nm, q⟩ := h
    have el : (es.map V.ref).length = ws.length := by rw [List.length_map, hW.1]
    refine ⟨_, (pss_cons (ps_set (i := 3) sc_L_value.nd rfl (.inl rfl) pe_int)
  (pss_cons (ps_for PassesOwn.never rfl (pi_tup (pv 1)) (pg_tup (by rfl) (pgs_cons (pg_name (i := 4) sc_L_value.nd rfl (.inr rfl)) (pgs_cons (pg_name (i := 5) sc_L_value.nd rfl (.inl rfl)) (pgs_cons (pg_name (i := 6) sc_L_value.nd rfl (.inl rfl)) pgs_nil))))
    (pss_cons (ps_setLc (i := 7) (own := [("_law_other", 8)]) (by rfl) sc_L_value.nd rfl rfl (sw_true rfl rfl rfl (by decide +kernel)) (pi_tup (pv 2)) (blkOk_by (N := ["_law_leave", "_law_rows", "_law_ballot", "_law_value_here", "_law_turn", "_law_choice", "_law_weight", "_law_tops", "_law_other"]) (sc := defScope s_L_value) (by decide +kernel)) (fun _ _ _ _ _ => (pg_name (i := 8) sc_L_value.nd rfl (.inl rfl))) (fun _ _ _ _ _ => (pts_one (pt_cmpR (op_notIn_seqK (K := K) rfl) (pv 8) (pe_slice (sl_tupK (K := K) rfl) (pv 0) po_none (po_some (pe_op op_sub (pv 4) pe_int))) (by rfl)))) (fun _ _ _ _ _ => (pv 8)))
  (pss_cons (ps_cut (ps_if (PW.pt (pw_and (pt_cmpR (op_neD hr.units) (pv 7) (pe_lst pa_nil) (nomark _)) (pw_and1 (pt_cmpR op_eq (pe_ix ix_list (pv 7) pe_int (fun _ _ => rfl)) (pv 5) (nomark _))))) (pss_one (ps_set (i := 3) sc_L_value.nd rfl (.inl rfl) (pe_op op_add (pv 3) (pv 6)))) pss_nil))
  (pss_one (ps_if (PW.pt (pw_and (pt_cmpR (op_neD hr.units) (pv 7) (pe_lst pa_nil) (nomark _)) (pw_and1 (pt_cmpR op_eq (pe_ix ix_list (pv 7) pe_int (fun _ _ => rfl)) (pe_ix ix_tup (pv 0) (pe_op op_sub (pv 4) pe_int) (fun _ _ => rfl)) (nomark _))))) (pss_one (ps_set (i := 3) sc_L_value.nd rfl (.inl rfl) (pe_op op_sub (pv 3) (pv 6)))) pss_nil)))))
  (pss_one (ps_ret (pv 3))))), ?_⟩
    refine ⟨_, rfl, l, rfl, ⟨_, tupAt hL⟩, for_tup (K := K) (a := l) (xs := es.map V.ref) (fun i σ H' => ∃ (y5 y6 y7 y8 y9 : Option V), σ = [some (.ref o), some (.ref l), some (.ref e0), some (.int (valB os (ws.take i) b)), y5, y6, y7, y8, y9] ∧ Same H H') ⟨_, _, _, _, _, rfl, Same.refl _⟩ (fun i σ H' _ hq => ?_) ?_ ?_⟩
    · obtain ⟨y5, y6, y7, y8, y9, rfl, s1⟩ := hq
      exact tupAt (s1 _ _ hL)
    · rintro i x σ H1 hx ⟨y5, y6, y7, y8, y9, rfl, s1⟩
      obtain ⟨e, ⟨k, z, m⟩, rfl, ex, he⟩ := ws_at (hW.same s1) hx
      have he : H1 e = some (.tup [.int ((k : Int) + 1), vN z, .int m]) := he
      have wk := hk _ (List.mem_of_getElem? ex)
      have hne := wok_ne wk
      obtain ⟨k1, _, _, _⟩ := wk
      have k1 : k < os.length := k1
      have hne : leavN os k ≠ z := hne
      have hl := leav_at k1
      have em : (k : Int) + 1 - 1 = (k : Int) := by omega
      refine ⟨_, _, rfl, tupAt he, rfl, _, _, rfl, _, _, rfl, _, _, rfl, rfl, ?_⟩
      refine ⟨_, rfl, e0, rfl, ⟨_, same_tup s1 hB⟩, fun D nD => ?_⟩
      refine lc_tup (K := K) (a := e0) (xs := b.map vN) (fun j H' => Same H1 H' ∧ H' D = some (.lst (((b.take j).filter fun z => decide (z ∉ os.take k)).map vN))) ⟨same_upd nD, upd_same⟩ (fun j H' _ hq => same_tup (s1.trans hq.1) hB) (fun j v H' hx2 hq => ?_) (fun H2 hq => ?_)
      · obtain ⟨s2, eD⟩ := hq
        obtain ⟨y, ey, rfl⟩ := vN_at hx2
        have hj : j < b.length := (List.getElem?_eq_some_iff.mp ey).1
        refine ⟨rfl, _, rfl, _, rfl, _, rfl, _, _, rfl, rfl, _, rfl, o, _, rfl, same_tup (s1.trans s2) hO, ?_, fun t nt => ?_⟩
        · rw [em]
          intro h
          have h := h.2
          rw [HT.sIx_nat, List.length_map] at h
          omega
        rw [em, cut_to_l, ← List.map_take] at *
        have st := same_upd (o := .tup ((os.take k).map vN)) nt
        refine ⟨t, _, rfl, .inr (tupAt upd_same), rfl, nms_flat _, _, rfl, ?_⟩
        rw [notin_nm, flt_snoc ey]
        by_cases h : y ∈ os.take k
        · rw [decide_eq_true h, if_neg (show ¬ decide (y ∉ os.take k) = true by simp [h]), List.append_nil]
          exact iteF ⟨s2.trans st, st _ _ eD⟩
        · rw [decide_eq_false h, if_pos (show decide (y ∉ os.take k) = true by simp [h])]
          refine iteT ⟨_, rfl, _, st _ _ eD, ?_, ?_⟩
          · have l1 : ((b.take j).filter fun z => decide (z ∉ os.take k)).length ≤ (b.take j).length := List.length_filter_le _ _
            rw [List.length_take] at l1
            rw [List.length_map]
            exact small1000 (by omega)
          · exact ⟨same_at (s2.trans st) nD, by rw [List.map_append]; exact upd_same⟩
      obtain ⟨s2, eD⟩ := hq
      rw [List.length_map, List.take_length] at eD
      have hd : firstN os b k = (b.filter fun z => decide (z ∉ os.take k)).head? := List.head?_filter.symm
      have hnm : ∀ z ∈ b.filter fun z => decide (z ∉ os.take k), NmH z := fun z m => .inl (nm z (List.mem_filter.mp m).1)
      generalize (b.filter fun z => decide (z ∉ os.take k)) = tl at eD hd hnm
      have s12 := s1.trans s2
      have esn : valB os (ws.take (i + 1)) b = valB os (ws.take i) b + rowV os b (k, z, m) := by
        unfold valB
        rw [map_snoc_sum _ ex, List.sum_append]
        show _ + (_ + (0 : Int)) = _
        rw [Int.add_zero]
      have erv : rowV os b (k, z, m) = (if firstN os b k = some z then m else 0) - if firstN os b k = some (leavN os k) then m else 0 := by
        show (if firstN os b k = some z then m else if firstN os b k = os[k]? then -m else 0) = _
        rw [hl]
        by_cases h1 : firstN os b k = some z
        · rw [if_pos h1, if_pos h1, if_neg (fun h => hne (Option.some.inj (h.symm.trans h1)))]
          omega
        · rw [if_neg h1, if_neg h1]
          by_cases h2 : firstN os b k = some (leavN os k)
          · rw [if_pos h2, if_pos h2]; omega
          · rw [if_neg h2, if_neg h2]; rfl
      refine ⟨fun σ H' => σ = [some (.ref o), some (.ref l), some (.ref e0), some (.int (valB os (ws.take i) b + if firstN os b k = some z then m else 0)), some (.int ((k : Int) + 1)), some (vN z), some (.int m), some (.ref D), y9] ∧ Same H H' ∧ H' D = some (.lst (tl.map vN)), ?_, ?_⟩
      · refine ⟨_, rfl, Nat.zero_le _, fun N nN => ?_⟩
        have sN := same_upd (o := .lst []) nN
        obtain ⟨d1, d3, d4⟩ := namesH_dp (K := K) (H := upd H2 N (.lst [])) hnm
        refine ⟨.list _, .list [], .lst (lstAt (sN _ _ eD)) d1, .lst (lstAt upd_same) .nil, nmL_shape d3 d4, rfl, _, rfl, ?_⟩
        rw [nil_eqv, List.length_map]
        have eDN := sN _ _ eD
        have sHN := s12.trans sN
        generalize upd H2 N (.lst []) = H3 at sN eDN sHN ⊢
        cases tl with
        | nil =>
          rw [decide_eq_true (show ([] : List Nam).length = 0 from rfl)]
          refine iteF (iteF ⟨by rw [if_neg (by rw [hd]; exact fun h => nomatch h), Int.add_zero]; rfl, sHN, eDN⟩)
        | cons u ls =>
          rw [decide_eq_false (show ¬ (u :: ls).length = 0 from Nat.succ_ne_zero _)]
          refine iteT ⟨_, rfl, _, _, _, vN u, rfl, rfl, lstAt eDN, atI_in (by decide) rfl, _, rfl, rfl, _, rfl, ?_⟩
          rw [eq_nm]
          have hd : firstN os b k = some u := hd
          by_cases hu : u = z
          · rw [decide_eq_true hu]
            refine iteT ⟨_, rfl, _, rfl, _, _, rfl, rfl, by rw [if_pos (show firstN os b k = some z by rw [hd, hu])]; rfl, sHN, eDN⟩
          · rw [decide_eq_false hu]
            refine iteF ⟨by rw [if_neg (by rw [hd]; exact fun h => hu (Option.some.inj h)), Int.add_zero]; rfl, sHN, eDN⟩
      rintro σ H3 ⟨rfl, s3, eD3⟩
      refine ⟨_, rfl, Nat.zero_le _, fun N nN => ?_⟩
      have sN := same_upd (o := .lst []) nN
      obtain ⟨d1, d3, d4⟩ := namesH_dp (K := K) (H := upd H3 N (.lst [])) hnm
      refine ⟨.list _, .list [], .lst (lstAt (sN _ _ eD3)) d1, .lst (lstAt upd_same) .nil, nmL_shape d3 d4, rfl, _, rfl, ?_⟩
      rw [nil_eqv, List.length_map]
      have eDN := sN _ _ eD3
      have sHN := s3.trans sN
      generalize upd H3 N (.lst []) = H4 at sN eDN sHN ⊢
      cases tl with
      | nil =>
        rw [decide_eq_true (show ([] : List Nam).length = 0 from rfl)]
        have hd : firstN os b k = none := hd
        refine iteF (iteF ⟨some (.int ((k : Int) + 1)), some (vN z), some (.int m), some (.ref D), y9, ?_, sHN⟩)
        have e2 : valB os (ws.take (i + 1)) b = valB os (ws.take i) b + (if firstN os b k = some z then m else 0) := by
          rw [esn, erv, hd, if_neg (fun h => nomatch h), if_neg (fun h => nomatch h)]
          rfl
        rw [e2]
      | cons u ls =>
        rw [decide_eq_false (show ¬ (u :: ls).length = 0 from Nat.succ_ne_zero _)]
        have hd : firstN os b k = some u := hd
        refine iteT ⟨_, rfl, _, _, _, vN u, rfl, rfl, lstAt eDN, atI_in (by decide) rfl, _, rfl, _, rfl, _, _, rfl, rfl, _, _, _, vN (leavN os k), rfl, rfl, same_tup sHN hO, ?_, rfl, _, rfl, ?_⟩
        · rw [em]
          refine atI_in (by omega) ?_
          rw [Int.toNat_natCast, List.getElem?_map, hl]
          rfl
        rw [eq_nm]
        by_cases hu : u = leavN os k
        · rw [decide_eq_true hu]
          refine iteT ⟨_, rfl, _, rfl, _, _, rfl, rfl, some (.int ((k : Int) + 1)), some (vN z), some (.int m), some (.ref D), y9, ?_, sHN⟩
          have e2 : valB os (ws.take (i + 1)) b = valB os (ws.take i) b + (if firstN os b k = some z then m else 0) - m := by
            rw [esn, erv, if_pos (show firstN os b k = some (leavN os k) by rw [hd, hu])]
            omega
          rw [e2]
          rfl
        · rw [decide_eq_false hu]
          refine iteF ⟨some (.int ((k : Int) + 1)), some (vN z), some (.int m), some (.ref D), y9, ?_, sHN⟩
          have e2 : valB os (ws.take (i + 1)) b = valB os (ws.take i) b + (if firstN os b k = some z then m else 0) := by
            rw [esn, erv, if_neg (show ¬ firstN os b k = some (leavN os k) by rw [hd]; exact fun h => hu (Option.some.inj h)), Int.sub_zero]
          rw [e2]
    · rintro σ H1 ⟨y5, y6, y7, y8, y9, rfl, s1⟩
      rw [el, List.take_length]
      exact ⟨_, rfl, q H1 s1⟩
end
end TK

/-! right rows, what they show -/
namespace TK
open PySem PySem.Spec PyProof.Rows L2
theorem slA_to {K : PySem.W.Frag} {H : Hp} {o : Addr} {os : List Nam} {n : Nat} {Q : VK} (hO : SqT K H o (os.map vN)) (k : ∀ H' p, Same H H' → SqT K H' p ((os.take n).map vN) → Q (.ref p) H') : rSlA K (.ref o) none (some ((n : Nat) : Int)) H Q := by
  refine ⟨o, _, rfl, hO, fun ⟨_, h⟩ => k H o (Same.refl _) ?_, fun _ p np => k _ p (same_upd np) ?_⟩
  · rw [HT.sIx_nat, List.length_map] at h
    rw [List.take_of_length_le (by omega)]
    exact hO
  · rw [show cutV (os.map vN) none (some ((n : Nat) : Int)) = (os.take n).map vN by rw [List.map_take]; exact cut_tk _ n]
    exact tupAt upd_same
section
variable {P : Program} {w : World} {K : PySem.W.Frag} {mg : Str → Option Value} {base : Heap}
def spRowsOk (K : PySem.W.Frag) : Sp := fun vs H Q _ => ∃ (a o l : Addr) (t : Nat) (zs os : List Nam) (es : List Addr) (ws : List WRow), vs = [.ref a, .ref o, .ref l, .int (t : Nat)] ∧ SqL K H a (zs.map vN) ∧ SqT K H o (os.map vN) ∧ H l = some (.tup (es.map V.ref)) ∧ WsAt H es ws ∧ (∀ x ∈ ws, WOk zs os x ∧ x.1 < t) ∧ ∀ H', Same H H' → Q (.bl true) H'
theorem ok_L_rows_right {f : Addr} {fd : FuncData} (F : Fun K "_law_rows_right" "_law_rows_right" s_L_rows_right f fd) (m_isinstance : mg "isinstance" = none) (m_tuple : mg "tuple" = none) (m_str : mg "str" = none) (m_len : mg "len" = none) (d_L_integer : Def P w K mg base "_law_integer" 1 ["_law_got"] spInteger) : FnOk P w K mg base CX0 2 f fd ["_law_choices", "_law_leave", "_law_rows", "_law_crest"] (spRowsOk K) := by
  refine F.ok sc_L_rows_right (fun vs H Q E h => ?_) (fun cdv A outer s H vs Q E hr h => ?_)
  · obtain ⟨a, o, l, t, zs, os, es, ws, rfl, _⟩ := h
    rfl
  · obtain ⟨a, o, l, t, zs, os, es, ws, rfl, hA, hO, hL, hW, hk, q⟩ := h
    refine ⟨_, (pss_cons (ps_if (pt_not (pt_val (pe_callB call_isi (by rfl) m_isinstance (by decide +kernel) (pa_cons (pv 2) (pa_cons (pe_bltn (v := .ty "tuple") (u := .type "tuple") (by rfl) m_tuple (by decide +kernel) rfl) pa_nil))))) (pss_one (ps_ret pe_bl)) pss_nil)
  (pss_cons (ps_for PassesOwn.never rfl (pi_tup (pv 2)) (pg_name (i := 4) sc_L_rows_right.nd rfl (.inl rfl))
    (pss_cons (ps_if (PW.pt (pw_or (pt_not (pt_val (pe_callB call_isi (by rfl) m_isinstance (by decide +kernel) (pa_cons (pv 4) (pa_cons (pe_bltn (v := .ty "tuple") (u := .type "tuple") (by rfl) m_tuple (by decide +kernel) rfl) pa_nil))))) (pw_or (pt_cmpR op_ne (pe_callB call_len_seq (by rfl) m_len (by decide +kernel) (pa_cons (pv 4) pa_nil)) pe_int (nomark _)) (pw_or (pt_not (pt_val (pe_callD d_L_integer (hr.mono (by decide)) (by rfl) (pa_cons (pe_ix ix_tup (pv 4) pe_int (fun _ _ => rfl)) pa_nil)))) (pw_or (pt_not (pt_val (pe_callB call_isi (by rfl) m_isinstance (by decide +kernel) (pa_cons (pe_ix ix_tup (pv 4) pe_int (fun _ _ => rfl)) (pa_cons (pe_bltn (v := .ty "str") (u := .type "str") (by rfl) m_str (by decide +kernel) rfl) pa_nil))))) (pw_or1 (pt_not (pt_val (pe_callD d_L_integer (hr.mono (by decide)) (by rfl) (pa_cons (pe_ix ix_tup (pv 4) pe_int (fun _ _ => rfl)) pa_nil)))))))))) (pss_one (ps_ret pe_bl)) pss_nil)
  (pss_one (ps_if (PW.pt (pw_or (pt_not (pt_chain op_le op_le pe_int (pe_ix ix_tup (pv 4) pe_int (fun _ _ => rfl)) (pv 3))) (pw_or (pt_cmpR op_notIn_seq (pe_ix ix_tup (pv 4) pe_int (fun _ _ => rfl)) (pv 0) (by rfl)) (pw_or (pt_cmpR op_in_seq (pe_ix ix_tup (pv 4) pe_int (fun _ _ => rfl)) (pe_slice sl_tupA (pv 1) po_none (po_some (pe_ix ix_tup (pv 4) pe_int (fun _ _ => rfl)))) (by rfl)) (pw_or1 (pt_cmpR op_lt (pe_ix ix_tup (pv 4) pe_int (fun _ _ => rfl)) pe_int (nomark _))))))) (pss_one (ps_ret pe_bl)) pss_nil))))
  (pss_one (ps_ret pe_bl)))), ?_⟩
    refine ⟨_, rfl, _, _, _, _, true, rfl, .ty "tuple", .base (.tup hL), rfl, _, rfl, iteF ?_⟩
    refine ⟨_, rfl, l, rfl, ⟨_, tupAt hL⟩, for_tup (K := K) (a := l) (xs := es.map V.ref) (fun i σ H' => ∃ y4 : Option V, σ = [some (.ref a), some (.ref o), some (.ref l), some (.int (t : Nat)), y4] ∧ Same H H') ⟨_, rfl, Same.refl _⟩ (fun i σ H' _ hq => ?_) ?_ ?_⟩
    · obtain ⟨_, rfl, s1⟩ := hq
      exact tupAt (s1 _ _ hL)
    · rintro i x σ H1 hx ⟨y4, rfl, s1⟩
      obtain ⟨e, ⟨k, z, m⟩, rfl, ex, he⟩ := ws_at (hW.same s1) hx
      have he : H1 e = some (.tup [.int ((k : Int) + 1), vN z, .int m]) := he
      obtain ⟨⟨k1, k2, k3, k4⟩, k5⟩ := hk _ (List.mem_of_getElem? ex)
      have k1 : k < os.length := k1
      have k2 : z ∈ zs := k2
      have k3 : z ∉ os.take (k + 1) := k3
      have k4 : 0 ≤ m := k4
      have k5 : k < t := k5
      have a0 : atI [V.int ((k : Int) + 1), vN z, V.int m] 0 = some (.int ((k : Int) + 1)) := atI_in (by decide) rfl
      have a1 : atI [V.int ((k : Int) + 1), vN z, V.int m] 1 = some (vN z) := atI_in (by decide) rfl
      have a2 : atI [V.int ((k : Int) + 1), vN z, V.int m] 2 = some (.int m) := atI_in (by decide) rfl
      refine ⟨_, rfl, _, _, _, _, true, rfl, .ty "tuple", .base (.tup he), rfl, _, rfl, iteF ?_⟩
      refine ⟨_, rfl, _, _, rfl, .inr (tupAt he), rfl, _, rfl, iteF ?_⟩
      refine ⟨_, rfl, _, _, _, _, rfl, rfl, tupAt he, a0, _, rfl, _, rfl, iteF ?_⟩
      refine ⟨_, rfl, _, _, _, _, rfl, rfl, tupAt he, a1, _, _, _, _, true, rfl, .ty "str", .base (.str _), rfl, _, rfl, iteF ?_⟩
      refine ⟨_, rfl, _, _, _, _, rfl, rfl, tupAt he, a2, _, rfl, _, rfl, iteF ?_⟩
      refine ⟨_, rfl, _, _, _, _, rfl, rfl, tupAt he, a0, _, _, rfl, rfl, _, rfl, ?_⟩
      rw [decide_eq_true (show (1 : Int) ≤ (k : Int) + 1 by omega)]
      refine iteT ⟨_, rfl, _, _, rfl, rfl, _, rfl, ?_⟩
      rw [decide_eq_true (show (k : Int) + 1 ≤ (t : Int) by omega)]
      refine iteF ?_
      refine ⟨_, rfl, _, _, _, _, rfl, rfl, tupAt he, a1, _, rfl, a, _, rfl, .inl (s1.seq hA), rfl, nms_flat _, _, rfl, ?_⟩
      rw [notin_nm, decide_eq_true k2]
      refine iteF ?_
      refine ⟨_, rfl, _, _, _, _, rfl, rfl, tupAt he, a1, _, rfl, _, rfl, _, _, _, _, rfl, rfl, tupAt he, a0, _, rfl, ?_⟩
      rw [show ((k : Int) + 1) = ((k + 1 : Nat) : Int) by omega]
      refine slA_to (same_tup s1 hO) fun H2 S s2 hS => ?_
      refine ⟨S, _, rfl, .inr hS, rfl, nms_flat _, _, rfl, ?_⟩
      rw [in_nm, decide_eq_false k3]
      refine iteF ?_
      refine ⟨_, rfl, _, _, _, _, rfl, rfl, tupAt (s2 _ _ he), a2, _, _, rfl, rfl, _, rfl, ?_⟩
      rw [decide_eq_false (show ¬ m < 0 by omega)]
      exact iteF ⟨_, rfl, s1.trans s2⟩
    · rintro σ H1 ⟨y4, rfl, s1⟩
      exact q H1 s1
/-! _law_shown -/
def spShown (K : PySem.W.Frag) : Sp := fun vs H Q _ => ∃ (a g o l : Addr) (zs os : List Nam) (gs es : List Addr) (ps : List BRow) (ws : List WRow), vs = [.ref a, .ref g, .ref o, .ref l] ∧ GArgs K H a g zs gs ps ∧ (∀ p ∈ ps, -2 ^ 64 < p.2 ∧ p.2 < 2 ^ 64) ∧ ps.length ≤ 1000 ∧ SqT K H o (os.map vN) ∧ BOk zs os ∧ H l = some (.tup (es.map V.ref)) ∧ WsAt H es ws ∧ (∀ x ∈ ws, WOk zs os x) ∧ ∀ H', Same H H' → Q (.int (shownV zs os ps ws)) H'
theorem ok_L_shown {f : Addr} {fd : FuncData} (F : Fun K "_law_shown" "_law_shown" s_L_shown f fd) (m_sum : mg "sum" = none) (d_L_value : Def P w K mg base "_law_value" 1 ["_law_leave", "_law_rows", "_law_ballot"] (spVal K)) : FnOk P w K mg base CX0 2 f fd ["_law_choices", "_law_given_here", "_law_leave", "_law_rows"] (spShown K) := by
  refine F.ok sc_L_shown (fun vs H Q E h => ?_) (fun cdv A outer s H vs Q E hr h => ?_)
  · obtain ⟨a, g, o, l, zs, os, gs, es, ps, ws, rfl, _⟩ := h
    rfl
  · obtain ⟨a, g, o, l, zs, os, gs, es, ps, ws, rfl, ga, hb, p1000, hO, ok, hL, hW, hk, q⟩ := h
    obtain ⟨hC, hG, hP, hS, nm, nd, z1, z4⟩ := ga
    have el : (es.map V.ref).length = ws.length := by rw [List.length_map, hW.1]
    refine ⟨_, (pss_cons (ps_set (i := 4) sc_L_shown.nd rfl (.inl rfl) pe_int)
  (pss_cons (ps_for PassesOwn.never rfl (pi_tup (pv 3)) (pg_tup (by rfl) (pgs_cons (pg_name (i := 5) sc_L_shown.nd rfl (.inl rfl)) (pgs_cons (pg_name (i := 6) sc_L_shown.nd rfl (.inl rfl)) (pgs_cons (pg_name (i := 7) sc_L_shown.nd rfl (.inl rfl)) pgs_nil))))
    (pss_one (ps_if (pt_cmpR op_gt (pe_bm PySem.F.plainAttrs_list PySem.F.slot_list_index PySem.F.type_list_index mt_index (pv 0) (pa_cons (pv 6) pa_nil)) (pe_bm PySem.F.plainAttrs_list PySem.F.slot_list_index PySem.F.type_list_index mt_index (pv 0) (pa_cons (pe_ix ix_tup (pv 2) (pe_op op_sub (pv 5) pe_int) (fun _ _ => rfl)) pa_nil)) (nomark _)) (pss_one (ps_set (i := 4) sc_L_shown.nd rfl (.inl rfl) (pe_op op_add (pv 4) (pv 7)))) pss_nil)))
  (pss_one (ps_ret (pe_op op_sub (pv 4) (pe_callB (cr_sum rfl) (by rfl) m_sum (by decide +kernel) (pa_cons (pe_lc (own := [("_law_ballot", 8), ("_law_times", 9)]) (by rfl) sc_L_shown.nd (pi_list (pv 1)) (blkOk_by (N := ["_law_choices", "_law_given_here", "_law_leave", "_law_rows", "_law_owed", "_law_turn", "_law_choice", "_law_weight", "_law_ballot", "_law_times"]) (sc := defScope s_L_shown) (by decide +kernel)) (fun _ _ _ _ _ => (pg_tupK (K := K) (n := 2) rfl (by rfl) (pgs_cons (pg_name (i := 8) sc_L_shown.nd rfl (.inl rfl)) (pgs_cons (pg_name (i := 9) sc_L_shown.nd rfl (.inl rfl)) pgs_nil)))) (fun _ _ _ _ _ => pts_nil) (fun _ _ _ _ _ => (pe_op op_mul (pv 9) (pe_callD d_L_value (hr.mono (by decide)) (by rfl) (pa_cons (pv 2) (pa_cons (pv 3) (pa_cons (pv 8) pa_nil))))))) pa_nil))))))), ?_⟩
    refine ⟨_, rfl, l, rfl, ⟨_, tupAt hL⟩, for_tup (K := K) (a := l) (xs := es.map V.ref) (fun i σ H' => ∃ (y5 y6 y7 : Option V), σ = [some (.ref a), some (.ref g), some (.ref o), some (.ref l), some (.int (dueV zs os (ws.take i))), y5, y6, y7, none, none] ∧ H' = H) ⟨_, _, _, rfl, rfl⟩ (fun i σ H' _ hq => ?_) ?_ ?_⟩
    · obtain ⟨y4, y5, y6, rfl, rfl⟩ := hq
      exact tupAt hL
    · rintro i x σ H' hx ⟨y4, y5, y6, rfl, rfl⟩
      obtain ⟨e, ⟨k, z, m⟩, rfl, ex, he⟩ := ws_at hW hx
      have he : H' e = some (.tup [.int ((k : Int) + 1), vN z, .int m]) := he
      have wk := hk _ (List.mem_of_getElem? ex)
      have hne := wok_ne wk
      obtain ⟨k1, k2, _, _⟩ := wk
      have k1 : k < os.length := k1
      have k2 : z ∈ zs := k2
      have hne : leavN os k ≠ z := hne
      have hl := leav_at k1
      have ml := ok.2 _ (List.mem_of_getElem? hl)
      obtain ⟨f1, f2, f3⟩ := nmV_first nd k2
      obtain ⟨g1, g2, g3⟩ := nmV_first nd ml
      have esn : dueV zs os (ws.take (i + 1)) = dueV zs os (ws.take i) + m * leadN zs (leavN os k) z := by
        unfold dueV
        rw [map_snoc_sum _ ex, List.sum_append]
        show _ + (_ + (0 : Int)) = _
        rw [Int.add_zero]
      refine ⟨_, _, rfl, tupAt he, rfl, _, _, rfl, _, _, rfl, _, _, rfl, rfl, ?_⟩
      refine ⟨_, rfl, .inl ⟨rfl, _, hC⟩, _, rfl, a, _, _, _, _, rfl, rfl, hC, rfl, nms_flat _, f1, f2, f3, _, rfl, .inl ⟨rfl, _, hC⟩, _, rfl, _, rfl, _, _, rfl, rfl, _, _, _, vN (leavN os k), rfl, rfl, hO, ?_, a, _, _, _, _, rfl, rfl, hC, rfl, nms_flat _, g1, g2, g3, _, _, rfl, rfl, _, rfl, ?_⟩
      · rw [show (k : Int) + 1 - 1 = (k : Int) by omega]
        refine atI_in (by omega) ?_
        rw [Int.toNat_natCast, List.getElem?_map, hl]
        rfl
      have hix : zs.idxOf z ≠ zs.idxOf (leavN os k) := fun e => hne (by
        have ea := List.getElem_idxOf (List.idxOf_lt_length_iff.mpr k2)
        have ed := List.getElem_idxOf (List.idxOf_lt_length_iff.mpr ml)
        rw [← ea, ← ed]
        simp [e])
      unfold leadN at esn
      by_cases hlt : zs.idxOf z < zs.idxOf (leavN os k)
      · rw [if_pos hlt, Int.mul_zero, Int.add_zero] at esn
        rw [decide_eq_false (show ¬ ((zs.idxOf (leavN os k) : Nat) : Int) < ((zs.idxOf z : Nat) : Int) by omega)]
        exact iteF ⟨_, _, _, by rw [esn]; rfl, rfl⟩
      · rw [if_neg hlt, Int.mul_one] at esn
        rw [decide_eq_true (show ((zs.idxOf (leavN os k) : Nat) : Int) < ((zs.idxOf z : Nat) : Int) by omega)]
        exact iteT ⟨_, rfl, _, rfl, _, _, rfl, rfl, some (.int ((k : Int) + 1)), some (vN z), some (.int m), by rw [esn]; rfl, rfl⟩
    · rintro σ H' ⟨y4, y5, y6, rfl, rfl⟩
      rw [el, List.take_length]
      refine ⟨_, rfl, _, rfl, g, rfl, ⟨_, lstAt hG⟩, fun D nD => ?_⟩
      refine lc_list (K := K) (a := g) (xs := gs.map V.ref) (fun j H2 => Same H' H2 ∧ H2 D = some (.lst (((ps.take j).map fun p => p.2 * valB os ws p.1).map V.int))) ⟨same_upd nD, upd_same⟩ (fun j H2 _ hq => lstAt (hq.1 _ _ hG)) (fun j v H2 hx hq => ?_) (fun H2 hq => ?_)
      · obtain ⟨s1, eD⟩ := hq
        obtain ⟨e, p, rfl, _, ep, t, he, ht⟩ := pairs_at (hP.same s1) hx
        have hj : j < ps.length := (List.getElem?_eq_some_iff.mp ep).1
        have mp := List.mem_of_getElem? ep
        refine ⟨_, _, rfl, tupAt he, rfl, _, _, rfl, _, _, rfl, rfl, rfl, yesT ⟨_, rfl, _, rfl, _, rfl, _, rfl, o, l, t, zs, os, p.1, es, ws, rfl, same_tup s1 hO, s1 _ _ hL, hW.same s1, hk, tupAt ht, (hS p mp).1, fun z m => nm z ((hS p mp).2 z m), fun H3 s3 => ⟨_, _, rfl, rfl, .inl (hb p mp), _, s3 _ _ eD, ?_, same_at (s1.trans s3) nD, ?_⟩⟩⟩
        · rw [List.length_map, List.length_map, List.length_take]
          exact small1000 (by omega)
        · rw [List.take_add_one, ep, List.map_append, List.map_append]
          exact upd_same
      · obtain ⟨s1, eD⟩ := hq
        rw [List.length_map, hP.1, List.take_length] at eD
        exact ⟨D, _, rfl, lstAt eD, _, _, rfl, rfl, q H2 s1⟩
end
end TK

/-! the chains of an order are right -/
namespace TK
open PySem PySem.Spec PyProof.Rows L2
theorem sums_at {zs os : List Nam} {ps : List BRow} {t : Nat} (t1 : 1 ≤ t) (tl : t ≤ os.length) : (sumsV zs ps os)[t - 1]? = some ((remO zs os (t - 1)).map (lkN zs ps os t)).sum := by
  unfold sumsV
  rw [List.getElem?_map, rowsI_at (by omega)]
  show some (rowI zs ps os (t - 1)).sum = _
  unfold rowI
  rw [show t - 1 + 1 = t by omega]
theorem eq_flatL {H : Hp} {t u : Addr} {xs : List V} (h1 : H t = some (.lst xs)) (h2 : H u = some (.lst xs)) (hl : xs.length ≤ 1000) (fl : ∀ x ∈ xs, flat1 x = true) (n : Nat) : Eq2 H (n + 1) (.ref t) (.ref u) := by
  refine .inr ⟨t, u, _, _, rfl, rfl, .inl ⟨h1, h2⟩, rfl, by omega, fun i x y hx hy => ?_⟩
  rw [hx] at hy
  have e := Option.some.inj hy
  have f := fl x (List.mem_of_getElem? hx)
  cases n with
  | zero => exact ⟨e, f⟩
  | succ n => exact .inl ⟨e, f⟩
theorem told_flat (t : Int) : ∀ x ∈ toldV t, flat1 x = true := by
  intro x m
  unfold toldV at m
  rcases List.mem_cons.mp m with rfl | m
  · rfl
  rcases List.mem_cons.mp m with rfl | m
  · rfl
  rcases List.mem_cons.mp m with rfl | m
  · rfl
  rcases List.mem_cons.mp m with rfl | m
  · rfl
  rcases List.mem_cons.mp m with rfl | m
  · rfl
  rw [List.mem_singleton.mp m]
  rfl
section
variable {P : Program} {w : World} {K : PySem.W.Frag} {mg : Str → Option Value} {base : Heap}
def Bnd (ps : List BRow) : Prop := (∀ p ∈ ps, -2 ^ 64 < p.2 ∧ p.2 < 2 ^ 64) ∧ ps.length ≤ 1000
def spChainR (K : PySem.W.Frag) : Sp := fun vs H Q _ => ∃ (a g o l : Addr) (t : Nat) (zs os : List Nam) (gs es : List Addr) (ps : List BRow) (ws : List WRow), vs = [.ref a, .ref g, .ref o, .ref l, .int (t : Nat)] ∧ GArgs K H a g zs gs ps ∧ Bnd ps ∧ SqT K H o (os.map vN) ∧ BOk zs os ∧ os.length < zs.length ∧ H l = some (.tup (es.map V.ref)) ∧ WsAt H es ws ∧ 1 ≤ t ∧ t ≤ os.length ∧ Chs zs ps os t (remO zs os (t - 1)) ws ∧ ∀ H', Same H H' → Q (.bl true) H'
theorem ok_L_chain_right {f : Addr} {fd : FuncData} (F : Fun K "_law_chain_right" "_law_chain_right" s_L_chain_right f fd) (d_L_rows_right : Def P w K mg base "_law_rows_right" 2 ["_law_choices", "_law_leave", "_law_rows", "_law_crest"] (spRowsOk K)) (d_L_all_ballots : Def P w K mg base "_law_all_ballots" 1 ["_law_choices"] (spAllB K)) (d_L_value : Def P w K mg base "_law_value" 1 ["_law_leave", "_law_rows", "_law_ballot"] (spVal K))
    (d_L_shown : Def P w K mg base "_law_shown" 2 ["_law_choices", "_law_given_here", "_law_leave", "_law_rows"] (spShown K)) (d_L_missing_sums : Def P w K mg base "_law_missing_sums" 2 ["_law_choices", "_law_given_here", "_law_leave"] (spMissS K)) : FnOk P w K mg base CX0 3 f fd ["_law_choices", "_law_given_here", "_law_leave", "_law_rows", "_law_turn"] (spChainR K) := by
  refine F.ok sc_L_chain_right (fun vs H Q E h => ?_) (fun cdv A outer s H vs Q E hr h => ?_)
  · obtain ⟨a, g, o, l, t, zs, os, gs, es, ps, ws, rfl, _⟩ := h
    rfl
  · obtain ⟨a, g, o, l, t, zs, os, gs, es, ps, ws, rfl, ga, ⟨hb, p1000⟩, hO, ok, ol, hL, hW, t1, tl, hC, q⟩ := h
    obtain ⟨hA, hG, hP, hS, nm, nd, z1, z4⟩ := id ga
    have hk := chs_ok ok tl hC fun z m => m
    have hk1 : ∀ x ∈ ws, WOk zs os x := fun x m => (hk x m).1
    have rnd := rem_nd (os := os) (t := t - 1) nd
    have hv := fun b => (chs_val ok b tl hC rnd fun z m => m).1
    have hsh := chs_shown ok (fun p m => (hS p m).2) tl hC fun z m => m
    refine ⟨_, (pss_cons (ps_if (pt_not (pt_val (pe_callD d_L_rows_right (hr.mono (by decide)) (by rfl) (pa_cons (pv 0) (pa_cons (pv 2) (pa_cons (pv 3) (pa_cons (pv 4) pa_nil))))))) (pss_one (ps_ret pe_bl)) pss_nil)
  (pss_cons (ps_for PassesOwn.never rfl (pi_list (pe_callD d_L_all_ballots (hr.mono (by decide)) (by rfl) (pa_cons (pv 0) pa_nil))) (pg_name (i := 5) sc_L_chain_right.nd rfl (.inl rfl))
    (pss_one (ps_if (pt_cmpR op_gt (pe_callD d_L_value (hr.mono (by decide)) (by rfl) (pa_cons (pv 2) (pa_cons (pv 3) (pa_cons (pv 5) pa_nil)))) pe_int (nomark _)) (pss_one (ps_ret pe_bl)) pss_nil)))
  (pss_one (ps_ret (pe_cmpR op_eq (pe_callD d_L_shown (hr.mono (by decide)) (by rfl) (pa_cons (pv 0) (pa_cons (pv 1) (pa_cons (pv 2) (pa_cons (pv 3) pa_nil))))) (pe_ix ix_list (pe_callD d_L_missing_sums (hr.mono (by decide)) (by rfl) (pa_cons (pv 0) (pa_cons (pv 1) (pa_cons (pv 2) pa_nil)))) (pe_op op_sub (pv 4) pe_int) (fun _ _ => rfl)) (nomark _)))))), ?_⟩
    refine ⟨_, rfl, _, rfl, _, rfl, _, rfl, a, o, l, t, zs, os, es, ws, rfl, hA, hO, hL, hW, hk, fun H1 s1 => ⟨_, rfl, iteF ?_⟩⟩
    refine ⟨_, rfl, a, zs, rfl, s1.seq hA, nd, z4, fun H2 B bs nB s2' eB hB => ?_⟩
    have s2 := s1.trans s2'
    refine ⟨B, rfl, ⟨_, lstAt eB⟩, for_list (K := K) (a := B) (xs := bs.map V.ref) (fun i σ H' => ∃ y5 : Option V, σ = [some (.ref a), some (.ref g), some (.ref o), some (.ref l), some (.int (t : Nat)), y5] ∧ Same H2 H') ⟨_, rfl, Same.refl _⟩ (fun i σ H' _ hq => ?_) ?_ ?_⟩
    · obtain ⟨_, rfl, s3⟩ := hq
      exact lstAt (s3 _ _ eB)
    · rintro i x σ H3 hx ⟨y5, rfl, s3⟩
      obtain ⟨e, b, rfl, _, eb, he⟩ := bs_at (hB.same s3) hx
      obtain ⟨bok, bl⟩ := all_ok _ _ b (List.mem_of_getElem? eb)
      have s03 := s2.trans s3
      refine ⟨_, rfl, _, rfl, _, rfl, o, l, e, zs, os, b, es, ws, rfl, same_tup s03 hO, s03 _ _ hL, hW.same s03, hk1, tupAt he, by omega, fun z m => nm z (bok.2 z m), fun H4 s4 => ⟨_, _, rfl, rfl, _, rfl, ?_⟩⟩
      have := hv b
      rw [decide_eq_false (show ¬ (1 : Int) < valB os ws b by omega)]
      exact iteF ⟨_, rfl, s3.trans s4⟩
    · rintro σ H3 ⟨y5, rfl, s3⟩
      have s03 := s2.trans s3
      refine ⟨_, rfl, _, rfl, _, rfl, _, rfl, a, g, o, l, zs, os, gs, es, ps, ws, rfl, ga.same s03, hb, p1000, same_tup s03 hO, ok, s03 _ _ hL, hW.same s03, hk1, fun H4 s4 => ?_⟩
      have s04 := s03.trans s4
      have sa : atI ((sumsV zs ps os).map V.int) ((t : Int) - 1) = some (.int (shownV zs os ps ws)) := atI_in (by omega) (by
        rw [show ((t : Int) - 1).toNat = t - 1 by omega, List.getElem?_map, sums_at t1 tl, hsh]
        rfl)
      refine ⟨_, rfl, _, rfl, _, rfl, a, g, o, zs, os, gs, ps, rfl, ga.same s04, same_tup s04 hO, ok, ol, fun H5 L s5 eL => ?_⟩
      refine ⟨_, rfl, _, _, rfl, rfl, _, _, _, _, rfl, rfl, lstAt eL, sa, rfl, ?_⟩
      exact bint (congrArg V.bl (decide_eq_true rfl)) (q H5 (s04.trans s5))
/-! _law_order_right -/
def spOrdR (K : PySem.W.Frag) (C : Addr) : Sp := fun vs H Q _ => ∃ (p a g o : Addr) (zs os : List Nam) (gs : List Addr) (ps R : List BRow), vs = [.ref p, .ref a, .ref g, .ref o] ∧ LArgs K C H p o zs os R ∧ GArgs K H a g zs gs ps ∧ Bnd ps ∧ (∀ f, wsum f R = wsum f ps) ∧ ∀ H', Same H H' → Q (.bl true) H'
theorem ok_L_order_right {f C : Addr} {fd : FuncData} (F : Fun K "_law_order_right" "_law_order_right" s_L_order_right f fd) (m_range : mg "range" = none) (m_len : mg "len" = none) (d_L_chain_right : Def P w K mg base "_law_chain_right" 3 ["_law_choices", "_law_given_here", "_law_leave", "_law_rows", "_law_turn"] (spChainR K)) (d_chain_weights : Def P w K mg base "chain_weights" 5 ["roll", "order", "at"] (spCW K C))
    (d_L_refusal : Def P w K mg base "_law_refusal" 6 ["_law_sheet", "_law_leave", "_law_turn"] (spRefusal K C)) (d_L_same : Def P w K mg base "_law_same" 4 ["_law_got", "_law_wanted"] (spSame 2)) : FnOk P w K mg base CX0 7 f fd ["_law_sheet", "_law_choices", "_law_given_here", "_law_leave"] (spOrdR K C) := by
  refine F.ok sc_L_order_right (fun vs H Q E h => ?_) (fun cdv A outer s H vs Q E hr h => ?_)
  · obtain ⟨p, a, g, o, zs, os, gs, ps, R, rfl, _⟩ := h
    rfl
  · obtain ⟨p, a, g, o, zs, os, gs, ps, R, rfl, la, ga, bd, hw, q⟩ := h
    obtain ⟨ro, r1000, hO, ok, ol, nd, z10⟩ := id la
    have z4 := ga.2.2.2.2.2.2.2
    have oll : (os.map vN).length = os.length := List.length_map ..
    refine ⟨_, (pss_cons (ps_for PassesOwn.never rfl (pi_range2 (by rfl) m_range (pa_cons pe_int (pa_cons (pe_op op_add (pe_callB call_len_seq (by rfl) m_len (by decide +kernel) (pa_cons (pv 3) pa_nil)) pe_int) pa_nil))) (pg_name (i := 4) sc_L_order_right.nd rfl (.inl rfl))
    (pss_one (ps_if (pt_not (pt_val (pe_callD d_L_chain_right (hr.mono (by decide)) (by rfl) (pa_cons (pv 1) (pa_cons (pv 2) (pa_cons (pv 3) (pa_cons (pe_callD d_chain_weights (hr.mono (by decide)) (by rfl) (pa_cons (pv 0) (pa_cons (pv 3) (pa_cons (pv 4) pa_nil)))) (pa_cons (pv 4) pa_nil)))))))) (pss_one (ps_ret pe_bl)) pss_nil)))
  (pss_cons (ps_for PassesOwn.never rfl (pi_list (pe_lst (pa_cons pe_int (pa_cons (pe_op op_add (pe_callB call_len_seq (by rfl) m_len (by decide +kernel) (pa_cons (pv 3) pa_nil)) pe_int) pa_nil)))) (pg_name (i := 4) sc_L_order_right.nd rfl (.inl rfl))
    (pss_one (ps_if (pt_not (pt_val (pe_callD d_L_same (hr.mono (by decide)) (by rfl) (pa_cons (pe_callD d_L_refusal (hr.mono (by decide)) (by rfl) (pa_cons (pv 0) (pa_cons (pv 3) (pa_cons (pv 4) pa_nil)))) (pa_cons (pe_lst (pa_cons (pv 4) (pa_cons pe_bl (pa_cons pe_bl (pa_cons pe_bl (pa_cons pe_bl (pa_cons pe_bl pa_nil))))))) pa_nil))))) (pss_one (ps_ret pe_bl)) pss_nil)))
  (pss_one (ps_ret pe_bl)))), ?_⟩
    refine ⟨_, rfl, o, _, rfl, .inr hO, _, _, rfl, rfl, ?_⟩
    refine ⟨_, _, rfl, ⟨by decide, by decide, by omega, by omega⟩, for_range (fun i σ H' => ∃ y4 : Option V, σ = [some (.ref p), some (.ref a), some (.ref g), some (.ref o), y4] ∧ Same H H') ⟨_, rfl, Same.refl _⟩ ?_ ?_⟩
    · rintro i σ H1 hi ⟨y4, rfl, s1⟩
      have hi : i < os.length := by omega
      rw [show ((1 : Int) + (i : Int)) = ((i + 1 : Nat) : Int) by omega]
      refine ⟨_, rfl, _, rfl, _, rfl, _, rfl, _, rfl, _, rfl, p, o, i + 1, zs, os, R, rfl, la.same s1, by omega, by omega, fun H2 r es ws s2 er hW hC wl => ?_⟩
      have s12 := s1.trans s2
      refine ⟨_, rfl, a, g, o, r, i + 1, zs, os, gs, es, ps, ws, rfl, ga.same s12, bd, same_tup s12 hO, ok, ol, er, hW, by omega, by omega, chs_eq hw hC, fun H3 s3 => ⟨_, rfl, iteF ⟨_, rfl, s12.trans s3⟩⟩⟩
    · rintro σ H1 ⟨y4, rfl, s1⟩
      refine ⟨_, rfl, o, _, rfl, .inr (same_tup s1 hO), _, _, rfl, rfl, (show (2 : Nat) ≤ sizeLine by decide), fun L nL => ?_⟩
      rw [oll]
      have sL := same_upd (o := .lst [V.int 0, .int ((os.length : Nat) + 1 : Int)]) nL
      have eL : (upd H1 L (.lst [V.int 0, .int ((os.length : Nat) + 1 : Int)])) L = some (.lst [V.int 0, .int ((os.length : Nat) + 1 : Int)]) := upd_same
      have s2 := s1.trans sL
      generalize upd H1 L (.lst [V.int 0, .int ((os.length : Nat) + 1 : Int)]) = H2 at eL s2 ⊢
      have bad : ∀ (j : Nat) (x : V), [V.int 0, .int ((os.length : Nat) + 1 : Int)][j]? = some x → ∃ t : Int, x = .int t ∧ ¬ (1 ≤ t ∧ t ≤ os.length) := fun j x e => by
        match j, e with
        | 0, e => cases Option.some.inj e; exact ⟨0, rfl, by omega⟩
        | 1, e => cases Option.some.inj e; exact ⟨_, rfl, by omega⟩
        | j + 2, e => cases e
      refine ⟨L, rfl, ⟨_, lstAt eL⟩, for_list (K := K) (a := L) (xs := [V.int 0, .int ((os.length : Nat) + 1 : Int)]) (fun i σ H' => ∃ y4 : Option V, σ = [some (.ref p), some (.ref a), some (.ref g), some (.ref o), y4] ∧ Same H2 H') ⟨_, rfl, Same.refl _⟩ (fun i σ H' _ hq => ?_) ?_ ?_⟩
      · obtain ⟨_, rfl, s3⟩ := hq
        exact lstAt (s3 _ _ eL)
      · rintro j x σ H3 hx ⟨y4', rfl, s3⟩
        obtain ⟨t, rfl, bt⟩ := bad j x hx
        have s03 := s2.trans s3
        refine ⟨_, rfl, _, rfl, _, rfl, p, o, t, zs, os, R, rfl, la.same s03, bt, fun H4 D s4 eD => ?_⟩
        refine ⟨_, rfl, (show (6 : Nat) ≤ sizeLine by decide), fun W nW => ?_⟩
        have sW := same_upd (o := .lst (toldV t)) nW
        exact ⟨_, _, rfl, eq_flatL (sW _ _ eD) upd_same (show 6 ≤ 1000 by decide) (told_flat t) 1, _, rfl, iteF ⟨_, rfl, s3.trans (s4.trans sW)⟩⟩
      · rintro σ H3 ⟨y4', rfl, s3⟩
        exact q H3 (s2.trans s3)
end
end TK

namespace TK
open PySem PySem.Spec PyProof.Rows L2
/-! calls with keywords in any order -/
def pickV (is : List Nat) (xs : List V) : List V := is.map fun i => xs.getD i .non
def pickU (is : List Nat) (us : List Value) : List Value := is.map fun i => us.getD i .none
theorem pick_rel {xs : List V} {us : List Value} (r : Vals xs us) : ∀ is : List Nat, Vals (pickV is xs) (pickU is us)
  | [] => .nil
  | i :: is => by
    refine .cons ?_ (pick_rel r is)
    show L2.RelV (xs.getD i .non) (us.getD i .none)
    rw [List.getD_eq_getElem?_getD, List.getD_eq_getElem?_getD]
    cases e : xs[i]? with
    | none =>
      have hl := r.length
      rw [List.getElem?_eq_none_iff] at e
      rw [show us[i]? = none from List.getElem?_eq_none_iff.mpr (by omega)]
      rfl
    | some x =>
      obtain ⟨u, hu, ru⟩ := r.get e
      rw [hu]
      exact ru
theorem fun_kbn {K : PySem.W.Frag} {x qual : Str} {st : Stmt} {f : Addr} {fd : FuncData} {ps : List Str} (F : Fun K x qual st f fd) (n : Nat) (ks : List Str) (is : List Nat)
    (h : ∀ (kV doc pm : Value) (an : Option Addr) (cdv ct : Value) (us ws : List Value), us.length = n → ws.length = ks.length → bindArgs (PySem.W.fnOf x qual (defArgs st) (defBody st) (defScope st) .none kV doc pm an cdv ct) ⟨us, ks.zip ws⟩ = pure (ps.zip (pickU is (us ++ ws)))) :
    KBn K fd ps n ks (fun us ws => pickU is (us ++ ws)) (fun vs zs => pickV is (vs ++ zs)) := by
  obtain ⟨oc, od, kV, doc, pm, an, cdv, ct, osl, rfl, lk, hcd⟩ := F.ex
  exact ⟨fun s us ws _ h1 h2 => .of_eq (h kV doc pm an cdv ct us ws h1 h2), fun r1 r2 => pick_rel (r1.append r2) is⟩
section
variable {X : Cx} {CX : CXT} {k n : Nat} {f : Addr} {fd : FuncData} {ps ks : List Str} {sp : Sp} {E : XK} {x : Str} {p pos : Pos} {kws : List Keyword} {tk : TA} {g : List Value → List Value → List Value} {gV : List V → List V → List V}
/-- f(k = v, ..): keywords alone -/
theorem pe_callN0 (F : FnOk X.prog X.w X.K X.mg X.base CX k f fd ps sp) (hr : Room k X.A) (hg : Gl X x) (hm : X.mg x = some (.ref f)) (hk : PySem.W.keepIn X.K (.ref f) = true) (hb : KBn X.K fd ps 0 ks g gV) (hx : Passes CX X E) (hkw : PK X kws tk)
    (hall : (backToKw pos (keywordEach kws X.env)).all (·.1.isSome) = true := by rfl) (hks : (backToKw pos (keywordEach kws X.env)).filterMap (·.1) = ks := by rfl) (hdb : (x == ("__debug__" : Str)) = false := by decide)
    (hpl : ((backTo pos (starEach [] X.env)).any (·.1) || (backToKw pos (keywordEach kws X.env)).any (·.1.isNone)) = false := by rfl) : PE X (.Call (.Name x p) [] kws pos) (tCallN 0 ks.length sp gV E tNil tk) := by
  refine ⟨fun pins s σ H Q I h => wpAny_Call_Name_kw (ld_glob I hg hm (PySem.W.callWith_KW0 (h₀ := X.base) I.ok.mod.kin hk hall ?_ hpl) hdb)⟩
  refine thn (hkw.run pos pins s σ H _ I h) fun ws s2 ⟨zs, H2, I2, rz, l1, l2, q2⟩ => ⟨I2.kIn, ?_⟩
  rw [hks]
  exact run_fnN (us := []) (vs := []) F hr hb hx I2 .nil rz rfl l2 q2
end
abbrev KB (K : PySem.W.Frag) (fd : FuncData) (ps : List Str) (n : Nat) (ks : List Str) (is : List Nat) : Prop := KBn K fd ps n ks (fun us ws => pickU is (us ++ ws)) (fun vs zs => pickV is (vs ++ zs))
end TK

/-! the law -/
namespace TK
open PySem PySem.Spec PyProof.Rows L2
theorem numb4 {j : Int} (h0 : 0 ≤ j) (h : j < 4) : ∃ u, atI [V.int 4, .int 2, .int 3, .int 4] j = some (.int u) ∧ 1 ≤ u ∧ u ≤ 4 := by
  rcases (by omega : j = 0 ∨ j = 1 ∨ j = 2 ∨ j = 3) with rfl | rfl | rfl | rfl
  · exact ⟨4, atI_in (by decide) rfl, by decide, by decide⟩
  · exact ⟨2, atI_in (by decide) rfl, by decide, by decide⟩
  · exact ⟨3, atI_in (by decide) rfl, by decide, by decide⟩
  · exact ⟨4, atI_in (by decide) rfl, by decide, by decide⟩
theorem all_mem {zs : List Nam} : ∀ (k : Nat) {b : List Nam}, BOk zs b → b.length ≤ k → b ∈ allB zs k
  | 0, b, _, h => by
    have : b = [] := List.length_eq_zero_iff.mp (by omega)
    rw [this]; exact List.mem_singleton.mpr rfl
  | k + 1, b, hb, h => by
    by_cases hk : b.length ≤ k
    · exact List.mem_flatMap.mpr ⟨b, all_mem k hb hk, List.mem_cons_self⟩
    · have hne : b ≠ [] := fun e => by rw [e] at hk; simp at hk
      obtain ⟨c, z, rfl⟩ : ∃ c z, b = c ++ [z] := ⟨b.dropLast, b.getLast hne, (List.dropLast_concat_getLast hne).symm⟩
      rw [List.length_append] at h hk
      simp only [List.length_cons, List.length_nil] at h hk
      obtain ⟨h1, h2⟩ := hb
      have hc : BOk zs c := ⟨(List.nodup_append.mp h1).1, fun x m => h2 x (List.mem_append.mpr (.inl m))⟩
      refine List.mem_flatMap.mpr ⟨c, all_mem k hc (by omega), List.mem_cons_of_mem _ ?_⟩
      rw [if_pos (by omega)]
      refine List.mem_map.mpr ⟨z, List.mem_filter.mpr ⟨h2 z (List.mem_append.mpr (.inr (List.mem_singleton.mpr rfl))), decide_eq_true fun m => ?_⟩, rfl⟩
      exact (List.nodup_append.mp h1).2.2 z m z (List.mem_singleton.mpr rfl) rfl
theorem spots3 {k : Nat} (h : k < 3) : ∃ u z : Int, atI [V.int 41, .int 492, .int 1] (k : Nat) = some (.int u) ∧ atI [V.int 12, .int 8, .int 24] (k : Nat) = some (.int z) ∧ 0 < u ∧ u < 1000000 ∧ 0 < z := by
  rcases (by omega : k = 0 ∨ k = 1 ∨ k = 2) with rfl | rfl | rfl
  · exact ⟨41, 12, atI_in (by decide) rfl, atI_in (by decide) rfl, by decide, by decide, by decide⟩
  · exact ⟨492, 8, atI_in (by decide) rfl, atI_in (by decide) rfl, by decide, by decide, by decide⟩
  · exact ⟨1, 24, atI_in (by decide) rfl, atI_in (by decide) rfl, by decide, by decide, by decide⟩
theorem bs_pick {H : Hp} {es : List Addr} {bs : List (List Nam)} (h : BsAt H es bs) (p : 0 < es.length) (t : Int) : ∃ e b, atI (es.map V.ref) (t % ((es.map V.ref).length : Int)) = some (.ref e) ∧ b ∈ bs ∧ H e = some (.tup (b.map vN)) := by
  have l : (es.map V.ref).length = es.length := List.length_map ..
  have m0 := Int.emod_nonneg t (show (((es.map V.ref).length : Nat) : Int) ≠ 0 by omega)
  have m1 := Int.emod_lt_of_pos t (show (0 : Int) < ((es.map V.ref).length : Nat) by omega)
  generalize t % ((es.map V.ref).length : Int) = j at m0 m1
  have hk : j.toNat < es.length := by omega
  obtain ⟨b, eb, hb⟩ := h.2 j.toNat _ (List.getElem?_eq_getElem hk)
  exact ⟨es[j.toNat], b, atI_in m0 (by rw [List.getElem?_map, List.getElem?_eq_getElem hk]; rfl), List.mem_of_getElem? eb, hb⟩
section
variable {P : Program} {w : World} {K : PySem.W.Frag} {mg : Str → Option Value} {base : Heap}
def spLaw (K : PySem.W.Frag) : Sp := fun vs H Q _ => ∃ (a : Addr) (ns : List Int), vs = [.ref a] ∧ SqL K H a (ns.map V.int) ∧ ns.length ≤ 63 ∧ ∀ H', Q (.bl true) H'
theorem ok_law {f C CS fI gA fc : Addr} {fd fdI fdA fdc : FuncData} (F : Fun K "law" "law" s_law f fd) (m_list : mg "list" = none) (m_len : mg "len" = none) (m_range : mg "range" = none)
    (M_Roll : Mk K C fI) (G_Roll : FnOk P w K mg base CX0 3 fI fdI ["self", "options", "rows"] (spInitR K C CS)) (mg_Roll : mg "Roll" = some (.ref C)) (b_Roll : Binds K fdI ["self", "options", "rows"] [])
    (O_add : Own K C "__add__" gA) (sf_ : PySem.W.selfFirst K C = true) (G_add : FnOk P w K mg base CX0 5 gA fdA ["self", "other"] (spAddR C)) (b_add : Binds K fdA ["self", "other"] [])
    (d_L_cell : Def P w K mg base "_law_cell" 1 ["_law_script", "_law_k"] (spCellA K)) (d_L_pool : Def P w K mg base "_law_pool" 2 ["_law_cell_here", "_law_number"] spPool)
    (d_L_part : Def P w K mg base "_law_part" 1 ["_law_pool_here", "_law_spot", "_law_under", "_law_size"] (spPart K)) (d_L_names : Def P w K mg base "_law_names" 2 ["_law_pool_here", "_law_spot", "_law_number"] (spNames K))
    (d_L_ballots : Def P w K mg base "_law_ballots" 2 ["_law_pool_here", "_law_spot", "_law_options", "_law_number"] (spBallots K)) (d_L_given : Def P w K mg base "_law_given" 3 ["_law_choices", "_law_head", "_law_pool_here", "_law_cell_here"] (spGiven K))
    (d_L_all_ballots : Def P w K mg base "_law_all_ballots" 1 ["_law_choices"] (spAllB K)) (d_L_order_right : Def P w K mg base "_law_order_right" 7 ["_law_sheet", "_law_choices", "_law_given_here", "_law_leave"] (spOrdR K C))
    (d_L_chain_right : Def P w K mg base "_law_chain_right" 3 ["_law_choices", "_law_given_here", "_law_leave", "_law_rows", "_law_turn"] (spChainR K))
    (G_chain_weights : FnOk P w K mg base CX0 5 fc fdc ["roll", "order", "at"] (spCW K C)) (g_chain_weights : mg "chain_weights" = some (.ref fc)) (k_chain_weights : PySem.W.keepIn K (.ref fc) = true) (kb_chain_weights_roll_order_at : KB K fdc ["roll", "order", "at"] 0 ["roll", "order", "at"] [0, 1, 2]) : FnOk P w K mg base CX0 8 f fd ["_law_script"] (spLaw K) := by
  refine F.ok sc_law (fun vs H Q E h => ?_) (fun cdv A outer s H vs Q E hr h => ?_)
  · obtain ⟨a, ns, rfl, _⟩ := h
    rfl
  · obtain ⟨a, ns, rfl, hS, hlen, q⟩ := h
    refine ⟨_, (pss_cons (ps_set (i := 1) sc_law.nd rfl (.inl rfl) (pe_callD d_L_pool (hr.mono (by decide)) (by rfl) (pa_cons (pe_callD d_L_cell (hr.mono (by decide)) (by rfl) (pa_cons (pv 0) (pa_cons pe_int pa_nil))) (pa_cons pe_int pa_nil))))
  (pss_cons (ps_set (i := 2) sc_law.nd rfl (.inl rfl) (pe_ix ix_list (pe_lst (pa_cons pe_int (pa_cons pe_int (pa_cons pe_int (pa_cons pe_int pa_nil))))) (pe_callD d_L_part (hr.mono (by decide)) (by rfl) (pa_cons (pv 1) (pa_cons pe_int (pa_cons pe_int (pa_cons pe_int pa_nil))))) (fun _ _ => rfl)))
  (pss_cons (ps_cut (ps_if (pt_cmpR op_eq (pe_callD d_L_part (hr.mono (by decide)) (by rfl) (pa_cons (pv 1) (pa_cons pe_int (pa_cons pe_int (pa_cons pe_int pa_nil))))) pe_int (nomark _)) (pss_one (ps_set (i := 2) sc_law.nd rfl (.inl rfl) pe_int)) pss_nil))
  (pss_cons (ps_set (i := 3) sc_law.nd rfl (.inr rfl) (pe_callD d_L_names (hr.mono (by decide)) (by rfl) (pa_cons (pv 1) (pa_cons pe_int (pa_cons (pv 2) pa_nil)))))
  (pss_cons (ps_set (i := 4) sc_law.nd rfl (.inl rfl) (pe_callD d_L_pool (hr.mono (by decide)) (by rfl) (pa_cons (pe_callD d_L_cell (hr.mono (by decide)) (by rfl) (pa_cons (pv 0) (pa_cons pe_int pa_nil))) (pa_cons pe_int pa_nil))))
  (pss_cons (ps_set (i := 5) sc_law.nd rfl (.inl rfl) (pe_callD d_L_given (hr.mono (by decide)) (by rfl) (pa_cons (pv 3) (pa_cons (pv 1) (pa_cons (pv 4) (pa_cons (pe_callD d_L_cell (hr.mono (by decide)) (by rfl) (pa_cons (pv 0) (pa_cons pe_int pa_nil))) pa_nil))))))
  (pss_cons (ps_set (i := 6) sc_law.nd rfl (.inl rfl) (pe_callD d_L_ballots (hr.mono (by decide)) (by rfl) (pa_cons (pv 4) (pa_cons pe_int (pa_cons (pv 3) (pa_cons (pe_callD d_L_part (hr.mono (by decide)) (by rfl) (pa_cons (pv 1) (pa_cons pe_int (pa_cons pe_int (pa_cons pe_int pa_nil))))) pa_nil))))))
  (pss_cons (ps_set (i := 7) sc_law.nd rfl (.inl rfl) (pe_make M_Roll G_Roll (hr.mono (by decide)) (by rfl) mg_Roll b_Roll .nil pass0 (pa_cons (pe_callTy call_list_of (by rfl) m_list (by decide +kernel) (pa_cons (pv 3) pa_nil)) (pa_cons (pe_callTy call_list_of (by rfl) m_list (by decide +kernel) (pa_cons (pv 5) pa_nil)) pa_nil))))
  (pss_cons (ps_set (i := 8) sc_law.nd rfl (.inl rfl) (pe_op (op_ownBin O_add sf_ G_add (hr.mono (by decide)) b_add pass0) (pv 7) (pe_make M_Roll G_Roll (hr.mono (by decide)) (by rfl) mg_Roll b_Roll .nil pass0 (pa_cons (pe_callTy call_list_of (by rfl) m_list (by decide +kernel) (pa_cons (pv 3) pa_nil)) (pa_cons (pe_callTy call_list_of (by rfl) m_list (by decide +kernel) (pa_cons (pv 6) pa_nil)) pa_nil)))))
  (pss_cons (ps_setLc (i := 9) (own := [("_law_ballot", 15)]) (by rfl) sc_law.nd rfl rfl (sw_true rfl rfl rfl (by decide +kernel)) (pi_list (pe_callD d_L_all_ballots (hr.mono (by decide)) (by rfl) (pa_cons (pv 3) pa_nil))) (blkOk_by (N := ["_law_script", "_law_head", "_law_number", "_law_choices", "_law_pool_here", "_law_given_here", "_law_others", "_law_sheet", "_law_whole", "_law_leaves", "_law_longest", "_law_asked", "_law_k", "_law_leave", "_law_turn", "_law_ballot"]) (sc := defScope s_law) (by decide +kernel)) (fun _ _ _ _ _ => (pg_name (i := 15) sc_law.nd rfl (.inl rfl))) (fun _ _ _ _ _ => (pts_one (pt_cmpR op_lt (pe_callB (call_len_seqK (K := K) rfl) (by rfl) m_len (by decide +kernel) (pa_cons (pv 15) pa_nil)) (pe_callB (call_len_seqK (K := K) rfl) (by rfl) m_len (by decide +kernel) (pa_cons (pv 3) pa_nil)) (nomark _)))) (fun _ _ _ _ _ => (pv 15)))
  (pss_cons (ps_setLc (i := 10) (own := [("_law_ballot", 15)]) (by rfl) sc_law.nd rfl rfl (sw_true rfl rfl rfl (by decide +kernel)) (pi_list (pv 9)) (blkOk_by (N := ["_law_script", "_law_head", "_law_number", "_law_choices", "_law_pool_here", "_law_given_here", "_law_others", "_law_sheet", "_law_whole", "_law_leaves", "_law_longest", "_law_asked", "_law_k", "_law_leave", "_law_turn", "_law_ballot"]) (sc := defScope s_law) (by decide +kernel)) (fun _ _ _ _ _ => (pg_name (i := 15) sc_law.nd rfl (.inl rfl))) (fun _ _ _ _ _ => (pts_one (pt_cmpR op_eq (pe_callB (call_len_seqK (K := K) rfl) (by rfl) m_len (by decide +kernel) (pa_cons (pv 15) pa_nil)) (pe_op op_sub (pe_callB (call_len_seqK (K := K) rfl) (by rfl) m_len (by decide +kernel) (pa_cons (pv 3) pa_nil)) pe_int) (nomark _)))) (fun _ _ _ _ _ => (pv 15)))
  (pss_cons (ps_set (i := 11) sc_law.nd rfl (.inl rfl) (pe_lst (pa_cons (pe_ix ix_list (pv 9) (pe_op op_mod (pe_callD d_L_part (hr.mono (by decide)) (by rfl) (pa_cons (pv 1) (pa_cons pe_int (pa_cons pe_int (pa_cons pe_int pa_nil))))) (pe_callB call_len_seq (by rfl) m_len (by decide +kernel) (pa_cons (pv 9) pa_nil))) (fun _ _ => rfl)) pa_nil)))
  (pss_cons (ps_for PassesOwn.never rfl (pi_range1 (by rfl) m_range (pa_cons pe_int pa_nil)) (pg_name (i := 12) sc_law.nd rfl (.inl rfl))
    (pss_one (ps_expr (pe_bm PySem.F.plainAttrs_list PySem.F.slot_list_append PySem.F.type_list_append mt_append (pv 11) (pa_cons (pe_ix ix_list (pv 10) (pe_op op_mod (pe_callD d_L_part (hr.mono (by decide)) (by rfl) (pa_cons (pv 1) (pa_cons pe_int (pa_cons (pe_ix ix_list (pe_lst (pa_cons pe_int (pa_cons pe_int (pa_cons pe_int pa_nil)))) (pv 12) (fun _ _ => rfl)) (pa_cons (pe_ix ix_list (pe_lst (pa_cons pe_int (pa_cons pe_int (pa_cons pe_int pa_nil)))) (pv 12) (fun _ _ => rfl)) pa_nil))))) (pe_callB call_len_seq (by rfl) m_len (by decide +kernel) (pa_cons (pv 10) pa_nil))) (fun _ _ => rfl)) pa_nil)))))
  (pss_cons (ps_for PassesOwn.never rfl (pi_list (pv 11)) (pg_name (i := 13) sc_law.nd rfl (.inl rfl))
    (pss_one (ps_if (PW.pt (pw_or (pt_not (pt_val (pe_callD d_L_order_right (hr.mono (by decide)) (by rfl) (pa_cons (pv 7) (pa_cons (pv 3) (pa_cons (pv 5) (pa_cons (pv 13) pa_nil))))))) (pw_or1 (pt_not (pt_val (pe_callD d_L_order_right (hr.mono (by decide)) (by rfl) (pa_cons (pv 8) (pa_cons (pv 3) (pa_cons (pe_op op_cat (pv 5) (pv 6)) (pa_cons (pv 13) pa_nil)))))))))) (pss_one (ps_ret pe_bl)) pss_nil)))
  (pss_cons (ps_set (i := 13) sc_law.nd rfl (.inl rfl) (pe_ix ix_list (pv 11) pe_int (fun _ _ => rfl)))
  (pss_cons (ps_for PassesOwn.never rfl (pi_range2 (by rfl) m_range (pa_cons pe_int (pa_cons (pe_op op_add (pe_callB call_len_seq (by rfl) m_len (by decide +kernel) (pa_cons (pv 13) pa_nil)) pe_int) pa_nil))) (pg_name (i := 14) sc_law.nd rfl (.inl rfl))
    (pss_one (ps_if (pt_not (pt_val (pe_callD d_L_chain_right (hr.mono (by decide)) (by rfl) (pa_cons (pv 3) (pa_cons (pv 5) (pa_cons (pv 13) (pa_cons (pe_callN0 G_chain_weights (hr.mono (by decide)) (by rfl) g_chain_weights k_chain_weights kb_chain_weights_roll_order_at pass0 (pk_cons (pv 7) (pk_cons (pv 13) (pk_cons (pv 14) pk_nil)))) (pa_cons (pv 14) pa_nil)))))))) (pss_one (ps_ret pe_bl)) pss_nil)))
  (pss_one (ps_ret pe_bl)))))))))))))))))), ?_⟩
    refine ⟨_, rfl, a, ns, 0, rfl, hS, by decide, by decide, by omega, fun c1 => ⟨c1, 8, rfl, by decide, by decide, fun p1 ns1 np1 l1 o1 => ?_⟩⟩
    have s1 : Same H (upd H p1 (.lst (ns1.map V.int))) := same_upd np1
    have e1 : (upd H p1 (.lst (ns1.map V.int))) p1 = some (.lst (ns1.map V.int)) := upd_same
    generalize upd H p1 (.lst (ns1.map V.int)) = H0 at s1 e1 ⊢
    have t0 := part_lo (ns := ns1) (s := 5) (u := 1) (z := 4) (by decide)
    have t1 := part_hi (ns := ns1) (s := 5) (u := 1) (z := 4) (by decide)
    obtain ⟨n0, an0, n01, n04⟩ := numb4 t0 t1
    refine ⟨(show (4 : Nat) ≤ sizeLine by decide), fun A nA => ?_⟩
    have sA := same_upd (o := .lst [V.int 4, .int 2, .int 3, .int 4]) nA
    refine ⟨_, rfl, p1, ns1, 5, 1, 4, rfl, lstAt (sA _ _ e1), by decide, by omega, by decide, by decide, by decide, _, _, _, _, rfl, rfl, lstAt upd_same, an0, ?_⟩
    have s1' := s1.trans sA
    have e1' := sA _ _ e1
    generalize upd H0 A (.lst [V.int 4, .int 2, .int 3, .int 4]) = H1 at s1' e1' ⊢
    clear sA e1 s1
    refine ⟨fun σ H' => ∃ n : Int, 1 ≤ n ∧ n ≤ 4 ∧ σ = [some (.ref a), some (.ref p1), some (.int n), none, none, none, none, none, none, none, none, none, none, none, none, none] ∧ H' = H1, ?_, ?_⟩
    · refine ⟨_, rfl, p1, ns1, 7, 1, 12, rfl, lstAt e1', by decide, by omega, by decide, by decide, by decide, rfl, _, rfl, ite2 (fun e => ⟨1, by decide, by decide, rfl, rfl⟩) (fun e => ⟨n0, n01, n04, rfl, rfl⟩)⟩
    rintro σ H' ⟨n, n1, n4, rfl, rfl⟩
    refine ⟨_, rfl, _, rfl, p1, ns1, 0, n, rfl, lstAt e1', by decide, by omega, by omega, by omega, fun c zs nc zl nm nd => ?_⟩
    have s2' := same_upd (o := .lst (zs.map vN)) nc
    have ec : (upd H' c (.lst (zs.map vN))) c = some (.lst (zs.map vN)) := upd_same
    have s2 := s1'.trans s2'
    have e12 := s2' _ _ e1'
    generalize upd H' c (.lst (zs.map vN)) = H2 at s2 ec e12 ⊢
    clear s2' s1' e1'
    have z1 : 1 ≤ zs.length := by omega
    have z4 : zs.length ≤ 4 := by omega
    refine ⟨_, rfl, a, ns, 1, rfl, s2.seq hS, by decide, by decide, by omega, fun c2 => ⟨c2, 36, rfl, by decide, by decide, fun p3 ns3 np3 l3 o3 => ?_⟩⟩
    have s3' := same_upd (o := .lst (ns3.map V.int)) np3
    have e3 : (upd H2 p3 (.lst (ns3.map V.int))) p3 = some (.lst (ns3.map V.int)) := upd_same
    have s3 := s2.trans s3'
    have e13 := s3' _ _ e12
    have ec3 := s3' _ _ ec
    generalize upd H2 p3 (.lst (ns3.map V.int)) = H3 at s3 e3 e13 ec3 ⊢
    clear s3' s2
    refine ⟨_, rfl, _, rfl, _, rfl, _, rfl, a, ns, 2, rfl, s3.seq hS, by decide, by decide, by omega, fun c3 => ?_⟩
    refine ⟨c, p1, p3, c3, zs, ns1, ns3, rfl, lstAt ec3, nd, z4, lstAt e13, by omega, lstAt e3, by omega, fun H4 g es ps ng s4 eg hP hk pl => ?_⟩
    have t2 := part_lo (ns := ns1) (s := 5) (u := 208) (z := 7) (by decide)
    have t3 := part_hi (ns := ns1) (s := 5) (u := 208) (z := 7) (by decide)
    have ec4 := s4 _ _ ec3
    have e14 := s4 _ _ e13
    refine ⟨_, rfl, _, rfl, _, rfl, p1, ns1, 5, 208, 7, rfl, lstAt e14, by decide, by omega, by decide, by decide, by decide, p3, c, ns3, 24, _, zs, rfl, lstAt (s4 _ _ e3), lstAt ec4, by decide, by omega, by omega, by omega, z4, nd, fun H5 g' es' ps' ng' s5 eg' hP' hk' pl' => ?_⟩
    have ec6 := s5 _ _ ec4
    have eg6 := s5 _ _ eg
    have hP6 := hP.same s5
    have hP6' := hP'
    have eg6' := eg'
    have e16 := s5 _ _ e14
    clear hP hP' eg eg' ec ec3 ec4 s4 s5 e12 e13 e14 e3 s3
    -- the first roll
    refine ⟨_, rfl, c, _, rfl, .inl (lstAt ec6), fun k1 nk1 => ?_⟩
    have v1 := same_upd (o := .lst (zs.map vN)) nk1
    refine ⟨_, rfl, g, _, rfl, .inl (lstAt (v1 _ _ eg6)), fun k2 nk2 => ?_⟩
    have v2' := same_upd (o := .lst (es.map V.ref)) nk2
    have v2 := v1.trans v2'
    intro q1 d1 n1 n2 ne1
    refine make_goR n1 n2 ne1 (lstAt (v2' _ _ upd_same)) upd_same (hP6.same v2) hk (by omega) nm nd z1 z4 fun H7 R ro isR mR s7 => ?_
    have v7 := v2.trans s7
    have ec7 := v7 _ _ ec6
    have eg7 := v7 _ _ eg6
    have eg7' := v7 _ _ eg6'
    have e17 := v7 _ _ e16
    have hP7 := hP6.same v7
    have hP7' := hP6'.same v7
    clear v1 v2' v2 s7 v7 hP6 hP6' ec6 eg6 eg6'
    -- the second
    refine ⟨_, rfl, _, rfl, c, _, rfl, .inl (lstAt ec7), fun k3 nk3 => ?_⟩
    have v1 := same_upd (o := .lst (zs.map vN)) nk3
    refine ⟨_, rfl, g', _, rfl, .inl (lstAt (v1 _ _ eg7')), fun k4 nk4 => ?_⟩
    have v2' := same_upd (o := .lst (es'.map V.ref)) nk4
    have v2 := v1.trans v2'
    intro q2 d2 n3 n4 ne2
    refine make_goR n3 n4 ne2 (lstAt (v2' _ _ upd_same)) upd_same (hP7'.same v2) hk' (by omega) nm nd z1 z4 fun H8 R' ro' isR' mR' s8 => ?_
    have v8 := v2.trans s8
    have ec8 := v8 _ _ ec7
    have eg8 := v8 _ _ eg7
    have eg8' := v8 _ _ eg7'
    have e18 := v8 _ _ e17
    have hP8 := hP7.same v8
    have hP8' := hP7'.same v8
    have ro8 := ro.same v8
    clear v1 v2' v2 s8 v8 hP7 hP7' ec7 eg7 eg7' ro
    have rl := rows_len isR mR
    have rl' := rows_len isR' mR'
    have hw : ∀ f, wsum f R = wsum f ps := fun f => rows_sum isR mR (fun p m => (hk p m).2.1) fun p m => (hk p m).2.2.1
    have hw' : ∀ f, wsum f R' = wsum f ps' := fun f => rows_sum isR' mR' (fun p m => (hk' p m).2.1) fun p m => (hk' p m).2.2.1
    have hSS : ∀ {p}, POk zs p → p.1.length ≤ 10 ∧ ∀ x ∈ p.1, x ∈ zs := fun h => ⟨by have := nd_lenP h.1 h.2.1; omega, h.2.1⟩
    have ga8 : GArgs K H8 c g zs es ps := ⟨lstAt ec8, eg8, hP8, fun p m => hSS (hk p m), nm, nd, z1, z4⟩
    have rok := rows_ok mR hk
    have rok' := rows_ok mR' hk'
    have rnn := rows_pos isR
    have rnn' := rows_pos isR'
    have i1 : IsIn H8 (.ref q1) C := by
      obtain ⟨dx, _, _, _, _, h, _⟩ := id ro8
      exact ⟨q1, dx, _, rfl, h⟩
    have i2 : IsIn H8 (.ref q2) C := by
      obtain ⟨dx, _, _, _, _, h, _⟩ := id ro'
      exact ⟨q2, dx, _, rfl, h⟩
    refine ⟨i1, i2, q1, q2, zs, R, R', rfl, ro8, ro', nm, nd, z1, z4, by omega, by omega, rok, rok', fun H9 r6 R6 nr s9 ro6 isR6 mR6 => ?_⟩
    have hw6 : ∀ f, wsum f R6 = wsum f (ps ++ ps') := fun f => by
      rw [rows_sum isR6 mR6 (fun p m => (List.mem_append.mp m).elim (fun m => (rok p m).2) fun m => (rok' p m).2) (fun p m => (List.mem_append.mp m).elim (rnn p) (rnn' p)), wsum_app, wsum_app, hw, hw']
    have rl6 := rows_len isR6 mR6
    rw [List.length_append] at rl6
    have ro9 := ro8.same s9
    have ga9 := ga8.same s9
    have eg9' := s9 _ _ eg8'
    have hP9' := hP8'.same s9
    have e19 := s9 _ _ e18
    clear s9 ro8 ro' i1 i2 ec8 eg8 eg8' hP8 hP8' e18 ga8
    -- the leaves
    refine ⟨_, rfl, c, zs, rfl, ga9.1, nd, z4, fun H10 B us nB s10 eB hB => ?_⟩
    refine ⟨B, rfl, ⟨_, lstAt eB⟩, fun D nD => ?_⟩
    have bl65 := all_len (zs := zs) z4 (k := zs.length) z4
    have ul : (us.map V.ref).length = (allB zs zs.length).length := by rw [List.length_map, hB.1]
    refine lc_list (K := K) (a := B) (xs := us.map V.ref) (fun i H' => ∃ ds : List Addr, Same H10 H' ∧ H' D = some (.lst (ds.map V.ref)) ∧ BsAt H' ds (((allB zs zs.length).take i).filter fun b => decide (b.length < zs.length))) ⟨[], same_upd nD, upd_same, rfl, fun _ _ h => nomatch h⟩ (fun i H' _ hq => lstAt (hq.choose_spec.1 _ _ eB)) (fun i v H' hx hq => ?_) (fun H11 hq => ?_)
    · obtain ⟨ds, s6, eD, hD⟩ := hq
      obtain ⟨e, b, rfl, _, eb, he⟩ := bs_at (hB.same s6) hx
      have hi : i < (allB zs zs.length).length := (List.getElem?_eq_some_iff.mp eb).1
      have dl : ds.length ≤ i := by
        rw [hD.1]
        have := List.length_filter_le (fun b : List Nam => decide (b.length < zs.length)) ((allB zs zs.length).take i)
        rw [List.length_take] at this
        omega
      refine ⟨rfl, _, rfl, e, _, rfl, .inr (tupAt he), _, rfl, c, _, rfl, .inl ((s10.trans s6).seq ga9.1), _, _, rfl, rfl, _, rfl, ?_⟩
      rw [List.length_map, List.length_map]
      by_cases hb : b.length < zs.length
      · rw [decide_eq_true (show ((b.length : Nat) : Int) < ((zs.length : Nat) : Int) by omega)]
        refine iteT ⟨_, rfl, _, eD, by rw [List.length_map]; exact small1000 (by omega), ds ++ [e], same_at s6 nD, by rw [List.map_append]; exact upd_same, ?_⟩
        rw [flt_snoc eb, if_pos (decide_eq_true hb)]
        exact (hD.app (BsAt.one he)).upd eD
      · rw [decide_eq_false (show ¬ ((b.length : Nat) : Int) < ((zs.length : Nat) : Int) by omega)]
        refine iteF ⟨ds, s6, eD, ?_⟩
        rw [flt_snoc eb, if_neg (by simp [hb]), List.append_nil]
        exact hD
    obtain ⟨ds, s11', eD, hD⟩ := hq
    rw [ul, List.take_length] at hD
    have s11 := s10.trans s11'
    have ro11 := ro9.same s11
    have ga11 := ga9.same s11
    have ro611 := ro6.same s11
    have eg11' := s11 _ _ eg9'
    have hP11' := hP9'.same s11
    have e111 := s11 _ _ e19
    have dm : ∀ b ∈ (allB zs zs.length).filter (fun b => decide (b.length < zs.length)), BOk zs b ∧ b.length < zs.length := fun b m => by
      obtain ⟨m1, m2⟩ := List.mem_filter.mp m
      exact ⟨(all_ok zs zs.length b m1).1, of_decide_eq_true m2⟩
    have dl0 : (zs.take (zs.length - 1)).length = zs.length - 1 := by rw [List.length_take]; omega
    have e0 : zs.take (zs.length - 1) ∈ (allB zs zs.length).filter fun b => decide (b.length < zs.length) := List.mem_filter.mpr ⟨all_mem _ ⟨List.Sublist.nodup (List.take_sublist ..) nd, fun _ h => List.mem_of_mem_take h⟩ (by omega), decide_eq_true (by omega)⟩
    have dpos : 0 < ds.length := by rw [hD.1]; exact List.length_pos_of_mem e0
    have d65 : ds.length ≤ 65 := by
      rw [hD.1]
      exact Nat.le_trans (List.length_filter_le _ _) bl65
    generalize (allB zs zs.length).filter (fun b => decide (b.length < zs.length)) = bs at hD dm e0
    clear s10 s11' s11 ro9 ga9 ro6 eg9' hP9' e19 eB hB nD nB
    -- the longest
    refine ⟨_, rfl, D, rfl, ⟨_, lstAt eD⟩, fun L nL => ?_⟩
    have dL : (ds.map V.ref).length = ds.length := List.length_map ..
    refine lc_list (K := K) (a := D) (xs := ds.map V.ref) (fun i H' => ∃ ls : List Addr, Same H11 H' ∧ H' L = some (.lst (ls.map V.ref)) ∧ BsAt H' ls ((bs.take i).filter fun b => decide (b.length + 1 = zs.length))) ⟨[], same_upd nL, upd_same, rfl, fun _ _ h => nomatch h⟩ (fun i H' _ hq => lstAt (hq.choose_spec.1 _ _ eD)) (fun i v H' hx hq => ?_) (fun H12 hq => ?_)
    · obtain ⟨ls, s6, eL, hL⟩ := hq
      obtain ⟨e, b, rfl, _, eb, he⟩ := bs_at (hD.same s6) hx
      have hi : i < bs.length := (List.getElem?_eq_some_iff.mp eb).1
      have ll : ls.length ≤ i := by
        rw [hL.1]
        have := List.length_filter_le (fun b : List Nam => decide (b.length + 1 = zs.length)) (bs.take i)
        rw [List.length_take] at this
        omega
      have bl := hD.1
      refine ⟨rfl, _, rfl, e, _, rfl, .inr (tupAt he), _, rfl, c, _, rfl, .inl (s6.seq ga11.1), _, _, rfl, rfl, rfl, _, rfl, ?_⟩
      rw [List.length_map, List.length_map]
      by_cases hb : b.length + 1 = zs.length
      · rw [decide_eq_true (show V.int ((b.length : Nat) : Int) = V.int (((zs.length : Nat) : Int) - 1) from congrArg V.int (by omega))]
        refine iteT ⟨_, rfl, _, eL, by rw [List.length_map]; exact small1000 (by omega), ls ++ [e], same_at s6 nL, by rw [List.map_append]; exact upd_same, ?_⟩
        rw [flt_snoc eb, if_pos (decide_eq_true hb)]
        exact (hL.app (BsAt.one he)).upd eL
      · rw [decide_eq_false (show ¬ V.int ((b.length : Nat) : Int) = V.int (((zs.length : Nat) : Int) - 1) from fun e => hb (by have := V.int.inj e; omega))]
        refine iteF ⟨ls, s6, eL, ?_⟩
        rw [flt_snoc eb, if_neg (by simp [hb]), List.append_nil]
        exact hL
    obtain ⟨ls, s12, eL, hL⟩ := hq
    rw [dL, hD.1, List.take_length] at hL
    have ro12 := ro11.same s12
    have ga12 := ga11.same s12
    have ro612 := ro611.same s12
    have eg12' := s12 _ _ eg11'
    have hP12' := hP11'.same s12
    have e112 := s12 _ _ e111
    have eD12 := s12 _ _ eD
    have hD12 := hD.same s12
    have lm : ∀ b ∈ bs.filter (fun b => decide (b.length + 1 = zs.length)), BOk zs b ∧ b.length < zs.length := fun b m => dm b (List.mem_filter.mp m).1
    have lpos : 0 < ls.length := by
      rw [hL.1]
      exact List.length_pos_of_mem (List.mem_filter.mpr ⟨e0, decide_eq_true (by omega)⟩)
    generalize bs.filter (fun b => decide (b.length + 1 = zs.length)) = cs at hL lm
    clear s12 ro11 ga11 ro611 eg11' hP11' e111 eD hD nL
    -- the asked
    obtain ⟨d0, b0, ad0, mb0, hb0⟩ := bs_pick hD12 dpos (partOf ns1 6 1 41)
    have lL : (ls.map V.ref).length = ls.length := List.length_map ..
    refine ⟨_, rfl, _, rfl, p1, ns1, 6, 1, 41, rfl, lstAt e112, by decide, by omega, by decide, by decide, by decide, _, rfl, D, _, rfl, .inl (lstAt eD12), _, _, rfl, rfl, by omega, _, _, _, .ref d0, rfl, rfl, lstAt eD12, ad0, (show (1 : Nat) ≤ sizeLine by decide), fun A nA => ?_⟩
    have dm0 := dm b0 mb0
    refine ⟨_, rfl, by decide, by decide, for_range (fun i σ H' => ∃ (y12 : Option V) (as : List Addr) (xs : List (List Nam)), σ = [some (.ref a), some (.ref p1), some (.int n), some (.ref c), some (.ref p3), some (.ref g), some (.ref g'), some (.ref q1), some (.ref r6), some (.ref D), some (.ref L), some (.ref A), y12, none, none, none] ∧ Same H12 H' ∧ H' A = some (.lst (as.map V.ref)) ∧ BsAt H' as xs ∧ xs.length = i + 1 ∧ ∀ b ∈ xs, BOk zs b ∧ b.length < zs.length) ⟨_, [d0], [b0], rfl, same_upd nA, upd_same, BsAt.one (same_upd nA _ _ hb0), rfl, fun b m => List.mem_singleton.mp m ▸ dm0⟩ ?_ ?_⟩
    · rintro i σ H' hi ⟨y12, as, xs, rfl, s13, eA, hA, xl, hx⟩
      have hi : i < 3 := by omega
      obtain ⟨u, z, au, az, u1, u2, z1'⟩ := spots3 hi
      rw [show (0 : Int) + (i : Int) = ((i : Nat) : Int) by omega]
      have l3 : ∀ {x y z : V} {U : Addr} {H1 : Hp}, H1 U = none → Same H1 (upd H1 U (.lst [x, y, z])) := fun h => same_upd h
      have asl := hA.1
      refine ⟨_, rfl, .inl ⟨rfl, _, lstAt eA⟩, _, rfl, _, rfl, (show (3 : Nat) ≤ sizeLine by decide), fun U nU => ⟨_, rfl, _, _, _, _, rfl, rfl, lstAt upd_same, au, (show (3 : Nat) ≤ sizeLine by decide), fun W nW => ⟨_, rfl, _, _, _, _, rfl, rfl, lstAt upd_same, az, ?_⟩⟩⟩
      have sU := same_upd (o := .lst [V.int 41, .int 492, .int 1]) nU
      have sW := same_upd (o := .lst [V.int 12, .int 8, .int 24]) nW
      have s2 := sU.trans sW
      generalize upd _ W (.lst [V.int 12, .int 8, .int 24]) = H2 at sW s2 ⊢
      have s13' : Same H12 H2 := s13.trans s2
      obtain ⟨d, b, ad, mb, hb⟩ := bs_pick (hL.same s13') lpos (partOf ns1 6 u z)
      refine ⟨p1, ns1, 6, u, z, rfl, lstAt (s13' _ _ e112), by decide, by omega, u1, u2, z1', _, rfl, L, _, rfl, .inl (lstAt (s13' _ _ eL)), _, _, rfl, rfl, by omega, _, _, _, .ref d, rfl, rfl, lstAt (s13' _ _ eL), ad, _, _, _, rfl, rfl, s2 _ _ eA, by rw [List.length_map]; exact small1000 (by omega), ?_⟩
      refine ⟨_, as ++ [d], xs ++ [b], rfl, same_at s13' nA, by rw [List.map_append]; exact upd_same, ((hA.same s2).app (BsAt.one hb)).upd (s2 _ _ eA), by rw [List.length_append, xl]; rfl, fun b' m => ?_⟩
      rcases List.mem_append.mp m with m | m
      · exact hx b' m
      · rw [List.mem_singleton.mp m]
        exact lm b mb
    · rintro σ H13 ⟨y12, as, xs, rfl, s13, eA, hA, xl, hx⟩
      have ro13 := ro12.same s13
      have ga13 := ga12.same s13
      have ro613 := ro612.same s13
      have eg13' := s13 _ _ eg12'
      have hP13' := hP12'.same s13
      clear ro12 ga12 ro612 eg12' hP12' e112 eD12 hD12 eL hL nA s13
      have bd : Bnd ps := ⟨fun p m => by obtain ⟨_, _, x, y⟩ := hk p m; omega, by omega⟩
      have bd' : Bnd (ps ++ ps') := ⟨fun p m => (List.mem_append.mp m).elim (fun m => by obtain ⟨_, _, x, y⟩ := hk p m; omega) fun m => by obtain ⟨_, _, x, y⟩ := hk' p m; omega, by rw [List.length_append]; omega⟩
      refine ⟨_, rfl, A, rfl, ⟨_, lstAt eA⟩, for_list (K := K) (a := A) (xs := as.map V.ref) (fun i σ H' => ∃ y13 : Option V, σ = [some (.ref a), some (.ref p1), some (.int n), some (.ref c), some (.ref p3), some (.ref g), some (.ref g'), some (.ref q1), some (.ref r6), some (.ref D), some (.ref L), some (.ref A), y12, y13, none, none] ∧ Same H13 H') ⟨_, rfl, Same.refl _⟩ (fun i σ H' _ hq => ?_) ?_ ?_⟩
      · obtain ⟨_, rfl, s14⟩ := hq
        exact lstAt (s14 _ _ eA)
      · rintro i x σ H14 hxx ⟨y13, rfl, s14⟩
        obtain ⟨e, b, rfl, _, eb, he⟩ := bs_at (hA.same s14) hxx
        obtain ⟨bo, bl⟩ := hx b (List.mem_of_getElem? eb)
        have ga14 := ga13.same s14
        refine ⟨_, rfl, _, rfl, _, rfl, _, rfl, q1, c, g, e, zs, b, es, ps, R, rfl, ⟨ro13.same s14, by omega, tupAt he, bo, bl, nd, by omega⟩, ga14, bd, hw, fun H15 s15 => ?_⟩
        refine ⟨_, rfl, iteF ?_⟩
        have s1415 := s14.trans s15
        have ga15 := ga13.same s1415
        refine ⟨_, rfl, _, rfl, _, rfl, _, rfl, g, g', _, _, rfl, rfl, ga15.2.1, s1415 _ _ eg13', by rw [List.length_map, List.length_map, ga15.2.2.1.1, hP13'.1]; exact Nat.le_of_lt (small1000 (by omega)), fun GG nG => ?_⟩
        rw [← List.map_append]
        have sG := same_upd (o := .lst ((es ++ es').map V.ref)) nG
        have eG : (upd H15 GG (.lst ((es ++ es').map V.ref))) GG = some (.lst ((es ++ es').map V.ref)) := upd_same
        generalize upd H15 GG (.lst ((es ++ es').map V.ref)) = H16 at sG eG ⊢
        have s16 := s1415.trans sG
        have gaG : GArgs K H16 c GG zs (es ++ es') (ps ++ ps') := ⟨s16.seq ga13.1, eG, (PairsAt.app ga15.2.2.1 (hP13'.same s1415)).same sG, fun p m => (List.mem_append.mp m).elim (fun m => hSS (hk p m)) fun m => hSS (hk' p m), nm, nd, z1, z4⟩
        refine ⟨_, rfl, r6, c, GG, e, zs, b, es ++ es', ps ++ ps', R6, rfl, ⟨ro613.same s16, by omega, tupAt ((s15.trans sG) _ _ he), bo, bl, nd, by omega⟩, gaG, bd', hw6, fun H17 s17 => ?_⟩
        exact ⟨_, rfl, iteF ⟨_, rfl, s16.trans s17⟩⟩
      · rintro σ H14 ⟨y13, rfl, s14⟩
        have hA14 := hA.same s14
        have x4 : as.length = 4 := by rw [hA.1, xl]; rfl
        obtain ⟨b, eb, hb⟩ := hA14.2 1 _ (List.getElem?_eq_getElem (show 1 < as.length by omega))
        obtain ⟨bo, bl⟩ := hx b (List.mem_of_getElem? eb)
        have a1 : atI (as.map V.ref) 1 = some (.ref (as[1]'(by omega))) := atI_in (by decide) (by rw [List.getElem?_map, show (1 : Int).toNat = 1 from rfl, List.getElem?_eq_getElem (show 1 < as.length by omega)]; rfl)
        generalize as[1]'(by omega) = o at hb a1
        have bll : (b.map vN).length = b.length := List.length_map ..
        refine ⟨_, rfl, _, _, _, .ref o, rfl, rfl, lstAt (s14 _ _ eA), a1, ?_⟩
        refine ⟨_, rfl, o, _, rfl, .inr (tupAt hb), _, _, rfl, rfl, ?_⟩
        refine ⟨_, _, rfl, ⟨by decide, by decide, by omega, by omega⟩, for_range (fun i σ H' => ∃ y14 : Option V, σ = [some (.ref a), some (.ref p1), some (.int n), some (.ref c), some (.ref p3), some (.ref g), some (.ref g'), some (.ref q1), some (.ref r6), some (.ref D), some (.ref L), some (.ref A), y12, some (.ref o), y14, none] ∧ Same H14 H') ⟨_, rfl, Same.refl _⟩ ?_ ?_⟩
        · rintro i σ H15 hi ⟨y14, rfl, s15⟩
          have hi : i < b.length := by omega
          have s1415 := s14.trans s15
          have hb15 := s15 _ _ hb
          rw [show ((1 : Int) + (i : Int)) = ((i + 1 : Nat) : Int) by omega]
          refine ⟨_, rfl, _, rfl, _, rfl, _, rfl, _, rfl, _, rfl, rfl, rfl, q1, o, i + 1, zs, b, R, rfl, ⟨ro13.same s1415, by omega, tupAt hb15, bo, bl, nd, by omega⟩, by omega, by omega, fun H16 r es' ws s16 er hW hC wl => ?_⟩
          have s1416 := s1415.trans s16
          refine ⟨_, rfl, c, g, o, r, i + 1, zs, b, es, es', ps, ws, rfl, ga13.same s1416, bd, tupAt (s16 _ _ hb15), bo, bl, er, hW, by omega, by omega, chs_eq hw hC, fun H17 s17 => ⟨_, rfl, iteF ⟨_, rfl, s15.trans (s16.trans s17)⟩⟩⟩
        · rintro σ H15 ⟨y14, rfl, s15⟩
          exact q _
end
end TK

namespace TK
open PySem PySem.Spec PyProof.Rows L2 NdefX

abbrev s_BadNumber_init : Stmt := inClass (topS 9) 0
theorem kit_off {K : PySem.W.Frag} {C : Addr} {T : String} (h1 : PySem.W.isClsIn K C = true) (h2 : PySem.W.typeIn K (.ref C) = some (.type "type")) (h3 : PySem.W.notFirst K C (.type T) = true) : PySem.W.kitOne K (.type T) (.ref C) = some false := by
  unfold PySem.W.notFirst at h3
  have e0 : ((Value.type T) == Value.ref C) = false := rfl
  rw [e0, Bool.false_or] at h3
  have h4 := eq_of_beq h3
  unfold PySem.W.kitOne PySem.W.kitCls
  rw [e0]
  unfold PySem.W.isClsIn at h1
  simp [h1, h2, h4]
/-- how the keywords of a def without defaults bind -/
theorem fun_kb {K : PySem.W.Frag} {x qual : Str} {st : Stmt} {f : Addr} {fd : FuncData} {ps : List Str} (F : Fun K x qual st f fd) (n : Nat) (ks : List Str)
    (h : ∀ (kV doc pm : Value) (an : Option Addr) (cdv ct : Value) (us ws : List Value), us.length = n → ws.length = ks.length → bindArgs (PySem.W.fnOf x qual (defArgs st) (defBody st) (defScope st) .none kV doc pm an cdv ct) ⟨us, ks.zip ws⟩ = pure (ps.zip (us ++ ws))) :
    KBn K fd ps n ks (fun us ws => us ++ ws) (fun vs zs => vs ++ zs) := by
  obtain ⟨oc, od, kV, doc, pm, an, cdv, ct, osl, rfl, lk, hcd⟩ := F.ex
  exact ⟨fun s us ws X l1 l2 => .of_eq (h _ _ _ _ _ _ us ws l1 l2), fun r1 r2 => r1.append r2⟩

theorem all_mk {l : PySem.W.OpenLaw} {w : World} {K : PySem.W.Frag} {h : Heap} {mg : Str → Option Value} {fa f0 f1 f2 f3 f4 f5 f6 f7 f8 f9 f10 f11 f12 f13 f14 f15 f16 f17 f18 f19 f20 f21 f22 f23 f24 f25 f26 f27 f28 f29 f30 f31 f32 f33 f34 f35 f36 f37 : Addr} (X : K.In h) (G : h.Ns mainGlobals mg) (hfa : mg "law" = some (.ref fa))
    {tk : Tok}
    {C CS TI EI DN : Addr} {odD odN2 odEm : Option Addr} {slD slN2 slEm : Array (Option Value)} {ocD ocN2 : Value} {nD nN nX : Nat}
    {fI : Addr} {odI anI : Option Addr} {slI : Array (Option Value)} {ocI kVI dcI pmI cdI ctI : Value}
    {fS : Addr} {odS anS : Option Addr} {slS : Array (Option Value)} {ocS kVS dcS pmS cdS ctS : Value}
    {fA : Addr} {odA anA : Option Addr} {slA : Array (Option Value)} {ocA kVA dcA pmA cdA ctA : Value}
    {fY : Addr} {odY anY : Option Addr} {slY : Array (Option Value)} {ocY kVY dcY pmY cdY ctY : Value}
    {CeB feB cceB cdaeB NNeB : Addr} {oceB ccleB cleB kVeB doceB pmeB cteB : Value} {aneB odeB cddeB cldeB : Option Addr} {osleB ccseB csleB : Array (Option Value)} {vseB : Array Value} {tfeB : Tok} {fileeB nmeB qeB : Str}
    {bseB bmeB subeB : List Value} {sneB : List Str} {abeB : Bool} {coleB : Option Bool} {ddeB : Option Addr} {k0eB k1eB k2eB k3eB k5eB : Option Value}
    {CN1 : Addr}
    {CN2 : Addr}
    {CN3 : Addr}
    {CNH : Addr}
    {od0 an0 : Option Addr} {sl0 : Array (Option Value)} {oc0 kV0 dc0 pm0 cd0 ct0 : Value}
    (a0 : PySem.W.nsIn K mainGlobals "top" = some (some (.ref f0))) (l0 : K.lookup f0 = some ⟨oc0, od0, .func (PySem.W.fnOf "top" "top" (defArgs s_top) (defBody s_top) (defScope s_top) .none kV0 dc0 pm0 an0 cd0 ct0), sl0⟩) (c0 : PySem.W.codeIn K cd0 "top" = true) (k0 : PySem.W.keepIn K (.ref f0) = true)
    {od1 an1 : Option Addr} {sl1 : Array (Option Value)} {oc1 kV1 dc1 pm1 cd1 ct1 : Value}
    (a1 : PySem.W.nsIn K mainGlobals "votes_for" = some (some (.ref f1))) (l1 : K.lookup f1 = some ⟨oc1, od1, .func (PySem.W.fnOf "votes_for" "votes_for" (defArgs s_votes_for) (defBody s_votes_for) (defScope s_votes_for) .none kV1 dc1 pm1 an1 cd1 ct1), sl1⟩) (c1 : PySem.W.codeIn K cd1 "votes_for" = true) (k1 : PySem.W.keepIn K (.ref f1) = true)
    {od2 an2 : Option Addr} {sl2 : Array (Option Value)} {oc2 kV2 dc2 pm2 cd2 ct2 : Value}
    (a2 : PySem.W.nsIn K mainGlobals "is_name" = some (some (.ref f2))) (l2 : K.lookup f2 = some ⟨oc2, od2, .func (PySem.W.fnOf "is_name" "is_name" (defArgs s_is_name) (defBody s_is_name) (defScope s_is_name) .none kV2 dc2 pm2 an2 cd2 ct2), sl2⟩) (c2 : PySem.W.codeIn K cd2 "is_name" = true) (k2 : PySem.W.keepIn K (.ref f2) = true)
    {od3 an3 : Option Addr} {sl3 : Array (Option Value)} {oc3 kV3 dc3 pm3 cd3 ct3 : Value}
    (a3 : PySem.W.nsIn K mainGlobals "check_size" = some (some (.ref f3))) (l3 : K.lookup f3 = some ⟨oc3, od3, .func (PySem.W.fnOf "check_size" "check_size" (defArgs s_check_size) (defBody s_check_size) (defScope s_check_size) .none kV3 dc3 pm3 an3 cd3 ct3), sl3⟩) (c3 : PySem.W.codeIn K cd3 "check_size" = true) (k3 : PySem.W.keepIn K (.ref f3) = true)
    {od4 an4 : Option Addr} {sl4 : Array (Option Value)} {oc4 kV4 dc4 pm4 cd4 ct4 : Value}
    (a4 : PySem.W.nsIn K mainGlobals "check_range" = some (some (.ref f4))) (l4 : K.lookup f4 = some ⟨oc4, od4, .func (PySem.W.fnOf "check_range" "check_range" (defArgs s_check_range) (defBody s_check_range) (defScope s_check_range) .none kV4 dc4 pm4 an4 cd4 ct4), sl4⟩) (c4 : PySem.W.codeIn K cd4 "check_range" = true) (k4 : PySem.W.keepIn K (.ref f4) = true)
    {od5 an5 : Option Addr} {sl5 : Array (Option Value)} {oc5 kV5 dc5 pm5 cd5 ct5 : Value}
    (a5 : PySem.W.nsIn K mainGlobals "check_names" = some (some (.ref f5))) (l5 : K.lookup f5 = some ⟨oc5, od5, .func (PySem.W.fnOf "check_names" "check_names" (defArgs s_check_names) (defBody s_check_names) (defScope s_check_names) (.ref DN) kV5 dc5 pm5 an5 cd5 ct5), sl5⟩) (c5 : PySem.W.codeIn K cd5 "check_names" = true) (k5 : PySem.W.keepIn K (.ref f5) = true)
    {od6 an6 : Option Addr} {sl6 : Array (Option Value)} {oc6 kV6 dc6 pm6 cd6 ct6 : Value}
    (a6 : PySem.W.nsIn K mainGlobals "check_picks" = some (some (.ref f6))) (l6 : K.lookup f6 = some ⟨oc6, od6, .func (PySem.W.fnOf "check_picks" "check_picks" (defArgs s_check_picks) (defBody s_check_picks) (defScope s_check_picks) .none kV6 dc6 pm6 an6 cd6 ct6), sl6⟩) (c6 : PySem.W.codeIn K cd6 "check_picks" = true) (k6 : PySem.W.keepIn K (.ref f6) = true)
    {od7 an7 : Option Addr} {sl7 : Array (Option Value)} {oc7 kV7 dc7 pm7 cd7 ct7 : Value}
    (a7 : PySem.W.nsIn K mainGlobals "lead" = some (some (.ref f7))) (l7 : K.lookup f7 = some ⟨oc7, od7, .func (PySem.W.fnOf "lead" "lead" (defArgs s_lead) (defBody s_lead) (defScope s_lead) .none kV7 dc7 pm7 an7 cd7 ct7), sl7⟩) (c7 : PySem.W.codeIn K cd7 "lead" = true) (k7 : PySem.W.keepIn K (.ref f7) = true)
    {od8 an8 : Option Addr} {sl8 : Array (Option Value)} {oc8 kV8 dc8 pm8 cd8 ct8 : Value}
    (a8 : PySem.W.nsIn K mainGlobals "check_order" = some (some (.ref f8))) (l8 : K.lookup f8 = some ⟨oc8, od8, .func (PySem.W.fnOf "check_order" "check_order" (defArgs s_check_order) (defBody s_check_order) (defScope s_check_order) .none kV8 dc8 pm8 an8 cd8 ct8), sl8⟩) (c8 : PySem.W.codeIn K cd8 "check_order" = true) (k8 : PySem.W.keepIn K (.ref f8) = true)
    {od9 an9 : Option Addr} {sl9 : Array (Option Value)} {oc9 kV9 dc9 pm9 cd9 ct9 : Value}
    (a9 : PySem.W.nsIn K mainGlobals "lack_rows" = some (some (.ref f9))) (l9 : K.lookup f9 = some ⟨oc9, od9, .func (PySem.W.fnOf "lack_rows" "lack_rows" (defArgs s_lack_rows) (defBody s_lack_rows) (defScope s_lack_rows) .none kV9 dc9 pm9 an9 cd9 ct9), sl9⟩) (c9 : PySem.W.codeIn K cd9 "lack_rows" = true) (k9 : PySem.W.keepIn K (.ref f9) = true)
    {od10 an10 : Option Addr} {sl10 : Array (Option Value)} {oc10 kV10 dc10 pm10 cd10 ct10 : Value}
    (a10 : PySem.W.nsIn K mainGlobals "_next_lacks" = some (some (.ref f10))) (l10 : K.lookup f10 = some ⟨oc10, od10, .func (PySem.W.fnOf "_next_lacks" "_next_lacks" (defArgs s_next_lacks) (defBody s_next_lacks) (defScope s_next_lacks) .none kV10 dc10 pm10 an10 cd10 ct10), sl10⟩) (c10 : PySem.W.codeIn K cd10 "_next_lacks" = true) (k10 : PySem.W.keepIn K (.ref f10) = true)
    {od11 an11 : Option Addr} {sl11 : Array (Option Value)} {oc11 kV11 dc11 pm11 cd11 ct11 : Value}
    (a11 : PySem.W.nsIn K mainGlobals "chain_weights" = some (some (.ref f11))) (l11 : K.lookup f11 = some ⟨oc11, od11, .func (PySem.W.fnOf "chain_weights" "chain_weights" (defArgs s_chain_weights) (defBody s_chain_weights) (defScope s_chain_weights) .none kV11 dc11 pm11 an11 cd11 ct11), sl11⟩) (c11 : PySem.W.codeIn K cd11 "chain_weights" = true) (k11 : PySem.W.keepIn K (.ref f11) = true)
    {od12 an12 : Option Addr} {sl12 : Array (Option Value)} {oc12 kV12 dc12 pm12 cd12 ct12 : Value}
    (a12 : PySem.W.nsIn K mainGlobals "_chain" = some (some (.ref f12))) (l12 : K.lookup f12 = some ⟨oc12, od12, .func (PySem.W.fnOf "_chain" "_chain" (defArgs s_chain) (defBody s_chain) (defScope s_chain) .none kV12 dc12 pm12 an12 cd12 ct12), sl12⟩) (c12 : PySem.W.codeIn K cd12 "_chain" = true) (k12 : PySem.W.keepIn K (.ref f12) = true)
    {od13 an13 : Option Addr} {sl13 : Array (Option Value)} {oc13 kV13 dc13 pm13 cd13 ct13 : Value}
    (a13 : PySem.W.nsIn K mainGlobals "_checked_pairs" = some (some (.ref f13))) (l13 : K.lookup f13 = some ⟨oc13, od13, .func (PySem.W.fnOf "_checked_pairs" "_checked_pairs" (defArgs s_checked_pairs) (defBody s_checked_pairs) (defScope s_checked_pairs) .none kV13 dc13 pm13 an13 cd13 ct13), sl13⟩) (c13 : PySem.W.codeIn K cd13 "_checked_pairs" = true) (k13 : PySem.W.keepIn K (.ref f13) = true)
    {od14 an14 : Option Addr} {sl14 : Array (Option Value)} {oc14 kV14 dc14 pm14 cd14 ct14 : Value}
    (a14 : PySem.W.nsIn K mainGlobals "_ballot" = some (some (.ref f14))) (l14 : K.lookup f14 = some ⟨oc14, od14, .func (PySem.W.fnOf "_ballot" "_ballot" (defArgs s_ballot) (defBody s_ballot) (defScope s_ballot) .none kV14 dc14 pm14 an14 cd14 ct14), sl14⟩) (c14 : PySem.W.codeIn K cd14 "_ballot" = true) (k14 : PySem.W.keepIn K (.ref f14) = true)
    {od15 an15 : Option Addr} {sl15 : Array (Option Value)} {oc15 kV15 dc15 pm15 cd15 ct15 : Value}
    (a15 : PySem.W.nsIn K mainGlobals "_added_up" = some (some (.ref f15))) (l15 : K.lookup f15 = some ⟨oc15, od15, .func (PySem.W.fnOf "_added_up" "_added_up" (defArgs s_added_up) (defBody s_added_up) (defScope s_added_up) .none kV15 dc15 pm15 an15 cd15 ct15), sl15⟩) (c15 : PySem.W.codeIn K cd15 "_added_up" = true) (k15 : PySem.W.keepIn K (.ref f15) = true)
    {od16 an16 : Option Addr} {sl16 : Array (Option Value)} {oc16 kV16 dc16 pm16 cd16 ct16 : Value}
    (a16 : PySem.W.nsIn K mainGlobals "_law_cell" = some (some (.ref f16))) (l16 : K.lookup f16 = some ⟨oc16, od16, .func (PySem.W.fnOf "_law_cell" "_law_cell" (defArgs s_L_cell) (defBody s_L_cell) (defScope s_L_cell) .none kV16 dc16 pm16 an16 cd16 ct16), sl16⟩) (c16 : PySem.W.codeIn K cd16 "_law_cell" = true) (k16 : PySem.W.keepIn K (.ref f16) = true)
    {od17 an17 : Option Addr} {sl17 : Array (Option Value)} {oc17 kV17 dc17 pm17 cd17 ct17 : Value}
    (a17 : PySem.W.nsIn K mainGlobals "_law_mixed" = some (some (.ref f17))) (l17 : K.lookup f17 = some ⟨oc17, od17, .func (PySem.W.fnOf "_law_mixed" "_law_mixed" (defArgs s_L_mixed) (defBody s_L_mixed) (defScope s_L_mixed) .none kV17 dc17 pm17 an17 cd17 ct17), sl17⟩) (c17 : PySem.W.codeIn K cd17 "_law_mixed" = true) (k17 : PySem.W.keepIn K (.ref f17) = true)
    {od18 an18 : Option Addr} {sl18 : Array (Option Value)} {oc18 kV18 dc18 pm18 cd18 ct18 : Value}
    (a18 : PySem.W.nsIn K mainGlobals "_law_pool" = some (some (.ref f18))) (l18 : K.lookup f18 = some ⟨oc18, od18, .func (PySem.W.fnOf "_law_pool" "_law_pool" (defArgs s_L_pool) (defBody s_L_pool) (defScope s_L_pool) .none kV18 dc18 pm18 an18 cd18 ct18), sl18⟩) (c18 : PySem.W.codeIn K cd18 "_law_pool" = true) (k18 : PySem.W.keepIn K (.ref f18) = true)
    {od19 an19 : Option Addr} {sl19 : Array (Option Value)} {oc19 kV19 dc19 pm19 cd19 ct19 : Value}
    (a19 : PySem.W.nsIn K mainGlobals "_law_part" = some (some (.ref f19))) (l19 : K.lookup f19 = some ⟨oc19, od19, .func (PySem.W.fnOf "_law_part" "_law_part" (defArgs s_L_part) (defBody s_L_part) (defScope s_L_part) .none kV19 dc19 pm19 an19 cd19 ct19), sl19⟩) (c19 : PySem.W.codeIn K cd19 "_law_part" = true) (k19 : PySem.W.keepIn K (.ref f19) = true)
    {od20 an20 : Option Addr} {sl20 : Array (Option Value)} {oc20 kV20 dc20 pm20 cd20 ct20 : Value}
    (a20 : PySem.W.nsIn K mainGlobals "_law_names" = some (some (.ref f20))) (l20 : K.lookup f20 = some ⟨oc20, od20, .func (PySem.W.fnOf "_law_names" "_law_names" (defArgs s_L_names) (defBody s_L_names) (defScope s_L_names) .none kV20 dc20 pm20 an20 cd20 ct20), sl20⟩) (c20 : PySem.W.codeIn K cd20 "_law_names" = true) (k20 : PySem.W.keepIn K (.ref f20) = true)
    {od21 an21 : Option Addr} {sl21 : Array (Option Value)} {oc21 kV21 dc21 pm21 cd21 ct21 : Value}
    (a21 : PySem.W.nsIn K mainGlobals "_law_big" = some (some (.ref f21))) (l21 : K.lookup f21 = some ⟨oc21, od21, .func (PySem.W.fnOf "_law_big" "_law_big" (defArgs s_L_big) (defBody s_L_big) (defScope s_L_big) .none kV21 dc21 pm21 an21 cd21 ct21), sl21⟩) (c21 : PySem.W.codeIn K cd21 "_law_big" = true) (k21 : PySem.W.keepIn K (.ref f21) = true)
    {od22 an22 : Option Addr} {sl22 : Array (Option Value)} {oc22 kV22 dc22 pm22 cd22 ct22 : Value}
    (a22 : PySem.W.nsIn K mainGlobals "_law_ballots" = some (some (.ref f22))) (l22 : K.lookup f22 = some ⟨oc22, od22, .func (PySem.W.fnOf "_law_ballots" "_law_ballots" (defArgs s_L_ballots) (defBody s_L_ballots) (defScope s_L_ballots) .none kV22 dc22 pm22 an22 cd22 ct22), sl22⟩) (c22 : PySem.W.codeIn K cd22 "_law_ballots" = true) (k22 : PySem.W.keepIn K (.ref f22) = true)
    {od23 an23 : Option Addr} {sl23 : Array (Option Value)} {oc23 kV23 dc23 pm23 cd23 ct23 : Value}
    (a23 : PySem.W.nsIn K mainGlobals "_law_integer" = some (some (.ref f23))) (l23 : K.lookup f23 = some ⟨oc23, od23, .func (PySem.W.fnOf "_law_integer" "_law_integer" (defArgs s_L_integer) (defBody s_L_integer) (defScope s_L_integer) .none kV23 dc23 pm23 an23 cd23 ct23), sl23⟩) (c23 : PySem.W.codeIn K cd23 "_law_integer" = true) (k23 : PySem.W.keepIn K (.ref f23) = true)
    {od24 an24 : Option Addr} {sl24 : Array (Option Value)} {oc24 kV24 dc24 pm24 cd24 ct24 : Value}
    (a24 : PySem.W.nsIn K mainGlobals "_law_same" = some (some (.ref f24))) (l24 : K.lookup f24 = some ⟨oc24, od24, .func (PySem.W.fnOf "_law_same" "_law_same" (defArgs s_L_same) (defBody s_L_same) (defScope s_L_same) .none kV24 dc24 pm24 an24 cd24 ct24), sl24⟩) (c24 : PySem.W.codeIn K cd24 "_law_same" = true) (k24 : PySem.W.keepIn K (.ref f24) = true)
    {od25 an25 : Option Addr} {sl25 : Array (Option Value)} {oc25 kV25 dc25 pm25 cd25 ct25 : Value}
    (a25 : PySem.W.nsIn K mainGlobals "_law_votes" = some (some (.ref f25))) (l25 : K.lookup f25 = some ⟨oc25, od25, .func (PySem.W.fnOf "_law_votes" "_law_votes" (defArgs s_L_votes) (defBody s_L_votes) (defScope s_L_votes) .none kV25 dc25 pm25 an25 cd25 ct25), sl25⟩) (c25 : PySem.W.codeIn K cd25 "_law_votes" = true) (k25 : PySem.W.keepIn K (.ref f25) = true)
    {od26 an26 : Option Addr} {sl26 : Array (Option Value)} {oc26 kV26 dc26 pm26 cd26 ct26 : Value}
    (a26 : PySem.W.nsIn K mainGlobals "_law_all_ballots" = some (some (.ref f26))) (l26 : K.lookup f26 = some ⟨oc26, od26, .func (PySem.W.fnOf "_law_all_ballots" "_law_all_ballots" (defArgs s_L_all_ballots) (defBody s_L_all_ballots) (defScope s_L_all_ballots) .none kV26 dc26 pm26 an26 cd26 ct26), sl26⟩) (c26 : PySem.W.codeIn K cd26 "_law_all_ballots" = true) (k26 : PySem.W.keepIn K (.ref f26) = true)
    {od27 an27 : Option Addr} {sl27 : Array (Option Value)} {oc27 kV27 dc27 pm27 cd27 ct27 : Value}
    (a27 : PySem.W.nsIn K mainGlobals "_law_turned_about" = some (some (.ref f27))) (l27 : K.lookup f27 = some ⟨oc27, od27, .func (PySem.W.fnOf "_law_turned_about" "_law_turned_about" (defArgs s_L_turned_about) (defBody s_L_turned_about) (defScope s_L_turned_about) .none kV27 dc27 pm27 an27 cd27 ct27), sl27⟩) (c27 : PySem.W.codeIn K cd27 "_law_turned_about" = true) (k27 : PySem.W.keepIn K (.ref f27) = true)
    {od28 an28 : Option Addr} {sl28 : Array (Option Value)} {oc28 kV28 dc28 pm28 cd28 ct28 : Value}
    (a28 : PySem.W.nsIn K mainGlobals "_law_each_ballot" = some (some (.ref f28))) (l28 : K.lookup f28 = some ⟨oc28, od28, .func (PySem.W.fnOf "_law_each_ballot" "_law_each_ballot" (defArgs s_L_each_ballot) (defBody s_L_each_ballot) (defScope s_L_each_ballot) .none kV28 dc28 pm28 an28 cd28 ct28), sl28⟩) (c28 : PySem.W.codeIn K cd28 "_law_each_ballot" = true) (k28 : PySem.W.keepIn K (.ref f28) = true)
    {od29 an29 : Option Addr} {sl29 : Array (Option Value)} {oc29 kV29 dc29 pm29 cd29 ct29 : Value}
    (a29 : PySem.W.nsIn K mainGlobals "_law_given" = some (some (.ref f29))) (l29 : K.lookup f29 = some ⟨oc29, od29, .func (PySem.W.fnOf "_law_given" "_law_given" (defArgs s_L_given) (defBody s_L_given) (defScope s_L_given) .none kV29 dc29 pm29 an29 cd29 ct29), sl29⟩) (c29 : PySem.W.codeIn K cd29 "_law_given" = true) (k29 : PySem.W.keepIn K (.ref f29) = true)
    {od30 an30 : Option Addr} {sl30 : Array (Option Value)} {oc30 kV30 dc30 pm30 cd30 ct30 : Value}
    (a30 : PySem.W.nsIn K mainGlobals "_law_missing_sums" = some (some (.ref f30))) (l30 : K.lookup f30 = some ⟨oc30, od30, .func (PySem.W.fnOf "_law_missing_sums" "_law_missing_sums" (defArgs s_L_missing_sums) (defBody s_L_missing_sums) (defScope s_L_missing_sums) .none kV30 dc30 pm30 an30 cd30 ct30), sl30⟩) (c30 : PySem.W.codeIn K cd30 "_law_missing_sums" = true) (k30 : PySem.W.keepIn K (.ref f30) = true)
    {od31 an31 : Option Addr} {sl31 : Array (Option Value)} {oc31 kV31 dc31 pm31 cd31 ct31 : Value}
    (a31 : PySem.W.nsIn K mainGlobals "_law_value" = some (some (.ref f31))) (l31 : K.lookup f31 = some ⟨oc31, od31, .func (PySem.W.fnOf "_law_value" "_law_value" (defArgs s_L_value) (defBody s_L_value) (defScope s_L_value) .none kV31 dc31 pm31 an31 cd31 ct31), sl31⟩) (c31 : PySem.W.codeIn K cd31 "_law_value" = true) (k31 : PySem.W.keepIn K (.ref f31) = true)
    {od32 an32 : Option Addr} {sl32 : Array (Option Value)} {oc32 kV32 dc32 pm32 cd32 ct32 : Value}
    (a32 : PySem.W.nsIn K mainGlobals "_law_rows_right" = some (some (.ref f32))) (l32 : K.lookup f32 = some ⟨oc32, od32, .func (PySem.W.fnOf "_law_rows_right" "_law_rows_right" (defArgs s_L_rows_right) (defBody s_L_rows_right) (defScope s_L_rows_right) .none kV32 dc32 pm32 an32 cd32 ct32), sl32⟩) (c32 : PySem.W.codeIn K cd32 "_law_rows_right" = true) (k32 : PySem.W.keepIn K (.ref f32) = true)
    {od33 an33 : Option Addr} {sl33 : Array (Option Value)} {oc33 kV33 dc33 pm33 cd33 ct33 : Value}
    (a33 : PySem.W.nsIn K mainGlobals "_law_shown" = some (some (.ref f33))) (l33 : K.lookup f33 = some ⟨oc33, od33, .func (PySem.W.fnOf "_law_shown" "_law_shown" (defArgs s_L_shown) (defBody s_L_shown) (defScope s_L_shown) .none kV33 dc33 pm33 an33 cd33 ct33), sl33⟩) (c33 : PySem.W.codeIn K cd33 "_law_shown" = true) (k33 : PySem.W.keepIn K (.ref f33) = true)
    {od34 an34 : Option Addr} {sl34 : Array (Option Value)} {oc34 kV34 dc34 pm34 cd34 ct34 : Value}
    (a34 : PySem.W.nsIn K mainGlobals "_law_chain_right" = some (some (.ref f34))) (l34 : K.lookup f34 = some ⟨oc34, od34, .func (PySem.W.fnOf "_law_chain_right" "_law_chain_right" (defArgs s_L_chain_right) (defBody s_L_chain_right) (defScope s_L_chain_right) .none kV34 dc34 pm34 an34 cd34 ct34), sl34⟩) (c34 : PySem.W.codeIn K cd34 "_law_chain_right" = true) (k34 : PySem.W.keepIn K (.ref f34) = true)
    {od35 an35 : Option Addr} {sl35 : Array (Option Value)} {oc35 kV35 dc35 pm35 cd35 ct35 : Value}
    (a35 : PySem.W.nsIn K mainGlobals "_law_refusal" = some (some (.ref f35))) (l35 : K.lookup f35 = some ⟨oc35, od35, .func (PySem.W.fnOf "_law_refusal" "_law_refusal" (defArgs s_L_refusal) (defBody s_L_refusal) (defScope s_L_refusal) .none kV35 dc35 pm35 an35 cd35 ct35), sl35⟩) (c35 : PySem.W.codeIn K cd35 "_law_refusal" = true) (k35 : PySem.W.keepIn K (.ref f35) = true)
    {od36 an36 : Option Addr} {sl36 : Array (Option Value)} {oc36 kV36 dc36 pm36 cd36 ct36 : Value}
    (a36 : PySem.W.nsIn K mainGlobals "_law_order_right" = some (some (.ref f36))) (l36 : K.lookup f36 = some ⟨oc36, od36, .func (PySem.W.fnOf "_law_order_right" "_law_order_right" (defArgs s_L_order_right) (defBody s_L_order_right) (defScope s_L_order_right) .none kV36 dc36 pm36 an36 cd36 ct36), sl36⟩) (c36 : PySem.W.codeIn K cd36 "_law_order_right" = true) (k36 : PySem.W.keepIn K (.ref f36) = true)
    {od37 an37 : Option Addr} {sl37 : Array (Option Value)} {oc37 kV37 dc37 pm37 cd37 ct37 : Value}
    (a37 : PySem.W.nsIn K mainGlobals "law" = some (some (.ref f37))) (l37 : K.lookup f37 = some ⟨oc37, od37, .func (PySem.W.fnOf "law" "law" (defArgs s_law) (defBody s_law) (defScope s_law) .none kV37 dc37 pm37 an37 cd37 ct37), sl37⟩) (c37 : PySem.W.codeIn K cd37 "law" = true) (k37 : PySem.W.keepIn K (.ref f37) = true)
    (aL : PySem.W.nsIn K mainGlobals "LETTERS" = some (some (.str lettersZ tk)))
    (z_len : PySem.W.nsIn K mainGlobals "len" = some none)
    (z_all : PySem.W.nsIn K mainGlobals "all" = some none)
    (z_enumerate : PySem.W.nsIn K mainGlobals "enumerate" = some none)
    (z_tuple : PySem.W.nsIn K mainGlobals "tuple" = some none)
    (z_list : PySem.W.nsIn K mainGlobals "list" = some none)
    (z_range : PySem.W.nsIn K mainGlobals "range" = some none)
    (z_abs : PySem.W.nsIn K mainGlobals "abs" = some none)
    (z_int : PySem.W.nsIn K mainGlobals "int" = some none)
    (z_min : PySem.W.nsIn K mainGlobals "min" = some none)
    (z_max : PySem.W.nsIn K mainGlobals "max" = some none)
    (z_isinstance : PySem.W.nsIn K mainGlobals "isinstance" = some none)
    (z_bool : PySem.W.nsIn K mainGlobals "bool" = some none)
    (z_str : PySem.W.nsIn K mainGlobals "str" = some none)
    (z_iter : PySem.W.nsIn K mainGlobals "iter" = some none)
    (z_zip : PySem.W.nsIn K mainGlobals "zip" = some none)
    (z_sum : PySem.W.nsIn K mainGlobals "sum" = some none)
    (z_sorted : PySem.W.nsIn K mainGlobals "sorted" = some none)
    (z_dict : PySem.W.nsIn K mainGlobals "dict" = some none)
    (z_ValueError : PySem.W.nsIn K mainGlobals "ValueError" = some none)
    (aC : PySem.W.nsIn K mainGlobals "Roll" = some (some (.ref C))) (aCS : PySem.W.nsIn K mainGlobals "SumRows" = some (some (.ref CS)))
    (aI : PySem.W.findIn K (.ref C) "__init__" = some (some (.ref fI))) (iI : PySem.W.isFn K (.ref fI) = true) (lI : K.lookup fI = some ⟨ocI, odI, .func (PySem.W.fnOf "__init__" "Roll.__init__" (defArgs s_Roll_init) (defBody s_Roll_init) (defScope s_Roll_init) (.ref TI) kVI dcI pmI anI cdI ctI), slI⟩) (cI : PySem.W.codeIn K cdI "Roll.__init__" = true) (kI : PySem.W.keepIn K (.ref fI) = true)
    (aS : PySem.W.findIn K (.ref CS) "__init__" = some (some (.ref fS))) (iS : PySem.W.isFn K (.ref fS) = true) (lS : K.lookup fS = some ⟨ocS, odS, .func (PySem.W.fnOf "__init__" "SumRows.__init__" (defArgs s_SumRows_init) (defBody s_SumRows_init) (defScope s_SumRows_init) .none kVS dcS pmS anS cdS ctS), slS⟩) (cS : PySem.W.codeIn K cdS "SumRows.__init__" = true) (kS : PySem.W.keepIn K (.ref fS) = true)
    (aA : PySem.W.findIn K (.ref C) "__add__" = some (some (.ref fA))) (iA : PySem.W.isFn K (.ref fA) = true) (lA : K.lookup fA = some ⟨ocA, odA, .func (PySem.W.fnOf "__add__" "Roll.__add__" (defArgs s_Roll_add) (defBody s_Roll_add) (defScope s_Roll_add) .none kVA dcA pmA anA cdA ctA), slA⟩) (cA : PySem.W.codeIn K cdA "Roll.__add__" = true) (kA : PySem.W.keepIn K (.ref fA) = true)
    (aY : PySem.W.findIn K (.ref C) "__iter__" = some (some (.ref fY))) (iY : PySem.W.isFn K (.ref fY) = true) (lY : K.lookup fY = some ⟨ocY, odY, .func (PySem.W.fnOf "__iter__" "Roll.__iter__" (defArgs s_Roll_iter) (defBody s_Roll_iter) (defScope s_Roll_iter) .none kVY dcY pmY anY cdY ctY), slY⟩) (cY : PySem.W.codeIn K cdY "Roll.__iter__" = true) (kY : PySem.W.keepIn K (.ref fY) = true)
    (pg : PySem.W.plainGet K C Str.empty = true) (hd : PySem.W.hasDictIn K C = true) (po : PySem.W.plainOver K C = true) (sa : PySem.W.findIn K (.ref C) "__setattr__" = some (some (.builtin "object.__setattr__"))) (mk : PySem.W.makesIn K C = true) (kc : PySem.W.keepIn K (.ref C) = true) (nA0 : PySem.W.findIn K (.ref C) "options" = some none) (nA1 : PySem.W.findIn K (.ref C) "_rows" = some none) (nA2 : PySem.W.findIn K (.ref C) "total" = some none)
    (pgS : PySem.W.plainGet K CS Str.empty = true) (hdS : PySem.W.hasDictIn K CS = true) (poS : PySem.W.plainOver K CS = true) (saS : PySem.W.findIn K (.ref CS) "__setattr__" = some (some (.builtin "object.__setattr__"))) (mkS : PySem.W.makesIn K CS = true) (kcS : PySem.W.keepIn K (.ref CS) = true) (nA0S : PySem.W.findIn K (.ref CS) "pairs" = some none)
    (lTI : K.lookup TI = some ⟨ocD, odD, .seq (List.toArray [Value.ref EI]) nD, slD⟩) (lEI : K.lookup EI = some ⟨.type "tuple", odEm, .seq (List.toArray []) nX, slEm⟩)
    (lDN : K.lookup DN = some ⟨ocN2, odN2, .seq (List.toArray [Value.bool false]) nN, slN2⟩) (sfC : PySem.W.selfFirst K C = true)
    (hclS : PySem.W.findIn K (.ref CS) "__class__" = some (some (.builtin "object.__class__"))) (hgt : PySem.W.specialIn K (.builtin "object.__class__") "__get__" = some (some (.builtin "getset_descriptor.__get__")))
    (htk : PySem.W.takesIn K (.builtin "object.__class__") = some true) (hmrS : PySem.W.mroIn K CS (.type "object") = some true)
    (isS : PySem.W.isClsIn K CS = true) (tyS : PySem.W.typeIn K (.ref CS) = some (.type "type")) (nfSL : PySem.W.notFirst K CS (.type "list") = true) (nfST : PySem.W.notFirst K CS (.type "tuple") = true)
    (htopS : (l.prog.main.scope.names.lookup ("super" : Str)).isSome = false) (z_super : PySem.W.nsIn K mainGlobals "super" = some none) (hstS : PySem.W.nsIn K cStatics "thirdparty.any" = some none)
    (aeB : PySem.W.nsIn K mainGlobals "BadNumber" = some (some (.ref CeB))) (ibeB : PySem.W.findIn K (.ref CeB) "__init__" = some (some (.ref feB)))
    (leB : K.lookup feB = some ⟨oceB, odeB, .func (PySem.W.fnX "__init__" "BadNumber.__init__" (defArgs s_BadNumber_init) (defBody s_BadNumber_init) (defScope s_BadNumber_init) [("__class__", cceB)] .none kVeB doceB pmeB aneB (.ref cdaeB) cteB), osleB⟩) (cbeB : PySem.W.codeIn K (.ref cdaeB) "BadNumber.__init__" = true)
    (hceB : K.lookup cdaeB = some ⟨ccleB, cddeB, .fields vseB, ccseB⟩) (hveB : vseB[2]? = some (.str fileeB tfeB)) (hfeB : ((l.prog.main.file : Str) == fileeB) = true) (hleB : K.lookup cceB = some ⟨cleB, cldeB, .cell (some (.ref CeB)), csleB⟩)
    (lceB : K.lookup CeB = some (excClassObj nmeB qeB CeB NNeB bseB bmeB true sneB subeB abeB coleB ddeB k0eB k1eB k2eB k3eB k5eB "ValueError.__new__")) (rfeB : PySem.HandSPX.refsVE bmeB = true) (saeB : PySem.W.findIn K (.ref CeB) "__setattr__" = some (some (.builtin "object.__setattr__")))
    (bxeB : PySem.W.subIn K (.ref CeB) (.type "BaseException") = some true) (tyeB : PySem.W.typeIn K (.ref CeB) = some (.type "type")) (kceB : PySem.W.keepIn K (.ref CeB) = true) (hmeB : PySem.W.mroIn K CeB (.ref CeB) = some true)
    (aleB : PySem.W.ks_superIn K CeB CeB "__init__" = some (some (.builtin "ValueError.__init__"))) (veeB : PySem.W.subIn K (.ref CeB) (.type "ValueError") = some true) (noeB : PySem.W.findIn K (.ref CeB) "number" = some none) (tfeBx : PySem.W.typeIn K (.ref feB) = some (.type "function"))
    (gaeB : PySem.W.findIn K (.ref CeB) "__getattribute__" = some (some (.builtin "BaseException.__getattribute__"))) (ggeB : PySem.W.findIn K (.ref CeB) "__getattr__" = some none) (hdeB : PySem.W.hasDictIn K CeB = true) (cceBx : PySem.W.findIn K (.ref CeB) "__class__" = some (some (.builtin "object.__class__")))
    (moeB : PySem.W.mroIn K CeB (.type "object") = some true) (iseB : PySem.W.isClsIn K CeB = true) (sueB : PySem.W.subIn K (.ref CeB) (.ref CeB) = some true)
    (aN1 : PySem.W.nsIn K mainGlobals "Refused" = some (some (.ref CN1))) (isN1 : PySem.W.isClsIn K CN1 = true) (tyN1 : PySem.W.typeIn K (.ref CN1) = some (.type "type"))
    (aN2 : PySem.W.nsIn K mainGlobals "BadCount" = some (some (.ref CN2))) (isN2 : PySem.W.isClsIn K CN2 = true) (tyN2 : PySem.W.typeIn K (.ref CN2) = some (.type "type"))
    (aN3 : PySem.W.nsIn K mainGlobals "UnknownName" = some (some (.ref CN3))) (isN3 : PySem.W.isClsIn K CN3 = true) (tyN3 : PySem.W.typeIn K (.ref CN3) = some (.type "type"))
    (aNH : PySem.W.nsIn K mainGlobals "HouseError" = some (some (.ref CNH))) (isNH : PySem.W.isClsIn K CNH = true) (tyNH : PySem.W.typeIn K (.ref CNH) = some (.type "type"))
    (sbeB_N1 : PySem.W.subIn K (.ref CeB) (.ref CN1) = some false)
    (sbeB_N2 : PySem.W.subIn K (.ref CeB) (.ref CN2) = some false)
    (sbeB_N3 : PySem.W.subIn K (.ref CeB) (.ref CN3) = some false)
    (sbeB_NH : PySem.W.subIn K (.ref CeB) (.ref CNH) = some true) :
    ∃ fd : FuncData, (∀ (s : Shared) (v : Value), BindsTo s fd ⟨[v], []⟩ [("_law_script", v)]) ∧ ∀ base : Heap, K.In base → base.Ns mainGlobals mg → FnOk l.prog w K mg base CX0 8 fa fd ["_law_script"] (spLaw K) := by
  have e := hfa.symm.trans (PySem.W.mg_of X G a37)
  cases e
  have m_len := PySem.W.mg_none_of X G z_len
  have m_all := PySem.W.mg_none_of X G z_all
  have m_enumerate := PySem.W.mg_none_of X G z_enumerate
  have m_tuple := PySem.W.mg_none_of X G z_tuple
  have m_list := PySem.W.mg_none_of X G z_list
  have m_range := PySem.W.mg_none_of X G z_range
  have m_abs := PySem.W.mg_none_of X G z_abs
  have m_int := PySem.W.mg_none_of X G z_int
  have m_min := PySem.W.mg_none_of X G z_min
  have m_max := PySem.W.mg_none_of X G z_max
  have m_isinstance := PySem.W.mg_none_of X G z_isinstance
  have m_bool := PySem.W.mg_none_of X G z_bool
  have m_str := PySem.W.mg_none_of X G z_str
  have m_iter := PySem.W.mg_none_of X G z_iter
  have m_zip := PySem.W.mg_none_of X G z_zip
  have m_sum := PySem.W.mg_none_of X G z_sum
  have m_sorted := PySem.W.mg_none_of X G z_sorted
  have m_dict := PySem.W.mg_none_of X G z_dict
  have m_ValueError := PySem.W.mg_none_of X G z_ValueError
  have F0 := fun_mk (st := s_top) l0 c0 k0
  have b0 := F0.binds (ps := ["ballot", "remaining"]) fun _ _ _ _ _ _ us hl => match us, hl with | [_, _], _ => rfl
  have g0 := PySem.W.mg_of X G a0
  have F1 := fun_mk (st := s_votes_for) l1 c1 k1
  have b1 := F1.binds (ps := ["roll", "remaining"]) fun _ _ _ _ _ _ us hl => match us, hl with | [_, _], _ => rfl
  have g1 := PySem.W.mg_of X G a1
  have F2 := fun_mk (st := s_is_name) l2 c2 k2
  have b2 := F2.binds (ps := ["word"]) fun _ _ _ _ _ _ us hl => match us, hl with | [_], _ => rfl
  have g2 := PySem.W.mg_of X G a2
  have F3 := fun_mk (st := s_check_size) l3 c3 k3
  have b3 := F3.binds (ps := ["size", "low", "high"]) fun _ _ _ _ _ _ us hl => match us, hl with | [_, _, _], _ => rfl
  have g3 := PySem.W.mg_of X G a3
  have F4 := fun_mk (st := s_check_range) l4 c4 k4
  have b4 := F4.binds (ps := ["number", "low", "high"]) fun _ _ _ _ _ _ us hl => match us, hl with | [_, _, _], _ => rfl
  have g4 := PySem.W.mg_of X G a4
  have F5 : FunD K "check_names" "check_names" (defArgs s_check_names) (defBody s_check_names) (defScope s_check_names) [V.bl false] [] f5 _ := ⟨⟨oc5, od5, .ref DN, kV5, dc5, pm5, an5, cd5, ct5, sl5, rfl, l5, c5, .inr ⟨by simp, DN, _, [Value.bool false], nN, rfl, lDN, rfl, .cons rfl .nil⟩, .inl rfl⟩, k5⟩
  have g5 := PySem.W.mg_of X G a5
  have F6 := fun_mk (st := s_check_picks) l6 c6 k6
  have b6 := F6.binds (ps := ["picks", "known"]) fun _ _ _ _ _ _ us hl => match us, hl with | [_, _], _ => rfl
  have g6 := PySem.W.mg_of X G a6
  have F7 := fun_mk (st := s_lead) l7 c7 k7
  have b7 := F7.binds (ps := ["options", "leaver", "other"]) fun _ _ _ _ _ _ us hl => match us, hl with | [_, _, _], _ => rfl
  have g7 := PySem.W.mg_of X G a7
  have F8 := fun_mk (st := s_check_order) l8 c8 k8
  have b8 := F8.binds (ps := ["options", "order"]) fun _ _ _ _ _ _ us hl => match us, hl with | [_, _], _ => rfl
  have g8 := PySem.W.mg_of X G a8
  have F9 := fun_mk (st := s_lack_rows) l9 c9 k9
  have b9 := F9.binds (ps := ["roll", "order"]) fun _ _ _ _ _ _ us hl => match us, hl with | [_, _], _ => rfl
  have g9 := PySem.W.mg_of X G a9
  have F10 := fun_mk (st := s_next_lacks) l10 c10 k10
  have b10 := F10.binds (ps := ["roll", "remaining", "leaver", "before"]) fun _ _ _ _ _ _ us hl => match us, hl with | [_, _, _, _], _ => rfl
  have g10 := PySem.W.mg_of X G a10
  have F11 := fun_mk (st := s_chain_weights) l11 c11 k11
  have b11 := F11.binds (ps := ["roll", "order", "at"]) fun _ _ _ _ _ _ us hl => match us, hl with | [_, _, _], _ => rfl
  have g11 := PySem.W.mg_of X G a11
  have F12 := fun_mk (st := s_chain) l12 c12 k12
  have b12 := F12.binds (ps := ["rows", "order", "option", "at"]) fun _ _ _ _ _ _ us hl => match us, hl with | [_, _, _, _], _ => rfl
  have g12 := PySem.W.mg_of X G a12
  have F13 := fun_mk (st := s_checked_pairs) l13 c13 k13
  have b13 := F13.binds (ps := ["options", "rows"]) fun _ _ _ _ _ _ us hl => match us, hl with | [_, _], _ => rfl
  have g13 := PySem.W.mg_of X G a13
  have F14 := fun_mk (st := s_ballot) l14 c14 k14
  have b14 := F14.binds (ps := ["options", "places"]) fun _ _ _ _ _ _ us hl => match us, hl with | [_, _], _ => rfl
  have g14 := PySem.W.mg_of X G a14
  have F15 := fun_mk (st := s_added_up) l15 c15 k15
  have b15 := F15.binds (ps := ["options", "pairs"]) fun _ _ _ _ _ _ us hl => match us, hl with | [_, _], _ => rfl
  have g15 := PySem.W.mg_of X G a15
  have F16 := fun_mk (st := s_L_cell) l16 c16 k16
  have b16 := F16.binds (ps := ["_law_script", "_law_k"]) fun _ _ _ _ _ _ us hl => match us, hl with | [_, _], _ => rfl
  have g16 := PySem.W.mg_of X G a16
  have F17 := fun_mk (st := s_L_mixed) l17 c17 k17
  have b17 := F17.binds (ps := ["_law_cell_here", "_law_k"]) fun _ _ _ _ _ _ us hl => match us, hl with | [_, _], _ => rfl
  have g17 := PySem.W.mg_of X G a17
  have F18 := fun_mk (st := s_L_pool) l18 c18 k18
  have b18 := F18.binds (ps := ["_law_cell_here", "_law_number"]) fun _ _ _ _ _ _ us hl => match us, hl with | [_, _], _ => rfl
  have g18 := PySem.W.mg_of X G a18
  have F19 := fun_mk (st := s_L_part) l19 c19 k19
  have b19 := F19.binds (ps := ["_law_pool_here", "_law_spot", "_law_under", "_law_size"]) fun _ _ _ _ _ _ us hl => match us, hl with | [_, _, _, _], _ => rfl
  have g19 := PySem.W.mg_of X G a19
  have F20 := fun_mk (st := s_L_names) l20 c20 k20
  have b20 := F20.binds (ps := ["_law_pool_here", "_law_spot", "_law_number"]) fun _ _ _ _ _ _ us hl => match us, hl with | [_, _, _], _ => rfl
  have g20 := PySem.W.mg_of X G a20
  have F21 := fun_mk (st := s_L_big) l21 c21 k21
  have b21 := F21.binds (ps := ["_law_pool_here", "_law_spot", "_law_least", "_law_crest"]) fun _ _ _ _ _ _ us hl => match us, hl with | [_, _, _, _], _ => rfl
  have g21 := PySem.W.mg_of X G a21
  have F22 := fun_mk (st := s_L_ballots) l22 c22 k22
  have b22 := F22.binds (ps := ["_law_pool_here", "_law_spot", "_law_options", "_law_number"]) fun _ _ _ _ _ _ us hl => match us, hl with | [_, _, _, _], _ => rfl
  have g22 := PySem.W.mg_of X G a22
  have F23 := fun_mk (st := s_L_integer) l23 c23 k23
  have b23 := F23.binds (ps := ["_law_got"]) fun _ _ _ _ _ _ us hl => match us, hl with | [_], _ => rfl
  have g23 := PySem.W.mg_of X G a23
  have F24 := fun_mk (st := s_L_same) l24 c24 k24
  have b24 := F24.binds (ps := ["_law_got", "_law_wanted"]) fun _ _ _ _ _ _ us hl => match us, hl with | [_, _], _ => rfl
  have g24 := PySem.W.mg_of X G a24
  have F25 := fun_mk (st := s_L_votes) l25 c25 k25
  have b25 := F25.binds (ps := ["_law_rows", "_law_options", "_law_left"]) fun _ _ _ _ _ _ us hl => match us, hl with | [_, _, _], _ => rfl
  have g25 := PySem.W.mg_of X G a25
  have F26 := fun_mk (st := s_L_all_ballots) l26 c26 k26
  have b26 := F26.binds (ps := ["_law_choices"]) fun _ _ _ _ _ _ us hl => match us, hl with | [_], _ => rfl
  have g26 := PySem.W.mg_of X G a26
  have F27 := fun_mk (st := s_L_turned_about) l27 c27 k27
  have b27 := F27.binds (ps := ["_law_choices", "_law_given_here"]) fun _ _ _ _ _ _ us hl => match us, hl with | [_, _], _ => rfl
  have g27 := PySem.W.mg_of X G a27
  have F28 := fun_mk (st := s_L_each_ballot) l28 c28 k28
  have b28 := F28.binds (ps := ["_law_choices", "_law_draws"]) fun _ _ _ _ _ _ us hl => match us, hl with | [_, _], _ => rfl
  have g28 := PySem.W.mg_of X G a28
  have F29 := fun_mk (st := s_L_given) l29 c29 k29
  have b29 := F29.binds (ps := ["_law_choices", "_law_head", "_law_pool_here", "_law_cell_here"]) fun _ _ _ _ _ _ us hl => match us, hl with | [_, _, _, _], _ => rfl
  have g29 := PySem.W.mg_of X G a29
  have F30 := fun_mk (st := s_L_missing_sums) l30 c30 k30
  have b30 := F30.binds (ps := ["_law_choices", "_law_given_here", "_law_leave"]) fun _ _ _ _ _ _ us hl => match us, hl with | [_, _, _], _ => rfl
  have g30 := PySem.W.mg_of X G a30
  have F31 := fun_mk (st := s_L_value) l31 c31 k31
  have b31 := F31.binds (ps := ["_law_leave", "_law_rows", "_law_ballot"]) fun _ _ _ _ _ _ us hl => match us, hl with | [_, _, _], _ => rfl
  have g31 := PySem.W.mg_of X G a31
  have F32 := fun_mk (st := s_L_rows_right) l32 c32 k32
  have b32 := F32.binds (ps := ["_law_choices", "_law_leave", "_law_rows", "_law_crest"]) fun _ _ _ _ _ _ us hl => match us, hl with | [_, _, _, _], _ => rfl
  have g32 := PySem.W.mg_of X G a32
  have F33 := fun_mk (st := s_L_shown) l33 c33 k33
  have b33 := F33.binds (ps := ["_law_choices", "_law_given_here", "_law_leave", "_law_rows"]) fun _ _ _ _ _ _ us hl => match us, hl with | [_, _, _, _], _ => rfl
  have g33 := PySem.W.mg_of X G a33
  have F34 := fun_mk (st := s_L_chain_right) l34 c34 k34
  have b34 := F34.binds (ps := ["_law_choices", "_law_given_here", "_law_leave", "_law_rows", "_law_turn"]) fun _ _ _ _ _ _ us hl => match us, hl with | [_, _, _, _, _], _ => rfl
  have g34 := PySem.W.mg_of X G a34
  have F35 := fun_mk (st := s_L_refusal) l35 c35 k35
  have b35 := F35.binds (ps := ["_law_sheet", "_law_leave", "_law_turn"]) fun _ _ _ _ _ _ us hl => match us, hl with | [_, _, _], _ => rfl
  have g35 := PySem.W.mg_of X G a35
  have F36 := fun_mk (st := s_L_order_right) l36 c36 k36
  have b36 := F36.binds (ps := ["_law_sheet", "_law_choices", "_law_given_here", "_law_leave"]) fun _ _ _ _ _ _ us hl => match us, hl with | [_, _, _, _], _ => rfl
  have g36 := PySem.W.mg_of X G a36
  have F37 := fun_mk (st := s_law) l37 c37 k37
  have b37 := F37.binds (ps := ["_law_script"]) fun _ _ _ _ _ _ us hl => match us, hl with | [_], _ => rfl
  have g37 := PySem.W.mg_of X G a37
  have gLET := PySem.W.mg_of X G aL
  refine ⟨PySem.W.fnOf "law" "law" (defArgs s_law) (defBody s_law) (defScope s_law) .none kV37 dc37 pm37 an37 cd37 ct37, fun s v => .of_eq rfl, fun base _ _ => ?_⟩
  have TR : TxtR K C := ⟨⟨pg, hd, po, sa⟩, nA0, nA1, nA2⟩
  have TSR : TxtS K CS := ⟨⟨pgS, hdS, poS, saS⟩, nA0S, kit_off isS tyS nfSL, kit_off isS tyS nfST, hclS, hgt, htk, hmrS⟩
  have mgC := PySem.W.mg_of X G aC
  have mgS := PySem.W.mg_of X G aCS
  have FI : FunD K "__init__" "Roll.__init__" (defArgs s_Roll_init) (defBody s_Roll_init) (defScope s_Roll_init) [V.ref EI] [] fI _ := ⟨⟨ocI, odI, .ref TI, kVI, dcI, pmI, anI, cdI, ctI, slI, rfl, lI, cI, .inr ⟨by simp, TI, _, [Value.ref EI], nD, rfl, lTI, rfl, .cons rfl .nil⟩, .inl rfl⟩, kI⟩
  obtain ⟨dsI, vdI, bI⟩ := FI.binds1 (ps := ["self", "options", "rows"]) 3 1 (by simp) rfl fun _ _ _ _ _ _ _ us its h1 h2 => match us, h1, its, h2 with | [_, _, _], _, [_], _ => ⟨_, rfl, rfl⟩
  cases (show Vals [] dsI from vdI)
  have MR : Mk K C fI := ⟨mk, aI, iI, kc⟩
  have MS : Mk K CS fS := ⟨mkS, aS, iS, kcS⟩
  have FS := fun_mk (st := s_SumRows_init) lS cS kS
  have bS := FS.binds (ps := ["self", "pairs"]) fun _ _ _ _ _ _ us hl => match us, hl with | [_, _], _ => rfl
  have FA := fun_mk (st := s_Roll_add) lA cA kA
  have bA := FA.binds (ps := ["self", "other"]) fun _ _ _ _ _ _ us hl => match us, hl with | [_, _], _ => rfl
  have FY := fun_mk (st := s_Roll_iter) lY cY kY
  have bY := FY.binds (ps := ["self"]) fun _ _ _ _ _ _ us hl => match us, hl with | [_], _ => rfl
  have OA : Own K C "__add__" fA := ⟨aA, iA⟩
  have OY : Own K C "__iter__" fY := ⟨aY, iY⟩
  have m_super := PySem.W.mg_none_of X G z_super
  have KeB : ClsK K CeB := ⟨iseB, tyeB⟩
  have TeB : SupT l.prog w K mg base "BadNumber" "number" "number" (fun _ => True) CeB feB _ := ⟨PySem.W.mg_of X G aeB, oexC_mk lceB rfeB saeB bxeB tyeB kceB, ibeB, tfeBx, fn_sup (k := 0) (okv := fun _ => True) leB cbeB hceB hveB hfeB hleB (nscope_by (by decide +kernel)) (by decide +kernel) rfl rfl htopS m_super (oexC_mk lceB rfeB saeB bxeB tyeB kceB) hmeB hstS aleB veeB noeB
    (fun A outer s H E => pa_cons pe_str pa_nil) (fun _ => rfl) (fun a y H Q _ h => h _) (by decide) (by decide) (fun _ => rfl), Binds.all (fun us hl => match us, hl with | [_, _], _ => rfl), ⟨gaeB, ggeB, bxeB, hdeB⟩, noeB, exm_self KeB bxeB sueB⟩
  have EeB : ExcC K CeB := ⟨gaeB, ggeB, bxeB, hdeB, cceBx, hgt, htk, moeB⟩
  have KN1 : ClsK K CN1 := ⟨isN1, tyN1⟩
  have KN2 : ClsK K CN2 := ⟨isN2, tyN2⟩
  have KN3 : ClsK K CN3 := ⟨isN3, tyN3⟩
  have KNH : ClsK K CNH := ⟨isNH, tyNH⟩
  have ET : ErrT K mg CeB CN1 CN2 CN3 CNH := ⟨PySem.W.mg_of X G aN1, PySem.W.mg_of X G aN2, PySem.W.mg_of X G aN3, PySem.W.mg_of X G aNH, kit_no KN1 sueB sbeB_N1, kit_no KN2 sueB sbeB_N2, kit_no KN3 sueB sbeB_N3, kit_yes KNH sbeB_NH, kitT_yes kitMeta_VE veeB⟩
  have d_top : Def l.prog w K mg base "top" 1 ["ballot", "remaining"] (spTop K) := ⟨_, _, ok_top F0 , g0, k0, b0⟩
  have I_Roll := ok_Roll_iter (P := l.prog) (w := w) (mg := mg) (base := base) FY bY TR m_iter
  have d_votes_for : Def l.prog w K mg base "votes_for" 2 ["roll", "remaining"] (spVotes K C) := ⟨_, _, ok_votes_for F1 TR OY I_Roll m_tuple m_sum d_top, g1, k1, b1⟩
  have d_is_name : Def l.prog w K mg base "is_name" 1 ["word"] spIsNameH := ⟨_, _, ok_is_nameH F2 m_len m_all gLET, g2, k2, b2⟩
  have d_check_size : Def l.prog w K mg base "check_size" 1 ["size", "low", "high"] (spRange) := ⟨_, _, ok_check_size F3 , g3, k3, b3⟩
  have d_check_range : Def l.prog w K mg base "check_range" 1 ["number", "low", "high"] (spRange) := ⟨_, _, ok_check_range F4 , g4, k4, b4⟩
  obtain ⟨dsN2, vdN2, bdN2⟩ := F5.binds1 (ps := ["names", "most", "hook"]) 2 0 (by simp) rfl fun _ _ _ _ _ _ _ us its h1 h2 => match us, h1, its, h2 with | [_, _], _, [_], _ => ⟨_, rfl, rfl⟩
  have d_check_names : DefD l.prog w K mg base "check_names" 2 ["names", "most", "hook"] (spCheckN K) [.bl false] := ⟨_, _, dsN2, ok_check_namesN F5 m_len m_enumerate d_check_size d_is_name, g5, k5, bdN2, vdN2⟩
  have d_check_picks : Def l.prog w K mg base "check_picks" 1 ["picks", "known"] (spPicks K) := ⟨_, _, ok_check_picks F6 m_enumerate, g6, k6, b6⟩
  have d_lead : Def l.prog w K mg base "lead" 1 ["options", "leaver", "other"] (spLead K) := ⟨_, _, ok_lead F7 , g7, k7, b7⟩
  have d_check_order : Def l.prog w K mg base "check_order" 2 ["options", "order"] (spCheckO K) := ⟨_, _, ok_check_order F8 m_len d_check_picks, g8, k8, b8⟩
  have d_next_lacks : Def l.prog w K mg base "_next_lacks" 3 ["roll", "remaining", "leaver", "before"] (spNext C K) := ⟨_, _, ok_next_lacks F10 TR m_dict m_zip m_max d_votes_for d_lead, g10, k10, b10⟩
  have d_lack_rows : Def l.prog w K mg base "lack_rows" 4 ["roll", "order"] (spLackRows K C) := ⟨_, _, ok_lack_rows F9 TR m_enumerate d_next_lacks, g9, k9, b9⟩
  have d_chain : Def l.prog w K mg base "_chain" 1 ["rows", "order", "option", "at"] (spChain K) := ⟨_, _, ok_chain F12 , g12, k12, b12⟩
  have kb_cw : KB K _ ["roll", "order", "at"] 0 ["roll", "order", "at"] [0, 1, 2] := fun_kbn F11 0 ["roll", "order", "at"] [0, 1, 2] fun _ _ _ _ _ _ us ws h1 h2 => match us, h1, ws, h2 with | [], _, [_, _, _], _ => rfl
  have G_cw := ok_chain_weights (P := l.prog) (w := w) (mg := mg) (base := base) F11 TR m_len m_tuple d_check_order d_check_range d_lack_rows d_chain
  have d_chain_weights : Def l.prog w K mg base "chain_weights" 5 ["roll", "order", "at"] (spCW K C) := ⟨_, _, G_cw, g11, k11, b11⟩
  have G_crX := ok_check_rangeX (P := l.prog) (w := w) (mg := mg) (base := base) F4 TeB
  have G_cwX := ok_chain_weightsX (P := l.prog) (w := w) (mg := mg) (base := base) F11 TR m_len m_tuple d_check_order G_crX g4 k4 b4 d_lack_rows d_chain
  have d_checked_pairs : Def l.prog w K mg base "_checked_pairs" 2 ["options", "rows"] (spChecked K CS) := ⟨_, _, ok_checked_pairs F13 m_isinstance mgS TSR d_check_picks d_check_range, g13, k13, b13⟩
  have d_ballot : Def l.prog w K mg base "_ballot" 1 ["options", "places"] (spBallot K) := ⟨_, _, ok_ballot F14 m_tuple, g14, k14, b14⟩
  have d_added_up : Def l.prog w K mg base "_added_up" 2 ["options", "pairs"] (spAdded K) := ⟨_, _, ok_added_up F15 m_tuple m_list m_sorted d_ballot, g15, k15, b15⟩
  have G_Roll := ok_Roll (P := l.prog) (w := w) (mg := mg) (base := base) FI TR m_tuple m_sum d_check_names d_checked_pairs d_added_up
  have G_SumRows := ok_SumRows (P := l.prog) (w := w) (mg := mg) (base := base) FS TSR m_tuple
  have G_add := ok_Roll_add (P := l.prog) (w := w) (mg := mg) (base := base) FA TR MR G_Roll mgC bI MS G_SumRows mgS bS
  have d_L_cell : Def l.prog w K mg base "_law_cell" 1 ["_law_script", "_law_k"] (spCellA K) := ⟨_, _, ok_L_cell F16 m_len m_range m_abs, g16, k16, b16⟩
  have d_L_mixed : Def l.prog w K mg base "_law_mixed" 1 ["_law_cell_here", "_law_k"] (spMixed) := ⟨_, _, ok_L_mixed F17 m_abs, g17, k17, b17⟩
  have d_L_pool : Def l.prog w K mg base "_law_pool" 2 ["_law_cell_here", "_law_number"] (spPool) := ⟨_, _, ok_L_pool F18 m_range m_abs d_L_mixed, g18, k18, b18⟩
  have d_L_part : Def l.prog w K mg base "_law_part" 1 ["_law_pool_here", "_law_spot", "_law_under", "_law_size"] (spPart K) := ⟨_, _, ok_L_part F19 m_int, g19, k19, b19⟩
  have d_L_names : Def l.prog w K mg base "_law_names" 2 ["_law_pool_here", "_law_spot", "_law_number"] (spNames K) := ⟨_, _, ok_L_names F20 m_range m_int d_L_part, g20, k20, b20⟩
  have d_L_big : Def l.prog w K mg base "_law_big" 1 ["_law_pool_here", "_law_spot", "_law_least", "_law_crest"] (spBig K) := ⟨_, _, ok_L_big F21 m_int, g21, k21, b21⟩
  have d_L_ballots : Def l.prog w K mg base "_law_ballots" 2 ["_law_pool_here", "_law_spot", "_law_options", "_law_number"] (spBallots K) := ⟨_, _, ok_L_ballots F22 m_range m_list m_len m_tuple d_L_part, g22, k22, b22⟩
  have d_L_integer : Def l.prog w K mg base "_law_integer" 1 ["_law_got"] (spInteger) := ⟨_, _, ok_L_integer F23 m_isinstance m_int m_bool, g23, k23, b23⟩
  have d_L_same : Def l.prog w K mg base "_law_same" 4 ["_law_got", "_law_wanted"] (spSame 2) := ⟨_, _, ok_L_same F24 g24 b24 ⟨m_isinstance, m_int, m_bool, m_str, m_tuple, m_list, m_len, m_range⟩ d_L_integer 2 (by decide), g24, k24, b24⟩
  have d_L_votes : Def l.prog w K mg base "_law_votes" 1 ["_law_rows", "_law_options", "_law_left"] (spVotesL K) := ⟨_, _, ok_L_votes F25 , g25, k25, b25⟩
  have d_L_all_ballots : Def l.prog w K mg base "_law_all_ballots" 1 ["_law_choices"] (spAllB K) := ⟨_, _, ok_L_all_ballots F26 m_range m_list m_len, g26, k26, b26⟩
  have d_L_turned_about : Def l.prog w K mg base "_law_turned_about" 1 ["_law_choices", "_law_given_here"] (spTurned K) := ⟨_, _, ok_L_turned_about F27 m_range m_len m_tuple m_int, g27, k27, b27⟩
  have d_L_each_ballot : Def l.prog w K mg base "_law_each_ballot" 2 ["_law_choices", "_law_draws"] (spEach K) := ⟨_, _, ok_L_each_ballot F28 m_range m_len d_L_part d_L_all_ballots, g28, k28, b28⟩
  have d_L_given : Def l.prog w K mg base "_law_given" 3 ["_law_choices", "_law_head", "_law_pool_here", "_law_cell_here"] (spGiven K) := ⟨_, _, ok_L_given F29 m_range m_len m_int d_L_part d_L_pool d_L_big d_L_ballots d_L_each_ballot d_L_turned_about, g29, k29, b29⟩
  have d_L_missing_sums : Def l.prog w K mg base "_law_missing_sums" 2 ["_law_choices", "_law_given_here", "_law_leave"] (spMissS K) := ⟨_, _, ok_L_missing_sums F30 m_list m_max m_sum m_int m_range m_len d_L_votes, g30, k30, b30⟩
  have d_L_value : Def l.prog w K mg base "_law_value" 1 ["_law_leave", "_law_rows", "_law_ballot"] (spVal K) := ⟨_, _, ok_L_value F31 , g31, k31, b31⟩
  have d_L_rows_right : Def l.prog w K mg base "_law_rows_right" 2 ["_law_choices", "_law_leave", "_law_rows", "_law_crest"] (spRowsOk K) := ⟨_, _, ok_L_rows_right F32 m_isinstance m_tuple m_str m_len d_L_integer, g32, k32, b32⟩
  have d_L_shown : Def l.prog w K mg base "_law_shown" 2 ["_law_choices", "_law_given_here", "_law_leave", "_law_rows"] (spShown K) := ⟨_, _, ok_L_shown F33 m_sum d_L_value, g33, k33, b33⟩
  have d_L_chain_right : Def l.prog w K mg base "_law_chain_right" 3 ["_law_choices", "_law_given_here", "_law_leave", "_law_rows", "_law_turn"] (spChainR K) := ⟨_, _, ok_L_chain_right F34 d_L_rows_right d_L_all_ballots d_L_value d_L_shown d_L_missing_sums, g34, k34, b34⟩
  have d_L_refusal : Def l.prog w K mg base "_law_refusal" 6 ["_law_sheet", "_law_leave", "_law_turn"] (spRefusal K C) := ⟨_, _, ok_L_refusal F35 TeB EeB ET m_isinstance m_ValueError G_cwX g11 k11 b11, g35, k35, b35⟩
  have d_L_order_right : Def l.prog w K mg base "_law_order_right" 7 ["_law_sheet", "_law_choices", "_law_given_here", "_law_leave"] (spOrdR K C) := ⟨_, _, ok_L_order_right F36 m_range m_len d_L_chain_right d_chain_weights d_L_refusal d_L_same, g36, k36, b36⟩
  exact ok_law F37 m_list m_len m_range MR G_Roll mgC bI OA sfC G_add bA d_L_cell d_L_pool d_L_part d_L_names d_L_ballots d_L_given d_L_all_ballots d_L_order_right d_L_chain_right G_cw g11 k11 kb_cw
end TK

open PySem PySem.W PyProof.Rows
set_option maxRecDepth 100000 in
set_option maxHeartbeats 0 in
theorem PySem.Challenge.cw_turnsandkeys_k22_chain_weights_holds : PySem.Challenge.rw_turnsandkeys_k22_chain_weights.Holds := by
  w_on; o_law; k_head; (case hw => w_witness2)
  k_fill
  refine L2.walk_of (l := PySem.Challenge.rw_turnsandkeys_k22_chain_weights) (n := 63) (k := 8) (x := "_law_script") (CX := fun _ => L2.CX0) (sp := fun w => TK.spLaw _) rfl (by decide) rfl ⟨rfl, by decide, by decide⟩ (fun w h Y => PySem.W.kIn_of Y) ?F (fun _ _ a ns hl _ hS => ⟨a, ns, rfl, hS, hl, fun _ => rfl⟩) (fun _ _ _ _ _ h => h)
  case F =>
    intro w mg fa h KX G hmg
    refine' TK.all_mk KX G hmg ?a0 ?l0 ?c0 ?k0 ?a1 ?l1 ?c1 ?k1 ?a2 ?l2 ?c2 ?k2 ?a3 ?l3 ?c3 ?k3 ?a4 ?l4 ?c4 ?k4 ?a5 ?l5 ?c5 ?k5 ?a6 ?l6 ?c6 ?k6 ?a7 ?l7 ?c7 ?k7 ?a8 ?l8 ?c8 ?k8 ?a9 ?l9 ?c9 ?k9 ?a10 ?l10 ?c10 ?k10 ?a11 ?l11 ?c11 ?k11 ?a12 ?l12 ?c12 ?k12 ?a13 ?l13 ?c13 ?k13 ?a14 ?l14 ?c14 ?k14 ?a15 ?l15 ?c15 ?k15 ?a16 ?l16 ?c16 ?k16 ?a17 ?l17 ?c17 ?k17 ?a18 ?l18 ?c18 ?k18 ?a19 ?l19 ?c19 ?k19 ?a20 ?l20 ?c20 ?k20 ?a21 ?l21 ?c21 ?k21 ?a22 ?l22 ?c22 ?k22 ?a23 ?l23 ?c23 ?k23 ?a24 ?l24 ?c24 ?k24 ?a25 ?l25 ?c25 ?k25 ?a26 ?l26 ?c26 ?k26 ?a27 ?l27 ?c27 ?k27 ?a28 ?l28 ?c28 ?k28 ?a29 ?l29 ?c29 ?k29 ?a30 ?l30 ?c30 ?k30 ?a31 ?l31 ?c31 ?k31 ?a32 ?l32 ?c32 ?k32 ?a33 ?l33 ?c33 ?k33 ?a34 ?l34 ?c34 ?k34 ?a35 ?l35 ?c35 ?k35 ?a36 ?l36 ?c36 ?k36 ?a37 ?l37 ?c37 ?k37 ?aL ?z_len ?z_all ?z_enumerate ?z_tuple ?z_list ?z_range ?z_abs ?z_int ?z_min ?z_max ?z_isinstance ?z_bool ?z_str ?z_iter ?z_zip ?z_sum ?z_sorted ?z_dict ?z_ValueError ?aC ?aCS ?aI ?iI ?lI ?cI ?kI ?aS ?iS ?lS ?cS ?kS ?aA ?iA ?lA ?cA ?kA ?aY ?iY ?lY ?cY ?kY ?pg ?hd ?po ?sa ?mk ?kc ?nA0 ?nA1 ?nA2 ?pgS ?hdS ?poS ?saS ?mkS ?kcS ?nA0S ?lTI ?lEI ?lDN ?sfC ?hclS ?hgt ?htk ?hmrS ?isS ?tyS ?nfSL ?nfST ?htopS ?z_super ?hstS ?aeB ?ibeB ?leB ?cbeB ?hceB ?hveB ?hfeB ?hleB ?lceB ?rfeB ?saeB ?bxeB ?tyeB ?kceB ?hmeB ?aleB ?veeB ?noeB ?tfeBx ?gaeB ?ggeB ?hdeB ?cceBx ?moeB ?iseB ?sueB ?aN1 ?isN1 ?tyN1 ?aN2 ?isN2 ?tyN2 ?aN3 ?isN3 ?tyN3 ?aNH ?isNH ?tyNH ?sbeB_N1 ?sbeB_N2 ?sbeB_N3 ?sbeB_NH
    (case a0 => k_is); (case l0 => k_is); (case c0 => k_is); (case k0 => k_is); (case a1 => k_is); (case l1 => k_is); (case c1 => k_is); (case k1 => k_is); (case a2 => k_is); (case l2 => k_is); (case c2 => k_is); (case k2 => k_is); (case a3 => k_is); (case l3 => k_is); (case c3 => k_is); (case k3 => k_is); (case a4 => k_is); (case l4 => k_is); (case c4 => k_is); (case k4 => k_is); (case a5 => k_is); (case l5 => k_is); (case c5 => k_is); (case k5 => k_is); (case a6 => k_is); (case l6 => k_is); (case c6 => k_is); (case k6 => k_is); (case a7 => k_is); (case l7 => k_is); (case c7 => k_is); (case k7 => k_is); (case a8 => k_is); (case l8 => k_is); (case c8 => k_is); (case k8 => k_is); (case a9 => k_is); (case l9 => k_is); (case c9 => k_is); (case k9 => k_is); (case a10 => k_is); (case l10 => k_is); (case c10 => k_is); (case k10 => k_is); (case a11 => k_is); (case l11 => k_is); (case c11 => k_is); (case k11 => k_is); (case a12 => k_is); (case l12 => k_is); (case c12 => k_is); (case k12 => k_is); (case a13 => k_is); (case l13 => k_is); (case c13 => k_is); (case k13 => k_is); (case a14 => k_is); (case l14 => k_is); (case c14 => k_is); (case k14 => k_is); (case a15 => k_is); (case l15 => k_is); (case c15 => k_is); (case k15 => k_is); (case a16 => k_is); (case l16 => k_is); (case c16 => k_is); (case k16 => k_is); (case a17 => k_is); (case l17 => k_is); (case c17 => k_is); (case k17 => k_is); (case a18 => k_is); (case l18 => k_is); (case c18 => k_is); (case k18 => k_is); (case a19 => k_is); (case l19 => k_is); (case c19 => k_is); (case k19 => k_is); (case a20 => k_is); (case l20 => k_is); (case c20 => k_is); (case k20 => k_is); (case a21 => k_is); (case l21 => k_is); (case c21 => k_is); (case k21 => k_is); (case a22 => k_is); (case l22 => k_is); (case c22 => k_is); (case k22 => k_is); (case a23 => k_is); (case l23 => k_is); (case c23 => k_is); (case k23 => k_is); (case a24 => k_is); (case l24 => k_is); (case c24 => k_is); (case k24 => k_is); (case a25 => k_is); (case l25 => k_is); (case c25 => k_is); (case k25 => k_is); (case a26 => k_is); (case l26 => k_is); (case c26 => k_is); (case k26 => k_is); (case a27 => k_is); (case l27 => k_is); (case c27 => k_is); (case k27 => k_is); (case a28 => k_is); (case l28 => k_is); (case c28 => k_is); (case k28 => k_is); (case a29 => k_is); (case l29 => k_is); (case c29 => k_is); (case k29 => k_is); (case a30 => k_is); (case l30 => k_is); (case c30 => k_is); (case k30 => k_is); (case a31 => k_is); (case l31 => k_is); (case c31 => k_is); (case k31 => k_is); (case a32 => k_is); (case l32 => k_is); (case c32 => k_is); (case k32 => k_is); (case a33 => k_is); (case l33 => k_is); (case c33 => k_is); (case k33 => k_is); (case a34 => k_is); (case l34 => k_is); (case c34 => k_is); (case k34 => k_is); (case a35 => k_is); (case l35 => k_is); (case c35 => k_is); (case k35 => k_is); (case a36 => k_is); (case l36 => k_is); (case c36 => k_is); (case k36 => k_is); (case a37 => k_is); (case l37 => k_is); (case c37 => k_is); (case k37 => k_is); (case aL => k_is); (case z_len => k_is); (case z_all => k_is); (case z_enumerate => k_is); (case z_tuple => k_is); (case z_list => k_is); (case z_range => k_is); (case z_abs => k_is); (case z_int => k_is); (case z_min => k_is); (case z_max => k_is); (case z_isinstance => k_is); (case z_bool => k_is); (case z_str => k_is); (case z_iter => k_is); (case z_zip => k_is); (case z_sum => k_is); (case z_sorted => k_is); (case z_dict => k_is); (case z_ValueError => k_is); (case aC => k_is); (case aCS => k_is); (case aI => k_is); (case iI => k_is); (case lI => k_is); (case cI => k_is); (case kI => k_is); (case aS => k_is); (case iS => k_is); (case lS => k_is); (case cS => k_is); (case kS => k_is); (case aA => k_is); (case iA => k_is); (case lA => k_is); (case cA => k_is); (case kA => k_is); (case aY => k_is); (case iY => k_is); (case lY => k_is); (case cY => k_is); (case kY => k_is); (case pg => k_is); (case hd => k_is); (case po => k_is); (case sa => k_is); (case mk => k_is); (case kc => k_is); (case nA0 => k_is); (case nA1 => k_is); (case nA2 => k_is); (case pgS => k_is); (case hdS => k_is); (case poS => k_is); (case saS => k_is); (case mkS => k_is); (case kcS => k_is); (case nA0S => k_is); (case lTI => k_is); (case lEI => k_is); (case lDN => k_is); (case sfC => k_is); (case hclS => k_is); (case hgt => k_is); (case htk => k_is); (case hmrS => k_is); (case isS => k_is); (case tyS => k_is); (case nfSL => k_is); (case nfST => k_is); (case htopS => first | rfl | decide +kernel); (case z_super => k_is); (case hstS => k_is); (case aeB => k_is); (case ibeB => k_is); (case leB => k_is); (case cbeB => k_is); (case hceB => k_is); (case hveB => first | rfl | k_is); (case hfeB => first | rfl | decide +kernel); (case hleB => k_is); (case lceB => k_is); (case rfeB => first | rfl | decide +kernel); (case saeB => k_is); (case bxeB => k_is); (case tyeB => k_is); (case kceB => k_is); (case hmeB => k_is); (case aleB => first | k_is | rfl | kernel_rfl); (case veeB => k_is); (case noeB => k_is); (case tfeBx => k_is); (case gaeB => k_is); (case ggeB => k_is); (case hdeB => k_is); (case cceBx => k_is); (case moeB => k_is); (case iseB => k_is); (case sueB => k_is); (case aN1 => k_is); (case isN1 => k_is); (case tyN1 => k_is); (case aN2 => k_is); (case isN2 => k_is); (case tyN2 => k_is); (case aN3 => k_is); (case isN3 => k_is); (case tyN3 => k_is); (case aNH => k_is); (case isNH => k_is); (case tyNH => k_is); (case sbeB_N1 => k_is); (case sbeB_N2 => k_is); (case sbeB_N3 => k_is); (case sbeB_NH => k_is)
