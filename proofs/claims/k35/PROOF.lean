import PyProof.Rows.All
import Wide.All
import OpenK.AllK
import Wide.FinOn
import HandS.Head0
import HandS.Head1
import HandS.Head2
import HandS.Head3
import HandS.ForMost
import HandS.Style
import HandS.IsInst
import HandS.Defaults
import HandS.MakeKwOnly
import HandS.SortKw
import HandS.Walk
import KE.KSortKeySt
import KE.GoesEnum
import KE.DatumOrd
import KE.KRevSl
import HandS.Star
import KE.KTupSum
import KE.GoesMore
import KE.GoesZip
import HandS.DictComp
import HandS.RevRange
import HandS.Strs
import HandS.OwnEq
import HandS.SlotsOwn
import HandS.IterVal
import KE.KOwnIter
import KE.KOpsOwn
import KE.KEqDict
import HandS.OwnIter
import HandS.ExcInit
import HandS.ExcSuper
import HandS.Nested
import KE.KSuper
import KE.KSuperObj
import KE.KExcSuper
import HandS.ExcField
import HandS.ExcOwn
import HandS.ExcIs
import KE.KTryMore
import HandS.ClsMeth
import PyProof.WalksMore
import PyProof.FactsAll.subtypes_4
import HandS.NamedTupSort
import HandS.SortRule
import PyProof.WalkInts
import HandS.Zip
import KE.KDictZip
import KE.KDictSum
import HandS.Conv
import KE.KDictPairs
import KE.KStar
import HandS.Gcd
import HandS.Wide
import HandS.TupAny
import HandS.Property
import PySem.Challenge.RW_turnsandkeys_k35_floor_and_few
set_option Elab.async false
set_option linter.all false
set_option maxRecDepth 100000
set_option maxHeartbeats 8000000
namespace TK
open PySem PySem.Spec PyProof.Rows
/-! ### the head, by the run's own machine: what the top leaves, at the addresses that the walk reads -/
def hdN0 : List PySem.Str := [("_wall" : PySem.Str), ("__name__" : PySem.Str), ("HouseError" : PySem.Str), ("BadName" : PySem.Str), ("DoubledName" : PySem.Str), ("UnknownName" : PySem.Str), ("BadNumber" : PySem.Str), ("BadCount" : PySem.Str), ("OtherNames" : PySem.Str), ("BadLot" : PySem.Str), ("LETTERS" : PySem.Str), ("is_name" : PySem.Str), ("check_size" : PySem.Str), ("check_range" : PySem.Str), ("check_names" : PySem.Str), ("check_known" : PySem.Str), ("check_picks" : PySem.Str), ("_check_offers" : PySem.Str), ("Guests" : PySem.Str), ("plus" : PySem.Str), ("least" : PySem.Str), ("_check_entries" : PySem.Str), ("_least_tolls" : PySem.Str), ("Tolls" : PySem.Str), ("MOST_LINKS" : PySem.Str), ("MOST_TOLL" : PySem.Str), ("_check_links" : PySem.Str), ("Links" : PySem.Str), ("Rule" : PySem.Str), ("BidRule" : PySem.Str), ("_hand_tolls" : PySem.Str), ("_shared_parts" : PySem.Str), ("_bid_parts" : PySem.Str), ("_facts" : PySem.Str), ("_law_cell" : PySem.Str), ("_law_mixed" : PySem.Str)]
def hdN1 : List PySem.Str := [("_law_pool" : PySem.Str), ("_law_part" : PySem.Str), ("_law_names" : PySem.Str), ("_law_far" : PySem.Str), ("_law_chosen" : PySem.Str), ("_law_goods" : PySem.Str), ("_law_beside" : PySem.Str), ("_law_few" : PySem.Str), ("_law_lowest" : PySem.Str), ("_law_lots" : PySem.Str), ("_law_tops" : PySem.Str), ("_law_floor_of" : PySem.Str), ("_law_integer" : PySem.Str), ("_law_same" : PySem.Str)]
def hdLoose : List PySem.Str := hdN0 ++ hdN1
abbrev hdR : PySem.W.OpenRow := PySem.W.OpenLaw.row PySem.Challenge.rw_turnsandkeys_k35_floor_and_few
abbrev hdQ : Program := PySem.W.view hdR.prog [0, 58]
local macro_rules
  | `(tactic| o_head $t) => `(tactic| assumption)
/-- what the kit's head sees of the top is kept as hdSeen.heap_1 -/
theorem hdSeen (law : hdR.Holds) : hdR.Holds := by
  k_head
noncomputable def hdAs : List PySem.Addr := (hdSeen.heap_1 { strHash := fun _ => 0, shareClass := fun _ => 0, mergeTok := id, idOf := fun _ => 0, idOfShared := fun _ _ => 0, followText := fun _ => false, idOfImm := fun _ => 0 }).map (·.1)
noncomputable abbrev hdH : PySem.W.Hook := PySem.W.kHook hdSeen.heap_1 hdAs (fun _ => by kernel_rfl)
noncomputable def hdOb (s : PySem.W.SharedT) : List (Option Obj) := hdAs.map (HandSHeadRun.getT s)
theorem hdOb_eq (s : PySem.W.SharedT) : hdOb s = hdH.obs s.abs := by
  show hdAs.map (HandSHeadRun.getT s) = hdAs.map s.abs.heap.get?
  rw [show HandSHeadRun.getT s = s.abs.heap.get? from funext (HandSHeadRun.getT_eq s)]
theorem hdRun (w : World) : HandSHeadRun.RunEqI hdR hdQ hdH hdOb 9000 hdLoose w := by
  unfold HandSHeadRun.RunEqI
  kernel_rfl
end TK

namespace TK
open PySem PySem.Spec PyProof.Rows L2
/-! ### a def that keeps its promise, as callers see it -/
structure Def (P : Program) (w : World) (K : PySem.W.Frag) (mg : Str → Option Value) (base : Heap) (x : Str) (k : Nat) (ps : List Str) (sp : Sp) : Prop where
  ex : ∃ (f : Addr) (fd : FuncData), FnOk P w K mg base CX0 k f fd ps sp ∧ mg x = some (.ref f) ∧ PySem.W.keepIn K (.ref f) = true ∧ Binds K fd ps []
section
variable {X : Cx} {x : Str} {k : Nat} {ps : List Str} {sp : Sp} {e : Expr} {es : List Expr} {t : TA} {p pos : Pos}
theorem pe_callD (D : Def X.prog X.w X.K X.mg X.base x k ps sp) (hr : Room k X.A) (hg : Gl X x) (ha : PA X (e :: es) t) (hdb : (x == ("__debug__" : Str)) = false := by decide)
    (he : starEach (e :: es) X.env = (false, eval e X.env) :: starEach es X.env := by rfl) (hpl : (backTo pos (starEach es X.env)).any (·.1) = false := by rfl) :
    PE X (.Call (.Name x p) (e :: es) [] pos) (tCall sp [] E0 t) := by
  obtain ⟨f, fd, F, g, kp, b⟩ := D.ex
  exact pe_call F hr hg g kp b .nil pass0 ha hdb he hpl
end
section
variable {X : Cx}
/-- x is True, x is False: x of any kind -/
def rIsT : R2 := fun x y H Q => ∃ b : Bool, y = .bl b ∧ Q (.bl (decide (x = .bl b))) H
theorem op_isT : OpR X (compareOp .Is) rIsT := by
  intro pins s σ H x y v u Q I rx ry h
  obtain ⟨b, rfl, q⟩ := h
  cases (show u = Value.bool b from ry)
  cases x with
  | bl a =>
    cases (show v = Value.bool a from rx)
    by_cases e : a = b
    · subst e
      exact wpAny_is_self rfl ⟨.bl true, H, I, rfl, by simpa using q⟩
    · exact wpAny_is_other rfl (fun z => e (Value.bool.inj z)) ⟨.bl false, H, I, rfl, by simpa [e] using q⟩
  | non => cases (show v = Value.none from rx); exact wpAny_is_other rfl (fun z => nomatch z) ⟨.bl false, H, I, rfl, by simpa using q⟩
  | int i => obtain ⟨t, rfl⟩ := (show ∃ t, v = Value.int i t from rx); exact wpAny_is_other rfl (fun z => nomatch z) ⟨.bl false, H, I, rfl, by simpa using q⟩
  | str i => obtain ⟨t, rfl⟩ := (show ∃ t, v = Value.str i t from rx); exact wpAny_is_other rfl (fun z => nomatch z) ⟨.bl false, H, I, rfl, by simpa using q⟩
  | byt i => obtain ⟨t, rfl⟩ := (show ∃ t, v = Value.bytes i t from rx); exact wpAny_is_other rfl (fun z => nomatch z) ⟨.bl false, H, I, rfl, by simpa using q⟩
  | flt i => obtain ⟨t, rfl⟩ := (show ∃ t, v = Value.float i t from rx); exact wpAny_is_other rfl (fun z => nomatch z) ⟨.bl false, H, I, rfl, by simpa using q⟩
  | ref a => cases (show v = Value.ref a from rx); exact wpAny_is_other rfl (fun z => nomatch z) ⟨.bl false, H, I, rfl, by simpa using q⟩
  | ty n => cases (show v = Value.type n from rx); exact wpAny_is_other rfl (fun z => nomatch z) ⟨.bl false, H, I, rfl, by simpa using q⟩
end
/-! ### rules within a comprehension: K by name -/
section
variable {X : Cx} {K : PySem.W.Frag}
theorem ix_listK (h : X.K = K) : IxR X (rIxL K) := h ▸ ix_list
theorem ix_tupK (h : X.K = K) : IxR X (rIxT K) := h ▸ ix_tup
theorem pg_tupK (h : X.K = K) {elts : List Expr} {kk : Nat} {pos : Pos} {n : Nat} {t : TGs} (hc : X.calm = true) (hp : PGs X elts t) (hn : (assignEach elts X.env).length = n := by rfl) (hst : (assignEach elts X.env).findIdx? (·.1) = none := by rfl) : PG X (.Tuple elts kk pos) (gTup K n t) := h ▸ pg_tup hc hp hn hst
theorem op_in_seqK (h : X.K = K) : OpR X (compareOp .In) (rIn K false) := h ▸ op_in_seq
theorem op_notIn_seqK (h : X.K = K) : OpR X (compareOp .NotIn) (rIn K true) := h ▸ op_notIn_seq
theorem call_len_seqK (h : X.K = K) : CallR X (.builtin "len") (fun xs H Q => ∃ p ys, xs = [.ref p] ∧ (SqL K H p ys ∨ SqT K H p ys) ∧ Q (.int ys.length) H) := h ▸ call_len_seq
end
/-! ### heaps -/
theorem same_upd {H : Hp} {p : Addr} {o : HO} (h : H p = none) : Same H (upd H p o) := fun b x e => by
  rw [upd_ne (ne_of_none e h)]
  exact e
theorem same_at {H H' : Hp} {p : Addr} {o : HO} (s : Same H H') (h : H p = none) : Same H (upd H' p o) := fun b x e => by
  rw [upd_ne (ne_of_none e h)]
  exact s b x e
theorem same_tup {K : PySem.W.Frag} {H H' : Hp} {a : Addr} {xs : List V} (e : Same H H') (h : SqT K H a xs) : SqT K H' a xs := by
  rcases h with (h | ⟨o, h⟩) | h
  · exact .inl (.inl (e _ _ h))
  · exact .inl (.inr ⟨o, e _ _ h⟩)
  · exact .inr h
theorem lstAt {K : PySem.W.Frag} {H : Hp} {a : Addr} {xs : List V} (h : H a = some (.lst xs)) : SqL K H a xs := .inl (.inl h)
theorem tupAt {K : PySem.W.Frag} {H : Hp} {a : Addr} {xs : List V} (h : H a = some (.tup xs)) : SqT K H a xs := .inl (.inl h)
theorem atI_in {α : Type} {xs : List α} {i : Int} {v : α} (h0 : 0 ≤ i) (h : xs[i.toNat]? = some v) : atI xs i = some v := by
  obtain ⟨n, rfl⟩ : ∃ n : Nat, i = (n : Int) := ⟨i.toNat, by omega⟩
  exact atI_nat h
theorem yesT {σ : L2.St} {H : Hp} {A B : Hp → Prop} (h : A H) : tYes σ H (fun b H3 => if b = true then A H3 else B H3) := by
  show if true = true then A H else B H
  rw [if_pos rfl]
  exact h
end TK

namespace TK
open PySem PySem.Spec PyProof.Rows L2
section
variable {X : Cx} {pins : List (Addr × Obj)} {σ : L2.St} {H : Hp} {s : Shared}
/-- an untracked object of ours comes to be tracked -/
theorem adopt {a : Addr} {o : HO} (I : Inv X pins σ H s) (f : FpOk X pins H a) (new : ObjOk X.prog X.w (upd H a o) s.heap a o) : Inv X pins σ (upd H a o) s := by
  obtain ⟨q0, q1, q2, q3, q4, q5⟩ := f
  have ne : ∀ b u, H b = some u → b ≠ a := fun b u e z => by rw [z, q0] at e; cases e
  refine I.step (h' := s.heap) (g' := s.gens) (t' := s.toks) (d' := s.drawn) (ch := [a]) (fun b hb => ?_) (fun b o _ _ _ e _ => e) (fun b o _ _ _ e _ => ⟨o.slots, e⟩) (fun b o hb _ n => ?_) (fun b o _ e => ⟨o, e⟩) (fun b xs e => ?_) (fun b o u e => ?_) (fun b ps e => ⟨#[], ?_⟩) (fun m hm => hm) (fun b u e => ?_) I.bare
  · have e : b = a := by simpa using hb
    subst e
    exact ⟨q3, q1, q4, q5⟩
  · rw [upd_ne (fun z => hb (by simp [z]))]; exact n
  · rw [upd_ne (ne b _ e)]; exact e
  · rw [upd_ne (ne b _ e)]; exact e
  · rw [upd_ne (ne b _ e), e]; simp
  · by_cases hb : b = a
    · subst hb
      rw [upd_same] at e
      cases e
      exact new
    · rw [upd_ne hb] at e
      exact (I.hok b u e).stay (fun c v _ q => q) (fun c q => by rw [upd_ne (ne c _ q)]; exact q) fun c xs q => by rw [upd_ne (ne c _ q)]; exact q
/-- a def called from within a built-in's method -/
theorem run_fn2 {k : Nat} {f : Addr} {fd : FuncData} {ps : List Str} {sp : Sp} {Q : VK} {us : List Value} {itm : List V} {E' : Value → Shared → Prop} (F : FnOk X.prog X.w X.K X.mg X.base CX0 k f fd ps sp) (hr : Room (k + 2) X.A) (hb : Binds X.K fd ps [])
    (I : Inv X pins σ H s) (r : Vals itm us) (h : sp itm H Q E0) : wpAny (model X.prog X.w) X.A.in1.in1 (call (.ref f) us) (EP X pins σ Q) E' s := by
  have hl : (us ++ []).length = ps.length := by rw [List.append_nil, ← r.length]; exact F.len _ _ _ _ h
  have hbb := hb s us I.kIn hl
  rw [List.append_nil] at hbb
  refine wpAny_call (codeAny_mono (F.run X.A.in1.in1 X.stack s H ⟨us, []⟩ us itm Q E0 hr.in1.in1 I.env0.in1.in1 hbb r h) fun r s' hq => ?_)
  cases r with
  | error e => exact False.elim hq
  | ok fl =>
    cases fl with
    | ret u => exact I.after hq
    | next => exact False.elim hq
    | brk => exact False.elim hq
    | cont => exact False.elim hq
end
section
variable {X : Cx} {pins : List (Addr × Obj)} {σ : L2.St} {H : Hp} {s : Shared} {A : Around} {E : Value → Shared → Prop} {a kS : Addr} {itm : List Value} {kl : List Int} {kar : Array Value} {e ep1 : Nat} {P : PySem.Fin → Shared → Prop}
theorem sb_tail {st : SortSt} (I : Inv X pins σ H s) (gk : s.heap.get? kS = some (seqObj "list" kar e)) (ga : s.heap.get? a = some (seqObj "list" #[] ep1)) (fa : FpOk X pins H a) (fk : FpOk X pins H kS) (hka : kS ≠ a)
    (hki : IntsAre kar.toList kl) (hle : kl.length = itm.length) (hsm : itm.length ≤ sizeLine) (hp : (arrOf st).Perm (kar.zip itm.toArray)) (hs : SortedTo (arrOf st) (arrOf st).size) (hfl : failedOf st = none)
    (hst : Stable intKind (arrOf st) (kar.zip itm.toArray))
    (h : ∀ s' out c, Inv X pins σ H s' → s'.heap.get? a = some (seqObj "list" out c) → KskOutSt false kl itm out.toList → P (.done (.ret .none)) s') :
    wpAny (model X.prog X.w) A (ksk_tail a false ep1 (.ref kS) st) P E s := by
  have hsm2 := hsm
  rw [sizeLine_eq] at hsm2
  have zk : kar.size = itm.length := by
    have h1 := hki.length
    rw [Array.length_toList] at h1
    omega
  have za : (arrOf st).size = itm.length := by rw [hp.size_eq, Array.size_zip, zk, List.size_toArray, Nat.min_self]
  have zo : ((arrOf st).map (·.2)).size = itm.length := by rw [Array.size_map]; exact za
  have s1 := Heap.SameBut.update s.heap kS (Obj.mapSeq fun _ => (#[] : Array Value))
  have ga1 : (s.heap.update kS (Obj.mapSeq fun _ => (#[] : Array Value))).get? a = some (seqObj "list" #[] ep1) := (s1.2 a hka.symm).trans ga
  have s2 := Heap.SameBut.update (s.heap.update kS (Obj.mapSeq fun _ => (#[] : Array Value))) a (Obj.mapSeq fun _ => (arrOf st).map (·.2))
  obtain ⟨cn, gcn⟩ : ∃ cn, ((s.heap.update kS (Obj.mapSeq fun _ => (#[] : Array Value))).update a (Obj.mapSeq fun _ => (arrOf st).map (·.2))).get? a = some (seqObj "list" ((arrOf st).map (·.2)) cn) :=
    ⟨_, get?_update_seq ga1 fun _ => (arrOf st).map (·.2)⟩
  obtain ⟨k0, k1, k2, k3, k4, k5⟩ := fk
  obtain ⟨a0, a1, a2, a3, a4, a5⟩ := fa
  have I1 : Inv X pins σ H { s with heap := s.heap.update kS (Obj.mapSeq fun _ => (#[] : Array Value)) } := I.turned (t' := s.toks) (fun b o hb q => (s1.2 b hb).trans q) k0 k1 k3 k4 k5
  unfold ksk_tail
  try dsimp only
  refine wpAny_bind (listUpdate_at gk rfl ?_ (by rw [zk, sizeLine_eq]; omega) (Nat.zero_le _))
  refine wpAny_bind (wpAny_letGo ?_)
  refine wpAny_bind (seqEpoch_at ga1 rfl ?_)
  refine wpAny_bind (listUpdate_at ga1 rfl ?_ (Nat.zero_le _) (Nat.le_trans (Nat.le_of_eq zo) (by rw [sizeLine_eq]; omega)))
  rw [hfl]
  simp only [bne_self_eq_false, Bool.false_eq_true, if_false]
  refine wpAny_pure (h _ _ cn (I1.turned (t' := s.toks) (fun b o hb q => (s2.2 b hb).trans q) a0 a1 a3 a4 a5) gcn ?_)
  exact ksk_outSt (b := false) hki hp hs (by simpa using hst)
theorem sb_end (I : Inv X pins σ H s) (gk : s.heap.get? kS = some (seqObj "list" kar e)) (ga : s.heap.get? a = some (seqObj "list" #[] ep1)) (fa : FpOk X pins H a) (fk : FpOk X pins H kS) (hka : kS ≠ a)
    (hki : IntsAre kar.toList kl) (hle : kl.length = itm.length) (hsm : itm.length ≤ sizeLine)
    (h : ∀ s' out c, Inv X pins σ H s' → s'.heap.get? a = some (seqObj "list" out c) → KskOutSt false kl itm out.toList → P (.done (.ret .none)) s') :
    wpAny (model X.prog X.w) A (ksk_end a false itm.toArray ep1 (.ref kS) kar) P E s := by
  have hsm2 := hsm
  rw [sizeLine_eq] at hsm2
  have zk : kar.size = itm.length := by
    have h1 := hki.length
    rw [Array.length_toList] at h1
    omega
  have zz : (kar.zip itm.toArray).size = itm.length := by rw [Array.size_zip, zk, List.size_toArray, Nat.min_self]
  unfold ksk_end
  try dsimp only
  simp only [Bool.false_eq_true, if_false]
  by_cases few : itm.toArray.size < 2
  · rw [if_pos few, if_pos few]
    refine wpAny_bind (wpAny_pure ?_)
    rw [StateT.run_pure]
    refine wpAny_bind (wpAny_pure ?_)
    try dsimp only
    refine sb_tail (st := SortSt.mk' general' (kar.zip itm.toArray) #[] 7 none) I gk ga fa fk hka hki hle hsm (Array.Perm.refl _) ?_ rfl (Stable.refl _) h
    intro i j hij jlt
    have hj2 : j < (kar.zip itm.toArray).size := jlt
    rw [zz] at hj2
    rw [List.size_toArray] at few
    have : i = j := by omega
    subst this
    exact Int.le_refl _
  · rw [if_neg few, if_neg few]
    rw [List.size_toArray] at few
    rw [ksk_kind hki (by rw [zk]; omega)]
    refine wpAny_bind (wpAny_pure ?_)
    refine wpAny_bind (wpAny_mono (wpS_sortRunsSt (κ := intKind) (a₀ := kar.zip itm.toArray)
      (st := SortSt.mk' oneType' (kar.zip itm.toArray) #[] 7 none)
      (Q := fun _ sq => (arrOf sq).Perm (kar.zip itm.toArray) ∧ failedOf sq = none ∧ SortedTo (arrOf sq) (arrOf sq).size ∧
        Stable intKind (arrOf sq) (kar.zip itm.toArray))
      intKind_oneLt (ksk_keysOfInt (ksk_intKeys hki)) ⟨Array.Perm.refl _, rfl, rfl⟩ rfl (Stable.refl _) (by rw [zz]; omega)
      fun sq a1 a2 a3 a4 => ⟨a1, a2, by rw [a1.size_eq]; exact sortedTo_of_int a3, a4⟩) ?_ fun _ _ e => e)
    rintro ⟨⟨⟩, sq⟩ s' ⟨rfl, hp, hf, hs, hst⟩
    try dsimp only
    exact sb_tail I gk ga fa fk hka hki hle hsm hp hs hf hst h
theorem sb_rest {f : Value} (I : Inv X pins σ H s) (gk : s.heap.get? kS = some (seqObj "list" #[] 0)) (ga : s.heap.get? a = some (seqObj "list" #[] ep1)) (fa : FpOk X pins H a) (fk : FpOk X pins H kS) (hka : kS ≠ a)
    (hle : kl.length = itm.length) (hsm : itm.length ≤ sizeLine)
    (turn : ∀ (i : Nat) (v : Value) (k : Int) (pins' : List (Addr × Obj)) (s' : Shared), itm[i]? = some v → kl[i]? = some k → Inv X pins' σ H s' →
      wpAny (model X.prog X.w) A (call f [v]) (EP X pins' σ fun x H' => x = .int k ∧ H' = H) (fun _ _ => False) s')
    (h : ∀ s' out c, Inv X pins σ H s' → s'.heap.get? a = some (seqObj "list" out c) → KskOutSt false kl itm out.toList → P (.done (.ret .none)) s') :
    wpAny (model X.prog X.w) A (ksk_rest a f false itm.toArray ep1 (.ref kS)) P E s := by
  have hsm2 := hsm
  rw [sizeLine_eq] at hsm2
  unfold ksk_rest
  refine wpAny_bind (wpAny_rule ?_)
  first
    | rw [List.forIn_toArray]
    | (rw [← Array.forIn_toList]; simp only [List.toList_toArray])
    | rw [← Array.forIn_toList]
  refine wpAny_bind (ksk_fold (fun i s' => ∃ gar e, Inv X pins σ H s' ∧ s'.heap.get? kS = some (seqObj "list" gar e) ∧ s'.heap.get? a = some (seqObj "list" #[] ep1) ∧ IntsAre gar.toList (kl.take i)) itm 0 s
    ⟨#[], 0, I, gk, ga, by simpa using IntsAre.nil⟩ ?step ?done)
  case step =>
    rintro j x s' hx ⟨gar, e, I', nk', na', hki⟩
    simp only [Nat.zero_add] at hki ⊢
    have jlt : j < itm.length := (List.getElem?_eq_some_iff.mp hx).1
    obtain ⟨k, ekj⟩ : ∃ k, kl[j]? = some k := ⟨_, List.getElem?_eq_getElem (by omega)⟩
    have gsm : gar.size ≤ itm.length := by
      have h1 := hki.length
      rw [Array.length_toList, List.length_take] at h1
      omega
    have I2 : Inv X (pins ++ [(kS, seqObj "list" gar e), (a, seqObj "list" #[] ep1)]) σ H s' := I'.pins_of fun p hp => by
      rcases List.mem_append.mp hp with hp | hp
      · exact I'.pin p (List.mem_append_right _ hp)
      · rcases List.mem_cons.mp hp with rfl | hp
        · exact ⟨nk', fk.1, fk.2.1, fk.2.2.1, fun v z => nomatch z⟩
        · rw [List.mem_singleton.mp hp]
          exact ⟨na', fa.1, fa.2.1, fa.2.2.1, fun v z => nomatch z⟩
    refine wpAny_bind (wpAny_attempt (wpAny_mono (turn j x k _ s' hx ekj I2) (fun v s'' he => ?_) fun _ _ hF => hF.elim))
    obtain ⟨y, H', I3, ry, rfl, rfl⟩ := he
    obtain ⟨t2, rfl⟩ : ∃ t, v = Value.int k t := ry
    try dsimp only
    have nk3 := (I3.pin (kS, seqObj "list" gar e) (List.mem_append_right _ (List.mem_append_right _ (.head _)))).1
    have na3 := (I3.pin (a, seqObj "list" #[] ep1) (List.mem_append_right _ (List.mem_append_right _ (.tail _ (.head _))))).1
    have s1 := Heap.SameBut.update s''.heap kS (Obj.mapSeq (·.push (.int k t2)))
    obtain ⟨cn, gcn⟩ : ∃ cn, (s''.heap.update kS (Obj.mapSeq (·.push (.int k t2)))).get? kS = some (seqObj "list" (gar.push (.int k t2)) cn) := ⟨_, get?_update_seq nk3 (·.push (.int k t2))⟩
    have et : kl.take (j + 1) = kl.take j ++ [k] := by rw [List.take_add_one, ekj]; simp
    have epu : (gar.push (Value.int k t2)).toList = gar.toList ++ [Value.int k t2] := by simp
    obtain ⟨k0, k1, _, k3, k4, k5⟩ := fk
    refine wpAny_bind (listUpdate_at nk3 rfl ?_ (by rw [sizeLine_eq]; omega) (Nat.le_trans (Nat.le_of_eq (Array.size_push ..)) (by rw [sizeLine_eq]; omega)))
    refine wpAny_pure ⟨rfl, gar.push (.int k t2), cn, I3.unpinned.turned (t' := s''.toks) (fun b o hb q => (s1.2 b hb).trans q) k0 k1 k3 k4 k5, gcn, (s1.2 a hka.symm).trans na3, by rw [epu, et]; exact ksk_snoc hki⟩
  case done =>
    rintro s' ⟨gar, e, I', nk', na', hki⟩
    have hkf : IntsAre gar.toList kl := by
      have eall : kl.take (0 + itm.length) = kl := List.take_of_length_le (by omega)
      rw [eall] at hki
      exact hki
    try dsimp only
    refine wpAny_bind (listItems_at nk' rfl ?_)
    exact sb_end I' nk' na' fa fk hka hkf hle hsm h
end
end TK

namespace TK
open PySem PySem.Spec PyProof.Rows L2
section
variable {prog : Program} {w : World} {A : Around} {E : Value → Shared → Prop} {s : Shared}
/-- the items of a tuple, drawn together -/
theorem collect_tup {t : Addr} {vs : List Value} {Q : List Value → Shared → Prop} (ht : IsTup s.heap t vs.toArray) (hsm : vs.length ≤ sizeLine)
    (h : Q vs { s with heap := (s.heap.push (seqObj "list" #[] 0)).update s.heap.objs.size (Obj.mapSeq (· ++ vs.toArray)) }) : wpAny (model prog w) A (collect (.ref t)) Q E s := by
  obtain ⟨ob, gob0, hcls, n, hdt⟩ := ht
  unfold collect
  refine wpAny_bind (wpAny_runValue (codeAny_builtin entry_proto_collect' ?_))
  show wpAny _ _ (do again (.builtin "list.__iadd__" ⟨[← newList [], .ref t], []⟩)) _ _ s
  refine wpAny_bind (wpAny_newList (wpAny_pure ⟨Code.quiet_builtin _ (by decide +kernel), codeAny_builtin entry_list_iadd' ?_⟩))
  show wpAny _ _ (Builtin.List.listExtendWith (.ref s.heap.objs.size) (.ref t) (.ref s.heap.objs.size)) _ _ { s with heap := s.heap.push (seqObj "list" #[] 0) }
  have gob : (s.heap.push (seqObj "list" #[] 0)).get? t = some ob := Heap.get?_push_of_some _ gob0
  have gnew : (s.heap.push (seqObj "list" #[] 0)).get? s.heap.objs.size = some (seqObj "list" #[] 0) := Heap.get?_push_size _ rfl
  unfold Builtin.List.listExtendWith
  refine wpAny_bind (wpAny_typeOf (T := "tuple") ⟨ob, gob, hcls⟩ ?_)
  rw [if_pos (by simp only [show (Value.type "tuple" == Value.type "tuple") = true from rfl, Bool.or_true])]
  refine wpAny_bind (listItems_at gob hdt (wpAny_bind (listItems_at gnew rfl ?_)))
  rw [if_neg (by simp)]
  refine wpAny_bind (listUpdate_at gnew rfl (wpAny_pure ?_) (Nat.zero_le _) (by simp only [Array.size_append, List.size_toArray, List.length_nil]; omega))
  show wpAny (model prog w) A (do
      let o ← load s.heap.objs.size
      match o.data with
      | .seq xs _ => pure xs.toList
      | _ => unsupported "internal:collect") Q E _
  refine wpAny_bind (wpAny_load (get?_update_seq gnew _) ?_)
  show wpAny _ _ (pure ((#[] : Array Value) ++ vs.toArray).toList) Q E _
  rw [show ((#[] : Array Value) ++ vs.toArray).toList = vs by simp]
  exact wpAny_pure h
end
section
variable {X : Cx} {pins : List (Addr × Obj)} {σ : L2.St} {H : Hp} {s : Shared} {A : Around} {E : Value → Shared → Prop} {a : Addr} {vs : List Value} {kz : List Int} {P : PySem.Fin → Shared → Prop}
theorem sb_sort {f : Value} {n : Nat} (I : Inv X pins σ H s) (ho : s.heap.get? a = some (seqObj "list" vs.toArray n)) (fa : FpOk X pins H a) (hlen : kz.length = vs.length) (hZ : vs.length ≤ sizeLine)
    (turn : ∀ (i : Nat) (v : Value) (k : Int) (pins' : List (Addr × Obj)) (s' : Shared), vs[i]? = some v → kz[i]? = some k → Inv X pins' σ H s' →
      wpAny (model X.prog X.w) A (call f [v]) (EP X pins' σ fun x H' => x = .int k ∧ H' = H) (fun _ _ => False) s')
    (h : ∀ s' out c, Inv X pins σ H s' → s'.heap.get? a = some (seqObj "list" out c) → KskOutSt false kz vs out.toList → P (.done (.ret .none)) s') :
    wpAny (model X.prog X.w) A (ksk_tree a f false) P E s := by
  have hZ2 := hZ
  rw [sizeLine_eq] at hZ2
  have hal : a < s.heap.objs.size := Heap.lt_size ho
  generalize hh1 : s.heap.update a (Obj.mapSeq fun _ => (#[] : Array Value)) = h1
  have sb : Heap.SameBut a s.heap h1 := by rw [← hh1]; exact Heap.SameBut.update s.heap a _
  obtain ⟨e1, ho1⟩ : ∃ e1, h1.get? a = some (seqObj "list" #[] e1) := by rw [← hh1]; exact ⟨_, get?_update_seq ho fun _ => #[]⟩
  have hz1 : h1.objs.size = s.heap.objs.size := by rw [← hh1, Heap.size_update]
  obtain ⟨a0, a1, a2, a3, a4, a5⟩ := id fa
  have I1 : Inv X pins σ H { s with heap := h1 } := I.turned (t' := s.toks) (fun b o hb q => (sb.2 b hb).trans q) a0 a1 a3 a4 a5
  have I2 : Inv X pins σ H { s with heap := (h1.push (seqObj "tuple" vs.toArray 0)).push (seqObj "list" #[] 0) } := I1.kept (t' := s.toks) fun b o q => Heap.get?_push_of_some _ (Heap.get?_push_of_some _ q)
  have hkz : (h1.push (seqObj "tuple" vs.toArray 0)).objs.size = s.heap.objs.size + 1 := by rw [size_push', hz1]
  unfold ksk_tree
  refine wpAny_bind (listItems_at ho rfl (wpAny_bind (listUpdate_at ho rfl ?_ (by rw [List.size_toArray, sizeLine_eq]; omega) (Nat.zero_le _))))
  rw [hh1]
  refine wpAny_bind (seqEpoch_at ho1 rfl (wpAny_bind (wpAny_newTuple (wpAny_bind (wpAny_newList (wpAny_holding ?_) (Nat.zero_le _))) (by show vs.length ≤ _; rw [sizeLine_eq]; omega))))
  refine sb_rest (s := { s with heap := (h1.push (seqObj "tuple" vs.toArray 0)).push (seqObj "list" #[] 0) }) (kS := (h1.push (seqObj "tuple" vs.toArray 0)).objs.size) I2 (Heap.get?_push_size _ rfl) (Heap.get?_push_of_some _ (Heap.get?_push_of_some _ ho1)) fa ?_ (Nat.ne_of_gt (by rw [hkz]; exact Nat.lt_succ_of_lt hal)) hlen hZ turn h
  exact I1.fpOk (by show h1.objs.size ≤ _; rw [hkz, hz1]; omega) (I1.hok.fresh (by show h1.objs.size ≤ _; rw [hkz, hz1]; omega))
end
/-! ### the stable order by a key -/
def insK {α : Type} (x : Int × α) : List (Int × α) → List (Int × α)
  | [] => [x]
  | y :: r => if x.1 ≤ y.1 then x :: y :: r else y :: insK x r
def sortK {α : Type} : List (Int × α) → List (Int × α)
  | [] => []
  | x :: r => insK x (sortK r)
section
variable {α : Type}
theorem insK_perm (x : Int × α) : ∀ l, (insK x l).Perm (x :: l)
  | [] => .refl _
  | y :: r => by
    unfold insK
    split
    · exact .refl _
    · exact ((insK_perm x r).cons y).trans (.swap x y r)
theorem sortK_perm : ∀ l : List (Int × α), (sortK l).Perm l
  | [] => .refl _
  | x :: r => (insK_perm x (sortK r)).trans ((sortK_perm r).cons x)
theorem insK_up (x : Int × α) : ∀ l : List (Int × α), l.Pairwise (fun p q => p.1 ≤ q.1) → (insK x l).Pairwise (fun p q => p.1 ≤ q.1)
  | [], _ => List.pairwise_singleton ..
  | y :: r, h => by
    unfold insK
    split
    · rename_i hx
      refine List.Pairwise.cons (fun z hsm => ?_) h
      rcases List.mem_cons.mp hsm with rfl | hsm
      · exact hx
      · exact Int.le_trans hx (List.rel_of_pairwise_cons h hsm)
    · rename_i hx
      refine List.Pairwise.cons (fun z hsm => ?_) (insK_up x r (List.Pairwise.of_cons h))
      rcases List.mem_cons.mp ((insK_perm x r).mem_iff.mp hsm) with rfl | hsm
      · omega
      · exact List.rel_of_pairwise_cons h hsm
theorem sortK_up : ∀ l : List (Int × α), (sortK l).Pairwise (fun p q => p.1 ≤ q.1)
  | [] => .nil
  | x :: r => insK_up x _ (sortK_up r)
theorem insK_filter (x : Int × α) (c : Int) : ∀ l : List (Int × α), l.Pairwise (fun p q => p.1 ≤ q.1) → (insK x l).filter (fun p => p.1 == c) = (x :: l).filter (fun p => p.1 == c)
  | [], _ => rfl
  | y :: r, h => by
    unfold insK
    split
    · rfl
    · rename_i hx
      have ih := insK_filter x c r (List.Pairwise.of_cons h)
      rw [List.filter_cons, ih, List.filter_cons, List.filter_cons, List.filter_cons]
      by_cases h1 : (x.1 == c) = true
      · by_cases h2 : (y.1 == c) = true
        · have e1 : x.1 = c := by simpa using h1
          have e2 : y.1 = c := by simpa using h2
          omega
        · simp [h1, h2]
      · simp [h1]
theorem sortK_filter (c : Int) : ∀ l : List (Int × α), (sortK l).filter (fun p => p.1 == c) = l.filter (fun p => p.1 == c)
  | [] => rfl
  | x :: r => by
    show (insK x (sortK r)).filter _ = _
    rw [insK_filter x c _ (sortK_up r), List.filter_cons, sortK_filter c r, List.filter_cons]
theorem stable_one : ∀ {l m : List (Int × α)}, l.Perm m → l.Pairwise (fun p q => p.1 ≤ q.1) → m.Pairwise (fun p q => p.1 ≤ q.1) → (∀ c, l.filter (fun p => p.1 == c) = m.filter (fun p => p.1 == c)) → l = m
  | [], m, hp, _, _, _ => by rw [List.nil_perm.mp hp]
  | x :: l, [], hp, _, _, _ => by cases hp.length_eq
  | x :: l, y :: m, hp, h1, h2, hf => by
    have le1 : x.1 ≤ y.1 := by
      rcases List.mem_cons.mp (hp.mem_iff.mpr (List.mem_cons_self ..) : y ∈ x :: l) with e | e
      · rw [e]; exact Int.le_refl _
      · exact List.rel_of_pairwise_cons h1 e
    have le2 : y.1 ≤ x.1 := by
      rcases List.mem_cons.mp (hp.mem_iff.mp (List.mem_cons_self ..) : x ∈ y :: m) with e | e
      · rw [e]; exact Int.le_refl _
      · exact List.rel_of_pairwise_cons h2 e
    have e : x.1 = y.1 := by omega
    have hx := hf x.1
    rw [List.filter_cons, List.filter_cons, if_pos (by simp), if_pos (by simp [e])] at hx
    obtain ⟨exy, _⟩ := List.cons.inj hx
    subst exy
    rw [stable_one (List.Perm.cons_inv hp) (List.Pairwise.of_cons h1) (List.Pairwise.of_cons h2) fun c => ?_]
    have := hf c
    rw [List.filter_cons, List.filter_cons] at this
    split at this
    · exact (List.cons.inj this).2
    · exact this
theorem insK_map {β : Type} (g : α → β) (x : Int × α) : ∀ l : List (Int × α), (insK x l).map (fun p => (p.1, g p.2)) = insK (x.1, g x.2) (l.map fun p => (p.1, g p.2))
  | [] => rfl
  | y :: r => by
    unfold insK
    by_cases h : x.1 ≤ y.1
    · rw [if_pos h]
      show _ = if x.1 ≤ y.1 then _ else _
      rw [if_pos h]; rfl
    · rw [if_neg h]
      show _ = if x.1 ≤ y.1 then _ else _
      rw [if_neg h, List.map_cons, insK_map g x r]
theorem sortK_map {β : Type} (g : α → β) : ∀ l : List (Int × α), (sortK l).map (fun p => (p.1, g p.2)) = sortK (l.map fun p => (p.1, g p.2))
  | [] => rfl
  | x :: r => by
    show (insK x (sortK r)).map _ = insK _ (sortK (r.map _))
    rw [insK_map, sortK_map g r]
end
/-- sorted pairs of related values are related -/
theorem insK_rel {x : Int × V} {u : Int × Value} (e : x.1 = u.1) (r : RelV x.2 u.2) : ∀ {l : List (Int × V)} {m : List (Int × Value)}, Paired (fun p q => p.1 = q.1 ∧ RelV p.2 q.2) l m → Paired (fun (p : Int × V) (q : Int × Value) => p.1 = q.1 ∧ RelV p.2 q.2) (insK x l) (insK u m)
  | _, _, .nil => .cons ⟨e, r⟩ .nil
  | y :: l, v :: m, .cons h t => by
    unfold insK
    rw [← e, ← h.1]
    split
    · exact .cons ⟨e, r⟩ (.cons h t)
    · exact .cons h (insK_rel e r t)
theorem sortK_rel : ∀ {l : List (Int × V)} {m : List (Int × Value)}, Paired (fun p q => p.1 = q.1 ∧ RelV p.2 q.2) l m → Paired (fun (p : Int × V) (q : Int × Value) => p.1 = q.1 ∧ RelV p.2 q.2) (sortK l) (sortK m)
  | _, _, .nil => .nil
  | _, _, .cons h t => insK_rel h.1 h.2 (sortK_rel t)
theorem zip_rel : ∀ {kz : List Int} {xs : List V} {us : List Value}, Vals xs us → Paired (fun (p : Int × V) (q : Int × Value) => p.1 = q.1 ∧ RelV p.2 q.2) (kz.zip xs) (kz.zip us)
  | [], _, _, _ => .nil
  | _ :: _, _, _, .nil => .nil
  | k :: kz, _, _, .cons r t => .cons ⟨rfl, r⟩ (zip_rel t)
theorem rel_snd : ∀ {l : List (Int × V)} {m : List (Int × Value)}, Paired (fun p q => p.1 = q.1 ∧ RelV p.2 q.2) l m → Vals (l.map Prod.snd) (m.map Prod.snd)
  | _, _, .nil => .nil
  | _, _, .cons h t => .cons h.2 (rel_snd t)
def byKey (ks : List Int) (xs : List V) : List V := (sortK (ks.zip xs)).map Prod.snd
theorem byKey_len {ks : List Int} {xs : List V} (h : ks.length = xs.length) : (byKey ks xs).length = xs.length := by
  unfold byKey
  rw [List.length_map, (sortK_perm _).length_eq, List.length_zip, h, Nat.min_self]
section
variable {X : Cx}
/-- sorted(xs, key=f), f a def whose answer is an int and that leaves the heap -/
def rSortedBy (K : PySem.W.Frag) (f : Addr) (sp : Sp) : List V → List V → Hp → VK → Prop := fun vs zs H Q => ∃ (a : Addr) (xs : List V) (ks : List Int), vs = [V.ref a] ∧ zs = [V.ref f] ∧ (SqL K H a xs ∨ SqT K H a xs) ∧ ks.length = xs.length ∧
  (∀ (i : Nat) (x : V) (k : Int), xs[i]? = some x → ks[i]? = some k → sp [x] H (fun v H' => v = .int k ∧ H' = H) E0) ∧ ∀ p, H p = none → Q (.ref p) (upd H p (.lst (byKey ks xs)))
theorem cr_sortedBy {k : Nat} {f : Addr} {fd : FuncData} {ps : List Str} {sp : Sp} (F : FnOk X.prog X.w X.K X.mg X.base CX0 k f fd ps sp) (hr : Room (k + 2) X.A) (hb : Binds X.K fd ps []) : CallRK X (.builtin "sorted") [Str.ofString "key"] (rSortedBy X.K f sp) := by
  intro pins s σ H xs zs us ws Q I rx rz hq
  obtain ⟨a, ys, ks, rfl, rfl, hS, hkl, hsp, q⟩ := hq
  cases rx with
  | cons r1 r2 =>
    cases r2
    cases r1
    cases rz with
    | cons z1 z2 =>
      cases z2
      cases z1
      obtain ⟨its, rv, hcol, hsm⟩ : ∃ its : List Value, Vals ys its ∧ (∀ (A : Around) (Q : List Value → Shared → Prop) (E : Value → Shared → Prop), Q its { s with heap := (s.heap.push (seqObj "list" #[] 0)).update s.heap.objs.size (Obj.mapSeq (· ++ its.toArray)) } → wpAny (model X.prog X.w) A (collect (.ref a)) Q E s) ∧ its.length ≤ sizeLine := by
        rcases hS with hS | hS
        · obtain ⟨its, rv, hl, hsm⟩ := I.list hS
          have hz' : its.length ≤ sizeLine := by rw [← rv.length]; exact hsm
          exact ⟨its, rv, fun A Q E h => collect_list hl.isList h hz', hz'⟩
        · obtain ⟨its, rv, hl, hsm⟩ := I.tuple hS
          have hz' : its.length ≤ sizeLine := by rw [← rv.length]; exact hsm
          exact ⟨its, rv, fun A Q E h => collect_tup hl hz' h, hz'⟩
      have hlen : ks.length = its.length := by rw [hkl, rv.length]
      show wpAny _ _ (call (.builtin "sorted") [.ref a] [(Str.ofString "key", .ref f)]) _ _ _
      refine call_function_entry_kw kind_sorted plain_sorted entry_sorted (ksk_s1 _ _) ?_
      unfold Builtin.«sorted»
      refine wpAny_bind (m := checkCount "sorted" 1 1 _) (wpAny_pure (wpAny_bind (hcol _ _ _ (wpAny_bind (wpAny_newList ?_ hsm)))))
      generalize hh1 : (s.heap.push (seqObj "list" #[] 0)).update s.heap.objs.size (Obj.mapSeq (· ++ its.toArray)) = h1
      have hz1 : h1.objs.size = s.heap.objs.size + 1 := by rw [← hh1, Heap.size_update, size_push']
      have kp1 : ∀ b o, s.heap.get? b = some o → h1.get? b = some o := fun b o e => by
        rw [← hh1, Heap.get?_update_ne _ _ _ _ (Nat.ne_of_lt (Heap.lt_size e))]
        exact Heap.get?_push_of_some _ e
      have hoL : (h1.push (seqObj "list" its.toArray 0)).get? h1.objs.size = some (seqObj "list" its.toArray 0) := Heap.get?_push_size _ rfl
      have I1 : Inv X pins σ H { s with heap := h1 } := I.kept (t' := s.toks) kp1
      have I2 : Inv X pins σ H { s with heap := h1.push (seqObj "list" its.toArray 0) } := I1.kept (t' := s.toks) fun b o e => Heap.get?_push_of_some _ e
      have fa : FpOk X pins H h1.objs.size := I1.fpOk (Nat.le_refl _) (I1.hok.fresh (Nat.le_refl _))
      refine wpAny_bind (wpAny_holding (wpAny_call_entry_kw slot_list_sort ⟨_, hoL, rfl⟩ entry_list_sort ?_ (ksk_l1 _ _)))
      show wpAny (model X.prog X.w) X.A.in1.in1 (Builtin.«list.sort» ⟨[.ref h1.objs.size], [(Str.ofString "key", .ref f)]⟩) _ _ _
      rw [ksk_t1]
      refine sb_sort (s := { s with heap := h1.push (seqObj "list" its.toArray 0) }) (kz := ks) I2 hoL fa hlen hsm (fun i v k pins' s' hv hk I' => ?_) fun s' out c I' ho' ko => ⟨_, rfl, ?_⟩
      · obtain ⟨x, hx, rxv⟩ : ∃ x, ys[i]? = some x ∧ RelV x v := by
          have hi : i < ys.length := by rw [rv.length]; exact (List.getElem?_eq_some_iff.mp hv).1
          obtain ⟨u, hu, ru⟩ := rv.get (List.getElem?_eq_getElem hi)
          rw [hv] at hu
          cases hu
          exact ⟨_, List.getElem?_eq_getElem hi, ru⟩
        exact run_fn2 F hr hb I' (.cons rxv .nil) (hsp i x k hx hk)
      · obtain ⟨pr, p1, p2, p3, p4⟩ := ko
        have e1 : pr = sortK (ks.zip its) := stable_one (p1.trans (sortK_perm _).symm) (by simpa using p3) (sortK_up _) fun c => (p4 c).trans (sortK_filter c _).symm
        have rel : Vals (byKey ks ys) out.toList := by
          rw [p2, e1]
          exact rel_snd (sortK_rel (zip_rel rv))
        have hbz : (byKey ks ys).length ≤ sizeLine := by rw [byKey_len hkl, rv.length]; exact hsm
        refine wpAny_pure ⟨_, rfl, ?_⟩
        exact ⟨.ref h1.objs.size, upd H h1.objs.size (.lst (byKey ks ys)), adopt I' fa ⟨hbz, out.toList, c, rel, by rw [Array.toArray_toList]; exact ho'⟩, rfl, q _ fa.1⟩
end
end TK

namespace TK
open PySem PySem.Spec PyProof.Rows L2
/-! ### enumerate(tuple) -/
theorem meets_enum1 {v : Value} {o : Obj} {G : Heap → Prop} (B : Begins v o G) :
    Meets (Builtin.«enumerate.__new__» ⟨[.type "enumerate", v], []⟩) (fun _ R s => G s.heap ∧
      R (.ok (.ret (.ref (s.heap.push o).objs.size))) { s with heap := (s.heap.push o).push { cls := .type "enumerate", data := .fields #[.none, .bool false, .ref s.heap.objs.size, rawInt 0, .none, .none] } }) :=
  .of_wp fun prog w A R s hh => by
    obtain ⟨hp, gg, dd, tk, os⟩ := s
    obtain ⟨hG, hR⟩ := hh
    have hsub := sub_enumerate
    have it1 : ∀ {A' : Around} {E' : Value → Shared → Prop} {Q : Value → Shared → Prop}, Q (.ref hp.objs.size) ⟨hp.push o, gg, dd, tk, os⟩ → wpAny (model prog w) A' (pyIter v) Q E' ⟨hp, gg, dd, tk, os⟩ := fun q => B.iter prog w _ _ ⟨hp, gg, dd, tk, os⟩ _ hG q
    wp_walk using it1
    refine wpAny_stack_any fun st => wpAny_pure ?_
    split
    · rename_i c _ _ _ _ _
      cases (c == Value.type "enumerate") <;> (wp_walk using it1; exact ⟨_, rfl, hR⟩)
    · wp_walk using it1
      exact ⟨_, rfl, hR⟩
section
variable {prog : Program} {w : World} {A : Around} {E : Value → Shared → Prop} {s : Shared}
theorem call_enum1 {v : Value} {o : Obj} {G : Heap → Prop} {Q : Value → Shared → Prop} (B : Begins v o G) (hG : G s.heap)
    (h : ∀ h', IsEnum h' (s.heap.objs.size + 1) s.heap.objs.size 0 .none → h'.get? s.heap.objs.size = some o → (∀ b o, s.heap.get? b = some o → h'.get? b = some o) → Q (.ref (s.heap.objs.size + 1)) { s with heap := h' }) :
    wpAny (model prog w) A (call (.type "enumerate") [v]) Q E s := by
  refine callType_new F.called_enumerate (by decide) (F.typeCall_enumerate_1 _) (F.newCall_enumerate_1 _) (fun obj => F.args_object_init_2 obj _) F.entry_enumerate_new (meets_enum1 B) ⟨hG, ?_⟩
  have zp : (s.heap.push o).objs.size = s.heap.objs.size + 1 := Heap.size_push ..
  show _ ∧ _
  rw [zp]
  have gen : IsEnum ((s.heap.push o).push { cls := .type "enumerate", data := .fields #[.none, .bool false, .ref s.heap.objs.size, rawInt 0, .none, .none] }) (s.heap.objs.size + 1) s.heap.objs.size 0 .none := by
    unfold IsEnum
    rw [← zp]
    exact Heap.get?_push_size _ rfl
  exact ⟨⟨_, gen, rfl⟩, h _ gen (Heap.get?_push_of_some _ (Heap.get?_push_size _ B.free)) fun b o q => Heap.get?_push_of_some _ (Heap.get?_push_of_some _ q)⟩
end
def IteT (K : PySem.W.Frag) (a : Addr) (n : Nat) : It :=
  ⟨fun i H => i < n ∧ ∃ xs : List V, SqT K H a xs ∧ xs.length = n, fun i H v H' => ∃ T x, v = .ref T ∧ H T = none ∧ H' = upd H T (.tup [.int (i : Nat), x]) ∧ ∀ xs, SqT K H a xs → xs[i]? = some x, fun i H => n ≤ i ∧ ∃ xs : List V, SqT K H a xs ∧ xs.length = n⟩
theorem turn_enumT {P : Program} {w : World} {K : PySem.W.Frag} {elts : List Expr} {kk : Nat} {tpos : Pos} (a e it : Addr) (n : Nat) (nei : e ≠ it) (nae : a ≠ e) (nai : a ≠ it) :
    Turn P w K (.Tuple elts kk tpos) (IteT K a n) [e, it] e (fun i h => (∃ old, IsEnum h e it ((i : Nat) : Int) old) ∧ h.IsTupleIter it a i ∧ i ≤ n) where
  mem := List.mem_cons_self ..
  obj := fun i h st b hb => by
    obtain ⟨⟨old, gen⟩, ⟨o, ho, _, hd⟩, _⟩ := st
    rcases List.mem_cons.mp hb with z | z
    · rw [z]; exact ⟨_, gen, fun v q => nomatch q⟩
    · rw [List.mem_singleton.mp z]; exact ⟨o, ho, fun v q => by rw [hd] at q; cases q⟩
  keep := fun i h h' st k => by
    obtain ⟨⟨old, gen⟩, hi, hn⟩ := st
    exact ⟨⟨old, k e (by simp) _ gen⟩, hi.at fun o q => k it (by simp) o q, hn⟩
  item := by
    intro X hP hw hK hc i pins s σ H E I hf st hg
    subst hP hw hK
    obtain ⟨⟨old, gen⟩, git, _⟩ := st
    obtain ⟨ltn, xs, hq, hxl⟩ := hg
    obtain ⟨itm, rel, p, zp⟩ := I.tuple hq
    have elt : e < s.heap.objs.size := Heap.lt_size gen
    have ilt : it < s.heap.objs.size := by obtain ⟨_, q, _⟩ := git; exact Heap.lt_size q
    have hsz : itm.toArray.size = n := by rw [List.size_toArray, ← rel.length]; exact hxl
    have D := Draws.tuple (prog := X.prog) (w := X.w) (A := X.A.in1) (I.ok.hd hc) it a nai itm.toArray
    refine wpAny_pyNext_enum_itemD D gen ⟨git, p⟩ (by rw [hsz]; exact ltn) nei (by simp [nei, Ne.symm nae]) fun u h' tk hu ho hst hT _ hk => ?_
    obtain ⟨x, hx, ru⟩ : ∃ x, xs[i]? = some x ∧ RelV x u := by
      obtain ⟨u', hu', ru'⟩ := rel.get (List.getElem?_eq_getElem (show i < xs.length by omega))
      have hu2 : itm[i]? = some u := by simpa using hu
      rw [hu2] at hu'
      cases hu'
      exact ⟨_, List.getElem?_eq_getElem (by omega), ru'⟩
    refine ⟨_, rfl, wpAny_letOwnedTupleGo_enum (s := { s with heap := h', toks := tk + 1 }) ho fun h'' he' sb => ?_⟩
    have atT : h''.get? s.heap.objs.size = some { cls := .type "tuple", data := .seq #[.int i tk, u] } := (sb.2 _ (Nat.ne_of_gt elt)).trans hT
    have new : ObjOk X.prog X.w (upd H s.heap.objs.size (.tup [.int (i : Nat), x])) h'' s.heap.objs.size (.tup [.int (i : Nat), x]) :=
      ⟨by show 2 ≤ sizeLine; decide, [.int i tk, u], .cons ⟨_, rfl⟩ (.cons ru .nil), ⟨_, atT, rfl, _, rfl⟩⟩
    have I1 : Inv X pins σ (upd H s.heap.objs.size (.tup [.int (i : Nat), x])) { s with heap := h'', toks := tk + 1 } :=
      I.turnedNew (ch := [e, it]) (fun b ob hb q => (sb.2 b (fun z => hb (by simp [z]))).trans (hk b ob (fun z => hb (by simp [z])) (fun z => hb (by simp [z])) q)) hf (Nat.le_refl _) new
    refine ⟨.ref s.heap.objs.size, _, I1, rfl, ⟨_, x, rfl, I.hok.fresh (Nat.le_refl _), rfl, fun ys hy => by rw [I.tuple_inj hy hq]; exact hx⟩, ⟨⟨u, ?_⟩, hst.1.at fun o q => (sb.2 it (Ne.symm nei)).trans q, by omega⟩, fun b hb => ?_⟩
    · rw [show ((i + 1 : Nat) : Int) = (i : Int) + 1 by omega]; exact he'
    · have blt : b < s.heap.objs.size := by
        rcases List.mem_cons.mp hb with z | z
        · rw [z]; exact elt
        · rw [List.mem_singleton.mp z]; exact ilt
      rw [upd_ne (Nat.ne_of_lt blt)]
      exact (hf b hb).1
  done := by
    intro X hP hw hK hc i pins s σ H E I hf st hg
    subst hP hw hK
    obtain ⟨⟨old, gen⟩, git, ble⟩ := st
    obtain ⟨hge, xs, hq, hxl⟩ := hg
    obtain ⟨itm, rel, p, zp⟩ := I.tuple hq
    have hin : i = itm.toArray.size := by rw [List.size_toArray, ← rel.length]; omega
    obtain ⟨q0, q1, q2, q3, q4, q5⟩ := hf it (by simp)
    have D := Draws.tuple (prog := X.prog) (w := X.w) (A := X.A.in1) (I.ok.hd hc) it a nai itm.toArray
    refine wpAny_pyNext_enum_endD D gen ⟨by rw [← hin]; exact git, p⟩ fun h' eb => ⟨rfl, I.turned (t' := s.toks) (fun b o hb q => eb b o hb q) q0 q1 q3 q4 q5⟩
  self := fun A i s Q E st h => by
    obtain ⟨⟨_, gen⟩, _⟩ := st
    exact wpAny_pyIter_enum gen h
def iEnumT (K : PySem.W.Frag) (ta : TA) : TI := fun σ H R => ta σ H fun vs H1 => ∃ a xs, vs = [.ref a] ∧ SqT K H1 a xs ∧ R (IteT K a xs.length) H1
theorem pi_enumT {X : Cx} {e : Expr} {ta : TA} {p pos tpos : Pos} {elts : List Expr} {kk : Nat} (hg : Gl X "enumerate") (hm : X.mg "enumerate" = none) (ha : PA X [e] ta) (hs : starEach [e] X.env = [(false, eval e X.env)] := by rfl) :
    PI X (.Tuple elts kk tpos) (.Call (.Name "enumerate" p) [e] [] pos) (iEnumT X.K ta) := by
  refine ⟨fun pins s σ H R I h => Call_ (ld_blt I hg hm boot_enumerate (PyProof.Rows.callWith_type1 (thn (ha.run pos pins s σ H _ I h) fun us s1 ⟨vs, H1, I1, r1, q1⟩ => ?_) hs rfl))⟩
  obtain ⟨a, xs, rfl, hq, q⟩ := q1
  cases r1 with
  | cons r rr =>
    cases rr
    cases r
    obtain ⟨itm, rel, p', zp⟩ := I1.tuple hq
    have hal : a < s1.heap.objs.size := by obtain ⟨_, q, _⟩ := p'; exact Heap.lt_size q
    refine call_enum1 (begins_tuple a itm.toArray) p' fun h' gen git hk => wpAny_pyIter_enum gen ?_
    have J2 : Inv X pins σ H1 { s1 with heap := h' } := I1.kept (t' := s1.toks) hk
    refine ⟨s1.heap.objs.size + 1, [s1.heap.objs.size + 1, s1.heap.objs.size], _, _, H1, rfl, J2, turn_enumT a (s1.heap.objs.size + 1) s1.heap.objs.size xs.length (Nat.succ_ne_self _) (Nat.ne_of_lt (Nat.lt_succ_of_lt hal)) (Nat.ne_of_lt hal), ⟨⟨.none, gen⟩, ⟨_, git, rfl, rfl⟩, Nat.zero_le _⟩, fun b hb => ?_, q⟩
    have ble : s1.heap.objs.size ≤ b := by
      rcases List.mem_cons.mp hb with z | z
      · rw [z]; exact Nat.le_add_right _ _
      · rw [List.mem_singleton.mp z]; exact Nat.le_refl _
    exact I1.fpOk ble (I1.hok.fresh ble)
theorem walk_enumT {K : PySem.W.Frag} {a : Addr} {xs : List V} : Walk (IteT K a xs.length) xs.length (fun H => SqT K H a xs) (YPair (fun i => some (.int (i : Nat))) (fun i => xs[i]?)) where
  goes := fun i H hi hG => ⟨hi, xs, hG, rfl⟩
  stops := fun H hG => ⟨Nat.le_refl _, xs, hG, rfl⟩
  yields := fun i H x H' _ hG hy => by
    obtain ⟨T, v, e1, e2, e3, e4⟩ := hy
    exact ⟨T, _, v, e1, e2, e3, rfl, e4 xs hG⟩
end TK

namespace TK
open PySem PySem.Spec PyProof.Rows L2
/-! ### max(xs, default=d), min(xs, default=d) of ints -/
theorem hold_ints {h : Heap} : ∀ {us : List Value} {ns : List Int}, IntsAre us ns → ∃ as, ReadsAll h us (ns.map PySem.W.Datum.toD) as
  | _, _, .nil => ⟨[], .nil⟩
  | _, _, .cons n t r => by
    obtain ⟨as, ra⟩ := hold_ints (h := h) r
    exact ⟨[] ++ as, .cons (.int n t) ra⟩
theorem hold_int {h : Heap} {v : Value} {m : Int} (H : PySem.W.Holds h v m) : ∃ t, v = Value.int m t := by
  obtain ⟨as, r⟩ := H
  have r : Reads h v (.int m) as := r
  cases r with
  | int i t => exact ⟨t, rfl⟩
theorem maxOf_is : ∀ (ys : List Int) (y : Int), PySem.W.maxOf y ys ∈ y :: ys ∧ ∀ z ∈ y :: ys, z ≤ PySem.W.maxOf y ys
  | [], y => ⟨List.mem_cons_self .., fun z hz => by cases List.mem_singleton.mp hz; exact Int.le_refl _⟩
  | a :: ys, y => by
    have e : PySem.W.maxOf y (a :: ys) = PySem.W.maxOf (if y < a then a else y) ys := by
      show List.foldl _ (if decide (y < a) = true then a else y) ys = _
      by_cases h : y < a
      · rw [if_pos (decide_eq_true h), if_pos h]; rfl
      · rw [if_neg (by simpa using h), if_neg h]; rfl
    obtain ⟨h1, h2⟩ := maxOf_is ys (if y < a then a else y)
    rw [e]
    by_cases h : y < a
    · rw [if_pos h] at h1 h2 ⊢
      refine ⟨?_, fun z hz => ?_⟩
      · exact List.mem_cons_of_mem _ h1
      · rcases List.mem_cons.mp hz with q | q
        · have := h2 a (List.mem_cons_self ..)
          omega
        · exact h2 z q
    · rw [if_neg h] at h1 h2 ⊢
      refine ⟨?_, fun z hz => ?_⟩
      · rcases List.mem_cons.mp h1 with q | q
        · rw [q]; exact List.mem_cons_self ..
        · exact List.mem_cons_of_mem _ (List.mem_cons_of_mem _ q)
      · rcases List.mem_cons.mp hz with q | q
        · rw [q]; exact h2 y (List.mem_cons_self ..)
        · rcases List.mem_cons.mp q with q | q
          · have := h2 y (List.mem_cons_self ..)
            omega
          · exact h2 z (List.mem_cons_of_mem _ q)
theorem minOf_is : ∀ (ys : List Int) (y : Int), PySem.W.minOf y ys ∈ y :: ys ∧ ∀ z ∈ y :: ys, PySem.W.minOf y ys ≤ z
  | [], y => ⟨List.mem_cons_self .., fun z hz => by cases List.mem_singleton.mp hz; exact Int.le_refl _⟩
  | a :: ys, y => by
    have e : PySem.W.minOf y (a :: ys) = PySem.W.minOf (if a < y then a else y) ys := by
      show List.foldl _ (if decide (a < y) = true then a else y) ys = _
      by_cases h : a < y
      · rw [if_pos (decide_eq_true h), if_pos h]; rfl
      · rw [if_neg (by simpa using h), if_neg h]; rfl
    obtain ⟨h1, h2⟩ := minOf_is ys (if a < y then a else y)
    rw [e]
    by_cases h : a < y
    · rw [if_pos h] at h1 h2 ⊢
      refine ⟨?_, fun z hz => ?_⟩
      · exact List.mem_cons_of_mem _ h1
      · rcases List.mem_cons.mp hz with q | q
        · have := h2 a (List.mem_cons_self ..)
          omega
        · exact h2 z q
    · rw [if_neg h] at h1 h2 ⊢
      refine ⟨?_, fun z hz => ?_⟩
      · rcases List.mem_cons.mp h1 with q | q
        · rw [q]; exact List.mem_cons_self ..
        · exact List.mem_cons_of_mem _ (List.mem_cons_of_mem _ q)
      · rcases List.mem_cons.mp hz with q | q
        · rw [q]; exact h2 y (List.mem_cons_self ..)
        · rcases List.mem_cons.mp q with q | q
          · have := h2 y (List.mem_cons_self ..)
            omega
          · exact h2 z (List.mem_cons_of_mem _ q)
def rMaxDef (K : PySem.W.Frag) : List V → List V → Hp → VK → Prop := fun vs zs H Q => ∃ (a : Addr) (ns : List Int) (d : V), vs = [V.ref a] ∧ zs = [d] ∧ SqL K H a (ns.map V.int) ∧ (ns = [] → Q d H) ∧ ∀ m, m ∈ ns → (∀ y, y ∈ ns → y ≤ m) → Q (.int m) H
def rMinDef (K : PySem.W.Frag) : List V → List V → Hp → VK → Prop := fun vs zs H Q => ∃ (a : Addr) (ns : List Int) (d : V), vs = [V.ref a] ∧ zs = [d] ∧ SqL K H a (ns.map V.int) ∧ (ns = [] → Q d H) ∧ ∀ m, m ∈ ns → (∀ y, y ∈ ns → m ≤ y) → Q (.int m) H
section
variable {X : Cx}
theorem cr_maxDef (hc : X.calm = true) (hu : X.A.units + 64 < cLine) : CallRK X (.builtin "max") [Str.ofString "default"] (rMaxDef X.K) := by
  intro pins s σ H xs zs us ws Q I rx rz hq
  obtain ⟨a, ns, d, rfl, rfl, hs, q0, q1⟩ := hq
  rw [Vals.ref1 rx]
  cases rz with
  | cons z1 z2 =>
    cases z2
    obtain ⟨its, rv, hl, _⟩ := I.list hs
    refine PySem.W.max_list_datum_default (α := Int) (xs := ns) (I.ok.hd hc) hl.isList (hold_ints rv.ints) (by show X.A.units + 1 + 0 < cLine; omega) (fun e h' tk hk => ⟨d, H, I.kept hk, z1, q0 e⟩) fun y ys i v h' tk e _ hv hk => ?_
    obtain ⟨t, rfl⟩ := hold_int hv
    obtain ⟨m1, m2⟩ := maxOf_is ys y
    exact ⟨.int _, H, I.kept hk, ⟨_, rfl⟩, q1 _ (by rw [e]; exact m1) fun z hz => m2 z (by rw [e] at hz; exact hz)⟩
theorem cr_minDef (hc : X.calm = true) (hu : X.A.units + 64 < cLine) : CallRK X (.builtin "min") [Str.ofString "default"] (rMinDef X.K) := by
  intro pins s σ H xs zs us ws Q I rx rz hq
  obtain ⟨a, ns, d, rfl, rfl, hs, q0, q1⟩ := hq
  rw [Vals.ref1 rx]
  cases rz with
  | cons z1 z2 =>
    cases z2
    obtain ⟨its, rv, hl, _⟩ := I.list hs
    refine PySem.W.min_list_datum_default (α := Int) (xs := ns) (I.ok.hd hc) hl.isList (hold_ints rv.ints) (by show X.A.units + 1 + 0 < cLine; omega) (fun e h' tk hk => ⟨d, H, I.kept hk, z1, q0 e⟩) fun y ys i v h' tk e _ hv hk => ?_
    obtain ⟨t, rfl⟩ := hold_int hv
    obtain ⟨m1, m2⟩ := minOf_is ys y
    exact ⟨.int _, H, I.kept hk, ⟨_, rfl⟩, q1 _ (by rw [e]; exact m1) fun z hz => m2 z (by rw [e] at hz; exact hz)⟩
end
/-! ### t[::-1] of a tuple -/
section
variable {prog : Program} {w : World} {A : Around} {E : Value → Shared → Prop} {s : Shared}
theorem places_rev (n : Nat) : Builtin.Slice.slicePlaces ((n : Int) - 1) (-1) (-1) = n := by
  unfold Builtin.Slice.slicePlaces
  rw [if_neg (by decide)]
  by_cases h : n = 0
  · subst h; rfl
  · rw [if_pos (by omega), show -(-1 : Int) = 1 from rfl, Int.ediv_one]
    omega
theorem applied_rev {sl : Addr} {vl vu vs : Value} {n : Nat} {Q : Int × Int × Nat → Shared → Prop} (hs : s.heap.IsSliceOf sl vl vu vs) (pl : IsPart vl none) (pu : IsPart vu none) (ps : IsPart vs (some (-1)))
    (h : Q ((n : Int) - 1, -1, n) s) : wpAny (model prog w) A (Builtin.Slice.sliceApplied (.ref sl) (pure (n : Int))) Q E s := by
  obtain ⟨ob, go, _, gd⟩ := id hs
  unfold Builtin.Slice.sliceApplied Builtin.Slice.sliceFields
  refine wpAny_bind (wpAny_bind (wpAny_field go gd (x := vl) rfl (wpAny_bind (wpAny_field go gd (x := vu) rfl (wpAny_bind (wpAny_field go gd (x := vs) rfl (wpAny_pure ?_)))))))
  refine wpAny_bind (HT.slicePart_ ps ?_)
  show wpAny _ _ (if ((-1 : Int) == 0) = true then _ else _) _ _ s
  rw [if_neg (by decide)]
  refine wpAny_bind (HT.slicePart_ pl (wpAny_bind (HT.slicePart_ pu (wpAny_bind (wpAny_pure ?_)))))
  show wpAny _ _ (pure ((n : Int) - 1, (-1 : Int), Builtin.Slice.slicePlaces ((n : Int) - 1) (-1) (-1))) _ _ s
  rw [places_rev]
  exact wpAny_pure h
theorem fm_congr {α β : Type} {f g : α → Option β} : ∀ {l : List α}, (∀ x ∈ l, f x = g x) → l.filterMap f = l.filterMap g
  | [], _ => rfl
  | x :: r, h => by
    rw [List.filterMap_cons, List.filterMap_cons, h x (List.mem_cons_self ..), fm_congr fun y hy => h y (List.mem_cons_of_mem _ hy)]
theorem pick_rev (xs : Array Value) : ((List.range xs.size).filterMap fun (m : Nat) => xs[((xs.size : Int) - 1 + (m : Int) * (-1)).toNat]?).toArray = xs.toList.reverse.toArray := by
  have e : ((List.range xs.size).filterMap fun (m : Nat) => xs[((xs.size : Int) - 1 + (m : Int) * (-1)).toNat]?) = ((List.range xs.size).map fun k => xs.size - 1 - k).filterMap (xs[·]?) := by
    rw [List.filterMap_map]
    refine fm_congr fun m hm => ?_
    have := List.mem_range.mp hm
    show xs[_]? = xs[xs.size - 1 - m]?
    congr 1
    omega
  rw [e, PySem.W.krv_range, List.filterMap_reverse, PySem.W.krv_all]
theorem getItem_tup_rev {t sl : Addr} {items : Array Value} {vl vu vs : Value} {Q : Value → Shared → Prop} (ht : IsTup s.heap t items) (hs : s.heap.IsSliceOf sl vl vu vs) (pl : IsPart vl none) (pu : IsPart vu none) (ps : IsPart vs (some (-1)))
    (h : Q (.ref s.heap.objs.size) { s with heap := s.heap.push { cls := .type "tuple", data := .seq items.toList.reverse.toArray } }) (hsz : items.size ≤ sizeLine) : wpAny (model prog w) A (getItem (.ref t) (.ref sl)) Q E s := by
  have small : sizeOk (.seq items.toList.reverse.toArray) := by
    show items.toList.reverse.toArray.size ≤ sizeLine
    rw [List.size_toArray, List.length_reverse, Array.length_toList]
    exact hsz
  obtain ⟨ob, go, gc, gd⟩ := id hs
  unfold getItem
  try with_reducible refine wpAny_holding ?_
  first | refine wpAny_bind (wpAny_pure ?_) | skip
  refine wpAny_bind (wpAny_sequenceKey ht.typeIs (by decide) (wpAny_bind (wpAny_callSpecial?_slot (name := Str.ofString "__getitem__") ht.typeIs PyProof.Rows.slot_tuple_getitem (wpAny_call_entry PyProof.Rows.slot_tuple_getitem ht.typeIs entry_tuple_getitem ?_ (args_tuple_getitem _ _)))))
  show wpAny _ _ (Builtin.Tuple.tupleItemsOf (.ref t) >>= _) _ _ s
  refine wpAny_bind (tupleItemsOf_ ht (wpAny_bind (wpAny_typeOf ⟨ob, go, gc⟩ ?_)))
  rw [if_pos (by decide)]
  refine wpAny_bind (applied_rev hs pl pu ps ?_)
  show wpAny _ _ (if (((items.size : Int) - 1) == 0 && (-1 : Int) == 1 && items.size == items.size) = true then _ else _) _ _ s
  rw [if_neg (by rw [show ((-1 : Int) == 1) = false from rfl, Bool.and_false, Bool.false_and]; decide), pick_rev]
  first
    | exact wpAny_bind (m := Builtin.Tuple.tupleExact _) (wpAny_newObj_type (wpAny_pure ⟨_, rfl, wpAny_pure h⟩) small)
    | exact wpAny_bind (m := Builtin.Tuple.tupleExact _) (wpAny_newObj_type (wpAny_bind (wpAny_pure (wpAny_pure ⟨_, rfl, wpAny_pure h⟩))) small)
    | exact wpAny_bind (wpAny_bind (m := Builtin.Tuple.tupleExact _) (wpAny_newObj_type (wpAny_pure (wpAny_pure ⟨_, rfl, wpAny_pure h⟩)) small))
    | exact wpAny_bind (wpAny_bind (m := Builtin.Tuple.tupleExact _) (wpAny_newObj_type (wpAny_pure ⟨_, rfl, wpAny_pure h⟩) small))
end
def tRevT (K : PySem.W.Frag) (te : TE) : TE := fun σ H Q => te σ H fun x H1 => ∃ a xs, x = .ref a ∧ SqT K H1 a xs ∧ ∀ p, H1 p = none → Q (.ref p) (upd H1 p (.tup xs.reverse))
theorem pe_revT {X : Cx} {e : Expr} {te : TE} {k : Nat} {p1 p2 p3 pos : Pos} (he : PE X e te) : PE X (.Subscript e (.Slice none none (some (.UnaryOp .USub (.Constant (.int 1) k p1) p2)) p3) pos) (tRevT X.K te) := by
  refine ⟨fun pins s σ H Q I h => Subscript_ (thn (he.run pins s σ H _ I h) fun v s1 ⟨x, H1, I1, r1, a, xs, ex, hx, q⟩ => ?_)⟩
  subst ex
  cases r1
  have one : PO X (some (.UnaryOp .USub (.Constant (.int 1) k p1) p2)) (tPart (tUn (rU fun i => .int (-i)) (tC (.int 1)))) := po_some (pe_un un_neg pe_int)
  refine wpAny_Slice (thn (po_none.run pins s1 σ H1 (fun o G => o = none ∧ G = H1) I1 ⟨rfl, rfl⟩) fun vl s2 ⟨l, H2, I2, pl, el, e2⟩ => ?_)
  subst el e2
  refine thn (po_none.run pins s2 σ H2 (fun o G => o = none ∧ G = H2) I2 ⟨rfl, rfl⟩) fun vu s3 ⟨u, H3, I3, pu, eu, e3⟩ => ?_
  subst eu e3
  refine thn (one.run pins s3 σ H3 (fun o G => o = some (-1) ∧ G = H3) I3 ⟨1, rfl, -1, rfl, rfl, rfl⟩) fun vs s4 ⟨o, H4, I4, ps, eo, e4⟩ => ?_
  subst eo e4
  have J : Inv X pins σ H4 { s4 with heap := s4.heap.push { cls := .type "slice", data := .fields #[vl, vu, vs] } } := I4.kept (t' := s4.toks) fun b ob q => Heap.get?_push_of_some _ q
  obtain ⟨itm, r, ht, hz⟩ := J.tuple hx
  have hlen := r.length
  show wpAny (model X.prog X.w) X.A (subscriptTail e (.Slice none none (some (.UnaryOp .USub (.Constant (.int 1) k p1) p2)) p3) (.ref a) (.ref s4.heap.objs.size)) (EP X pins σ Q) X.xe { s4 with heap := s4.heap.push { cls := .type "slice", data := .fields #[vl, vu, vs] } }
  refine tail_any (ops := [.ref a, .ref s4.heap.objs.size]) ht.typeIs PyProof.Rows.slot_tuple_getitem.lookup ?_ (by with_unfolding_all rfl)
  refine getItem_tup_rev ht (Heap.IsSliceOf.new _ vl vu vs) pl pu ps ?_ (by rw [List.size_toArray]; omega)
  refine ⟨.ref _, _, J.laid (t' := s4.toks) (o := .tup xs.reverse) (fun b ob q => Heap.get?_push_of_some _ q) (Nat.le_refl _) ?_, rfl, q _ (J.hok.fresh (Nat.le_refl _))⟩
  exact ⟨by rw [List.length_reverse]; exact hz, _, r.reverse, IsTup.new _ _⟩
end TK

namespace TK
open PySem PySem.Spec PyProof.Rows L2
section
variable {X : Cx}
/-! ### a word of one's own in the middle; two ways to read the same text -/
theorem ps_cut {st : Stmt} {t : TS} (h : PS X st t) : PS X st (fun D σ H => ∃ R : L2.St → Hp → Prop, t { D with nx := R } σ H ∧ ∀ σ' H', R σ' H' → D.nx σ' H') :=
  ⟨fun pins s σ H D I ⟨R, q, k⟩ => thn (h.run pins s σ H _ I q) fun f s' z => by
    cases f with
    | next => obtain ⟨σ', H', I', r⟩ := z; exact ⟨σ', H', I', k _ _ r⟩
    | brk => exact z
    | cont => exact z
    | ret u => exact z⟩
theorem pe_cut {e : Expr} {t : TE} (h : PE X e t) : PE X e (fun σ H Q => ∃ R : VK, t σ H R ∧ ∀ v H', R v H' → Q v H') :=
  ⟨fun pins s σ H Q I ⟨R, q, k⟩ => thn (h.run pins s σ H _ I q) fun v s' z => by
    obtain ⟨x, H', I', r, q'⟩ := z
    exact ⟨x, H', I', r, k _ _ q'⟩⟩
theorem pt_cut {e : Expr} {t : TT} (h : PT X e t) : PT X e (fun σ H Q => ∃ R : Bool → Hp → Prop, t σ H R ∧ ∀ b H', R b H' → Q b H') :=
  ⟨fun pins s σ H Q I ⟨R, q, k⟩ => thn (h.run pins s σ H _ I q) fun v s' z => by
    obtain ⟨H', I', q'⟩ := z
    exact ⟨H', I', k _ _ q'⟩⟩
theorem pi_or {tg it : Expr} {w1 w2 : TI} (h1 : PI X tg it w1) (h2 : PI X tg it w2) : PI X tg it (fun σ H R => w1 σ H R ∨ w2 σ H R) :=
  ⟨fun pins s σ H R I h => h.elim (h1.run pins s σ H R I) (h2.run pins s σ H R I)⟩
theorem ps_or {st : Stmt} {t1 t2 : TS} (h1 : PS X st t1) (h2 : PS X st t2) : PS X st (fun D σ H => t1 D σ H ∨ t2 D σ H) :=
  ⟨fun pins s σ H D I h => h.elim (h1.run pins s σ H D I) (h2.run pins s σ H D I)⟩
theorem pe_or2 {e : Expr} {t1 t2 : TE} (h1 : PE X e t1) (h2 : PE X e t2) : PE X e (fun σ H Q => t1 σ H Q ∨ t2 σ H Q) :=
  ⟨fun pins s σ H Q I h => h.elim (h1.run pins s σ H Q I) (h2.run pins s σ H Q I)⟩
theorem pt_or2 {e : Expr} {t1 t2 : TT} (h1 : PT X e t1) (h2 : PT X e t2) : PT X e (fun σ H Q => t1 σ H Q ∨ t2 σ H Q) :=
  ⟨fun pins s σ H Q I h => h.elim (h1.run pins s σ H Q I) (h2.run pins s σ H Q I)⟩
end
end TK

namespace TK
open PySem PySem.Spec PyProof.Rows L2
section
variable {X : Cx}
/-! sum(t), a tuple of ints -/
def rSumT (K : PySem.W.Frag) : List V → Hp → VK → Prop := fun vs H Q => ∃ (a : Addr) (ns : List Int), vs = [V.ref a] ∧ SqT K H a (ns.map V.int) ∧ Q (.int ns.sum) H
theorem cr_sumT (hc : X.calm = true) : CallR X (.builtin "sum") (rSumT X.K) := by
  intro pins s σ H vs us Q I r h
  obtain ⟨a, ns, rfl, hs, q⟩ := h
  obtain ⟨itm, rv, p, _⟩ := I.tuple hs
  rw [Vals.ref1 r]
  obtain ⟨xs, e⟩ := rv.ints.allInts.items
  have hn : numsOf itm.toArray.toList = ns := rv.ints.numsOf
  rw [e, nums_intItems] at hn
  refine PySem.W.ktm_sumG (I.ok.hd hc) (e ▸ p) fun h' tk t' hk => ?_
  rw [preSum_eq, List.take_of_length_le (by simp), hn]
  exact ⟨.int _, H, I.kept hk, ⟨_, rfl⟩, q⟩
/-- *e within a comprehension -/
theorem pa_starK {K : PySem.W.Frag} {e : Expr} {es : List Expr} {te : TE} {t : TA} {p : Pos} (h : X.K = K) (he : PE X e te) (hr : PA X es t) (hs : starEach (.Starred e p :: es) X.env = (true, eval e X.env) :: starEach es X.env := by rfl) : PA X (.Starred e p :: es) (StX.tStar K te t) := h ▸ StX.pa_star he hr hs
theorem op_eqDK {K : PySem.W.Frag} (h : X.K = K) (hu : X.A.units + 64 < cLine) : OpR X (compareOp .Eq) (rEqD K) := h ▸ op_eqD hu
theorem op_neDK {K : PySem.W.Frag} (h : X.K = K) (hu : X.A.units + 64 < cLine) : OpR X (compareOp .NotEq) (rNeD K) := h ▸ op_neD hu
/-! ### objects at a row of addresses -/
def At (H : Hp) (us : List Addr) (os : List HO) : Prop := us.length = os.length ∧ ∀ (i : Nat) (u : Addr) (o : HO), us[i]? = some u → os[i]? = some o → H u = some o
theorem At.same {H H' : Hp} {us : List Addr} {os : List HO} (h : At H us os) (s : Same H H') : At H' us os := ⟨h.1, fun i u o a b => s _ _ (h.2 i u o a b)⟩
theorem At.nil {H : Hp} : At H [] [] := ⟨rfl, fun i u o a _ => by simp at a⟩
theorem At.append {H : Hp} {us vs : List Addr} {os ps : List HO} (h : At H us os) (k : At H vs ps) : At H (us ++ vs) (os ++ ps) := by
  refine ⟨by rw [List.length_append, List.length_append, h.1, k.1], fun i u o a b => ?_⟩
  by_cases hi : i < us.length
  · rw [List.getElem?_append_left hi] at a
    rw [List.getElem?_append_left (by rw [← h.1]; exact hi)] at b
    exact h.2 i u o a b
  · rw [List.getElem?_append_right (by omega)] at a
    rw [List.getElem?_append_right (by rw [← h.1]; omega), ← h.1] at b
    exact k.2 _ u o a b
theorem At.one {H : Hp} {u : Addr} {o : HO} (e : H u = some o) : At H [u] [o] := ⟨rfl, fun i u' o' a b => by
  match i, a, b with
  | 0, a, b =>
    cases a
    cases b
    exact e⟩
theorem At.get {H : Hp} {us : List Addr} {os : List HO} {i : Nat} {x : V} (h : At H us os) (e : (us.map V.ref)[i]? = some x) : ∃ (u : Addr) (o : HO), x = .ref u ∧ us[i]? = some u ∧ os[i]? = some o ∧ H u = some o := by
  rw [List.getElem?_map] at e
  cases ht : us[i]? with
  | none => rw [ht] at e; cases e
  | some t =>
    rw [ht] at e
    cases e
    have hi : i < os.length := by rw [← h.1]; exact (List.getElem?_eq_some_iff.mp ht).1
    exact ⟨t, os[i], rfl, rfl, List.getElem?_eq_getElem hi, h.2 i t _ ht (List.getElem?_eq_getElem hi)⟩
/-- a list elsewhere is written anew -/
theorem At.wrote {H : Hp} {us : List Addr} {os : List HO} {D : Addr} {xs : List V} {o : HO} (h : At H us os) (t : ∀ p ∈ os, ∃ ys, p = HO.tup ys) (e : H D = some (.lst xs)) : At (upd H D o) us os := ⟨h.1, fun i u p a b => by
  have := h.2 i u p a b
  rw [upd_ne fun z => ?_]
  · exact this
  · subst z
    obtain ⟨ys, rfl⟩ := t p (List.mem_of_getElem? b)
    rw [e] at this
    cases this⟩
end
end TK

namespace TK
open PySem PySem.Spec PyProof.Rows L2
/-! ### zip(tuple, list) -/
def ItzM (K : PySem.W.Frag) (a b : Addr) : It :=
  ⟨fun i H => ∃ xs ys : List V, SqT K H a xs ∧ SqL K H b ys ∧ i < xs.length ∧ i < ys.length,
    fun i H v H' => ∃ T x y, v = .ref T ∧ H T = none ∧ H' = upd H T (.tup [x, y]) ∧ (∀ xs, SqT K H a xs → xs[i]? = some x) ∧ ∀ ys, SqL K H b ys → ys[i]? = some y,
    fun i H => ∃ xs ys : List V, SqT K H a xs ∧ SqL K H b ys ∧ i ≤ xs.length ∧ i ≤ ys.length ∧ (i = xs.length ∨ i = ys.length)⟩
theorem ne_nat {x y : Nat} (h : x < y ∨ y < x) : x ≠ y := by omega
theorem no_two {x p q : Nat} (h1 : x < p ∨ p < x) (h2 : x < q ∨ q < x) : x ∉ [p, q] := by
  intro h
  rcases List.mem_cons.mp h with z | z
  · exact ne_nat h1 z
  · exact ne_nat h2 (List.mem_singleton.mp z)
theorem sep_zip (I a b : Nat) (la : a < I) (lb : b < I) : ZipSep2 (I + 4) (I + 2) (I + 3) I (I + 1) [I, a] [I + 1, b] :=
  ⟨ne_nat (x := I + 2) (y := I + 4) (by omega), ne_nat (x := I + 3) (y := I + 4) (by omega), ne_nat (x := I + 2) (y := I + 3) (by omega), ne_nat (x := I + 2) (y := I) (by omega), List.mem_cons_self .., no_two (x := I + 4) (by omega) (by omega), no_two (x := I + 3) (by omega) (by omega),
    ne_nat (x := I + 2) (y := I + 1) (by omega), List.mem_cons_self .., no_two (x := I + 4) (by omega) (by omega), no_two (x := I + 3) (by omega) (by omega), no_two (x := I) (by omega) (by omega), no_two (x := I + 1) (by omega) (by omega)⟩
theorem turn_zipM {P : Program} {w : World} {K : PySem.W.Frag} {elts : List Expr} {kk : Nat} {tpos : Pos} {a b z TI TO i1 i2 : Addr} (S : ZipSep2 z TI TO i1 i2 [i1, a] [i2, b]) (na : a ≠ i1) (nb : b ≠ i2) :
    Turn P w K (.Tuple elts kk tpos) (ItzM K a b) [z, TI, TO, i1, i2] z (fun i h => IsZip h z TI TO .none ∧ IsTupOf2 h TI (.ref i1) (.ref i2) ∧ (∃ x y, IsTupOf2 h TO x y) ∧ h.IsTupleIter i1 a i ∧ h.IsListIter i2 b i) where
  mem := by simp
  obj := fun i h st c hc => by
    obtain ⟨hz, hTI, ⟨x, y, hTO⟩, ⟨o1, e1, _, d1⟩, ⟨o2, e2, _, d2⟩⟩ := st
    have e' : c = z ∨ c = TI ∨ c = TO ∨ c = i1 ∨ c = i2 := by simpa using hc
    rcases e' with rfl | rfl | rfl | rfl | rfl
    · exact ⟨_, hz, fun v q => nomatch q⟩
    · exact ⟨_, hTI, fun v q => nomatch q⟩
    · exact ⟨_, hTO, fun v q => nomatch q⟩
    · exact ⟨o1, e1, fun v q => by rw [d1] at q; cases q⟩
    · exact ⟨o2, e2, fun v q => by rw [d2] at q; cases q⟩
  keep := fun i h h' st k => by
    obtain ⟨hz, hTI, ⟨x, y, hTO⟩, h1, h2⟩ := st
    exact ⟨k z (by simp) _ hz, k TI (by simp) _ hTI, ⟨x, y, k TO (by simp) _ hTO⟩, h1.at fun o q => k i1 (by simp) o q, h2.at fun o q => k i2 (by simp) o q⟩
  item := by
    intro X hP hw hK hc i pins s σ H E I hf st hg
    subst hP hw hK
    obtain ⟨hz, hTI, ⟨x0, y0, hTO⟩, h1, h2⟩ := st
    obtain ⟨xs, ys, hqx, hqy, lx, ly⟩ := hg
    obtain ⟨its, rv, p, _⟩ := I.tuple hqx
    obtain ⟨its2, rv2, p2, _⟩ := I.list hqy
    have hzl : z < s.heap.objs.size := Heap.lt_size hz
    have n1 : its.toArray.size = xs.length := by rw [List.size_toArray, ← rv.length]
    have n2 : its2.toArray.size = ys.length := by rw [List.size_toArray, ← rv2.length]
    have D1 := Draws.tuple (prog := X.prog) (w := X.w) (A := X.A.in1) (I.ok.hd hc) i1 a na its.toArray
    have D2 := Draws.list (prog := X.prog) (w := X.w) (A := X.A.in1) (I.ok.hd hc) i2 b nb its2.toArray
    refine wpAny_pyNext_zipD2_item S D1 D2 hz hTI hTO ⟨h1, p⟩ ⟨h2, p2.isList⟩ (by rw [n1]; exact lx) (by rw [n2]; exact ly) fun u u2 h' tk hu hu2 z' TO' d1 d2 hT hsz hk => ?_
    refine ⟨_, rfl, wpAny_letOwnedTupleGo_zip (s := { s with heap := h', toks := tk }) z' fun h'' z'' sb => ?_⟩
    obtain ⟨x, hx, ru⟩ : ∃ x, xs[i]? = some x ∧ RelV x u := by
      obtain ⟨v, hv, r⟩ := rv.get (List.getElem?_eq_getElem lx)
      have : its[i]? = some u := by simpa using hu
      rw [this] at hv
      cases hv
      exact ⟨_, List.getElem?_eq_getElem lx, r⟩
    obtain ⟨y, hy, ru2⟩ : ∃ y, ys[i]? = some y ∧ RelV y u2 := by
      obtain ⟨v, hv, r⟩ := rv2.get (List.getElem?_eq_getElem ly)
      have : its2[i]? = some u2 := by simpa using hu2
      rw [this] at hv
      cases hv
      exact ⟨_, List.getElem?_eq_getElem ly, r⟩
    have hT2 : h''.get? s.heap.objs.size = some { cls := .type "tuple", data := .seq #[u, u2] } := (sb.2 _ (Nat.ne_of_gt hzl)).trans hT
    have new : ObjOk X.prog X.w (upd H s.heap.objs.size (.tup [x, y])) h'' s.heap.objs.size (.tup [x, y]) :=
      ⟨by show 2 ≤ sizeLine; decide, [u, u2], .cons ru (.cons ru2 .nil), ⟨_, hT2, rfl, _, rfl⟩⟩
    have I1 : Inv X pins σ (upd H s.heap.objs.size (.tup [x, y])) { s with heap := h'', toks := tk } :=
      I.turnedNew (ch := [z, TI, TO, i1, i2]) (fun c o hb q => (sb.2 c (fun q' => hb (by simp [q']))).trans (hk c o (fun q' => hb (by simp [q'])) (fun q' => hb (by simp [q'])) (fun q' => hb (by simp [q'])) (fun q' => hb (by simp [q'])) q)) hf (Nat.le_refl _) new
    refine ⟨.ref s.heap.objs.size, _, I1, rfl, ⟨_, x, y, rfl, I.hok.fresh (Nat.le_refl _), rfl, fun l hl => by rw [I.tuple_inj hl hqx]; exact hx, fun l hl => by rw [I.list_inj hl hqy]; exact hy⟩, ⟨z'', ?_, ⟨u, u2, ?_⟩, ?_, ?_⟩, fun c hcm => ?_⟩
    · exact (sb.2 _ S.TIz).trans (hk _ _ S.TIz S.TITO S.TIi1 S.TIi2 hTI)
    · exact (sb.2 _ S.TOz).trans TO'
    · exact d1.1.at fun o q => (sb.2 _ (Ne.symm S.zi1)).trans q
    · exact d2.1.at fun o q => (sb.2 _ (Ne.symm S.zi2)).trans q
    · have hlt : c < s.heap.objs.size := by
        have e' : c = z ∨ c = TI ∨ c = TO ∨ c = i1 ∨ c = i2 := by simpa using hcm
        rcases e' with rfl | rfl | rfl | rfl | rfl
        · exact hzl
        · exact Heap.lt_size hTI
        · exact Heap.lt_size hTO
        · obtain ⟨_, e1, _⟩ := h1; exact Heap.lt_size e1
        · obtain ⟨_, e2, _⟩ := h2; exact Heap.lt_size e2
      rw [upd_ne (Nat.ne_of_lt hlt)]
      exact (hf c hcm).1
  done := by
    intro X hP hw hK hc i pins s σ H E I hf st hg
    subst hP hw hK
    obtain ⟨hz, hTI, ⟨x0, y0, hTO⟩, h1, h2⟩ := st
    obtain ⟨xs, ys, hqx, hqy, le1, le2, hend⟩ := hg
    obtain ⟨its, rv, p, _⟩ := I.tuple hqx
    obtain ⟨its2, rv2, p2, _⟩ := I.list hqy
    have n1 : its.toArray.size = xs.length := by rw [List.size_toArray, ← rv.length]
    have n2 : its2.toArray.size = ys.length := by rw [List.size_toArray, ← rv2.length]
    have D1 := Draws.tuple (prog := X.prog) (w := X.w) (A := X.A.in1) (I.ok.hd hc) i1 a na its.toArray
    have D2 := Draws.list (prog := X.prog) (w := X.w) (A := X.A.in1) (I.ok.hd hc) i2 b nb its2.toArray
    exact wpAny_pyNext_zipD2_end S D1 D2 hz hTI hTO ⟨h1, p⟩ ⟨h2, p2.isList⟩ (by rw [n1]; exact le1) (by rw [n2]; exact le2) (by rw [n1, n2]; exact hend) fun h' tk hk => ⟨rfl, I.turnedL (ch := [z, TI, TO, i1, i2]) (fun c o hb q =>
      hk c o (fun q' => hb (by simp [q'])) (fun q' => hb (by simp [q'])) (fun q' => hb (by simp [q'])) (fun q' => hb (by simp [q'])) q) hf⟩
  self := fun A i s Q E st h => wpAny_pyIter_zip st.1 h
def iZipM (K : PySem.W.Frag) (ta : TA) : TI := fun σ H R => ta σ H fun vs H1 => ∃ a b xs ys, vs = [.ref a, .ref b] ∧ SqT K H1 a xs ∧ SqL K H1 b ys ∧ R (ItzM K a b) H1
theorem pi_zipM {X : Cx} {e e2 : Expr} {ta : TA} {p pos tpos : Pos} {elts : List Expr} {kk : Nat} (hg : Gl X "zip") (hm : X.mg "zip" = none) (ha : PA X [e, e2] ta)
    (hs : starEach [e, e2] X.env = (false, eval e X.env) :: starEach [e2] X.env := by rfl) (hpl : (backTo pos (starEach [e2] X.env)).any (·.1) = false := by rfl) :
    PI X (.Tuple elts kk tpos) (.Call (.Name "zip" p) [e, e2] [] pos) (iZipM X.K ta) := by
  refine ⟨fun pins s σ H R I h => Call_ (ld_blt I hg hm PyProof.Rows.boot_zip (PyProof.Rows.callWith_type1 (thn (ha.run pos pins s σ H _ I h) fun us s1 ⟨vs, H1, I1, r1, q1⟩ => ?_) hs hpl))⟩
  obtain ⟨a, b, xs, ys, rfl, hqx, hqy, q⟩ := q1
  obtain ⟨u1, u2, rfl, r, r'⟩ := r1.two
  cases r
  cases r'
  obtain ⟨its, rv, p1, _⟩ := I1.tuple hqx
  obtain ⟨its2, rv2, p2, _⟩ := I1.list hqy
  have la : a < s1.heap.objs.size := by obtain ⟨_, q, _⟩ := p1; exact Heap.lt_size q
  have lb : b < s1.heap.objs.size := p2.lt
  refine zip_begins2 (begins_tuple a its.toArray) (begins_list b its2.toArray) p1 p2.isList fun h' hz hTI hTO h1 h2 hsz hk => wpAny_pyIter_zip hz ?_
  have I2 : Inv X pins σ H1 { s1 with heap := h' } := I1.kept (t' := s1.toks) hk
  refine ⟨s1.heap.objs.size + 4, [s1.heap.objs.size + 4, s1.heap.objs.size + 2, s1.heap.objs.size + 3, s1.heap.objs.size, s1.heap.objs.size + 1], _, _, H1, rfl, I2, turn_zipM (sep_zip _ _ _ la lb) (Nat.ne_of_lt la) (Nat.ne_of_lt (Nat.lt_succ_of_lt lb)), ⟨hz, hTI, ⟨_, _, hTO⟩, ⟨_, h1, rfl, rfl⟩, ⟨_, h2, rfl, rfl⟩⟩, fun c hcm => ?_, q⟩
  have hle : s1.heap.objs.size ≤ c := by
    have e' : c = s1.heap.objs.size + 4 ∨ c = s1.heap.objs.size + 2 ∨ c = s1.heap.objs.size + 3 ∨ c = s1.heap.objs.size ∨ c = s1.heap.objs.size + 1 := by simpa using hcm
    rcases e' with rfl | rfl | rfl | rfl | rfl
    · exact Nat.le_add_right _ _
    · exact Nat.le_add_right _ _
    · exact Nat.le_add_right _ _
    · exact Nat.le_refl _
    · exact Nat.le_add_right _ _
  exact I1.fpOk hle (I1.hok.fresh hle)
theorem walk_zipM {K : PySem.W.Frag} {a b : Addr} {xs ys : List V} (hl : xs.length = ys.length) : Walk (ItzM K a b) xs.length (fun H => SqT K H a xs ∧ SqL K H b ys) (YPair (fun i => xs[i]?) (fun i => ys[i]?)) where
  goes := fun i H hi q => ⟨xs, ys, q.1, q.2, hi, by omega⟩
  stops := fun H q => ⟨xs, ys, q.1, q.2, Nat.le_refl _, by omega, .inl rfl⟩
  yields := fun i H v H' _ q y => by
    obtain ⟨T, x, z, h1, h2, h3, h4, h5⟩ := y
    exact ⟨T, x, z, h1, h2, h3, h4 xs q.1, h5 ys q.2⟩
end TK

namespace TK
open PySem PySem.Spec PyProof.Rows L2
/-- a dict comprehension over whatever walks -/
theorem dc_it {J : It} {n : Nat} {G : Hp → Prop} {Y : Nat → Hp → V → Hp → Prop} (w : Walk J n G Y) {g : TG} {tt : TT} {tk tv : TE} {vs : List Nat} {σ : L2.St} {H1 : Hp} {D : Addr} {Qd : Hp → Prop} (Pv : Nat → Hp → Prop) (h0 : Pv 0 (upd H1 D (.dK []))) (hG : ∀ i H, i ≤ n → Pv i H → G H)
    (hs : ∀ i x H H', i < n → Pv i H → Y i H x H' → g x (wipe σ vs) H' fun σ2 H2 => wipe σ2 vs = wipe σ vs ∧ tt σ2 H2 fun b H3 =>
      if b = true then tk σ2 H3 fun y H4 => tv σ2 H4 fun z H5 => ∃ kvs k, y = kV k ∧ H5 D = some (.dK kvs) ∧ kvs.length < sizeLine ∧ Pv (i + 1) (upd H5 D (.dK (putK kvs k z))) else Pv (i + 1) H3) (hd : ∀ H, Pv n H → Qd H) :
    ∃ W : Nat → Nat → Hp → Prop, (∃ m, W 0 m (upd H1 D (.dK []))) ∧ ∀ i m H, W i m H →
      (J.stop i H ∧ Qd H) ∨ (J.go i H ∧ ∃ Nx : Hp → Prop, (∀ H', Nx H' → ∃ m', m' < m ∧ W (i + 1) m' H') ∧ ∀ x H', J.yld i H x H' → g x (wipe σ vs) H' fun σ2 H2 => wipe σ2 vs = wipe σ vs ∧ tt σ2 H2 fun b H3 =>
        if b = true then tk σ2 H3 fun y H4 => tv σ2 H4 fun z H5 => ∃ kvs k, y = kV k ∧ H5 D = some (.dK kvs) ∧ kvs.length < sizeLine ∧ Nx (upd H5 D (.dK (putK kvs k z))) else Nx H3) := by
  refine ⟨fun i m H => m = n - i ∧ i ≤ n ∧ Pv i H, ⟨n, by simp, Nat.zero_le _, h0⟩, ?_⟩
  rintro i m H ⟨rfl, hi, p⟩
  have q := hG i H hi p
  by_cases hlt : i < n
  · exact .inr ⟨w.goes i H hlt q, Pv (i + 1), fun H' p' => ⟨n - (i + 1), by omega, rfl, hlt, p'⟩, fun x H' y => hs i x H H' hlt p (w.yields i H x H' hlt q y)⟩
  · have e : i = n := by omega
    subst e
    exact .inl ⟨w.stops H q, hd H p⟩
end TK

namespace TK
open PySem PySem.Spec PyProof.Rows L2
section
variable {X : Cx}
/-- tuple(a list), the new tuple known to the object -/
theorem call_tuple_frz : CallR X (.type "tuple") (fun xs H Q => ∃ p ys, xs = [.ref p] ∧ SqL X.K H p ys ∧ ∀ (l : Addr) (o : Obj), H l = none → o.cls = .type "tuple" → o.dict = none → Q (.ref l) (upd H l (.frz o (.tup ys)))) := by
  intro pins s σ H xs us Q I r h
  obtain ⟨p, ys, rfl, hq, q⟩ := h
  obtain ⟨u, rfl, rx⟩ := vals1 r
  cases rx
  obtain ⟨its, r', pl, hz⟩ := I.list hq
  have hlen := r'.length
  refine call_tuple_list pl.isList (fun h' kp => ?_) (by simp only [List.size_toArray] <;> omega)
  have I1 : Inv X pins σ H { s with heap := h' } := I.kept (t' := s.toks) kp
  have I2 : Inv X pins σ (upd H h'.objs.size (.frz { cls := .type "tuple", data := .seq its.toArray } (.tup ys))) { s with heap := h'.push { cls := .type "tuple", data := .seq its.toArray } } :=
    I1.laid (t' := s.toks) (fun b o e => Heap.get?_push_of_some _ e) (Nat.le_refl _) (show ObjOk X.prog X.w _ _ _ (.frz _ (.tup ys)) from ⟨Heap.get?_push_size _ rfl, hz, its, r', IsTup.new _ _⟩)
  exact ⟨.ref h'.objs.size, _, I2, rfl, q _ _ (I1.hok.fresh (Nat.le_refl _)) rfl rfl⟩
/-- the value is such a tuple -/
def FrzT (x : V) (H : Hp) : Prop := ∃ p o xs, x = .ref p ∧ H p = some (.frz o (.tup xs)) ∧ o.cls = .type "tuple" ∧ o.dict = none
def tBMF (r : V → List V → Hp → VK → Prop) (to : TE) (t : TA) : TE := fun σ H Q => to σ H fun x H1 => FrzT x H1 ∧ t σ H1 fun xs H2 => r x xs H2 Q
variable {o e : Expr} {es : List Expr} {to : TE} {t : TA} {name : Str} {apos cpos : Pos} {id : String} {r : V → List V → Hp → VK → Prop}
theorem pe_bmF (pa : PlainAttrs "tuple") (slot : Slot "tuple" name id) (hty : typeOf (.builtin id) = pure (.type "method_descriptor")) (hm : MtR X id r) (ho : PE X o to) (ha : PA X (e :: es) t)
    (hbase : attributeBase o name X.env (eval o X.env) = eval o X.env := by rfl)
    (hfew : ((backTo cpos (starEach (e :: es) X.env)).all (fun x => !x.1) && (backToKw cpos (keywordEach [] X.env)).all (fun x => x.1.isSome)
      && decide ((e :: es).length + ([] : List Keyword).length + (if ([] : List Keyword).isEmpty then 0 else 1) < 30)) = true := by rfl)
    (hline : (apos.endLine == cpos.line) = true := by rfl) (hs : starEach (e :: es) X.env = (false, eval e X.env) :: starEach es X.env := by rfl) (hplain : (backTo cpos (starEach es X.env)).any (·.1) = false := by rfl) :
    PE X (.Call (.Attribute o name apos) (e :: es) [] cpos) (tBMF r to t) := by
  refine ⟨fun pins s σ H Q I h => ?_⟩
  refine wpAny_Call_method_late hbase hfew hline rfl (thn (ho.run pins s σ H _ I h) fun v s1 ⟨x, H1, I1, r1, ty, q1⟩ => ?_)
  have h12 : s1.TypeIs v "tuple" ∧ ∀ a, v = .ref a → ∃ ob, s1.heap.get? a = some ob ∧ ob.dict = none := by
    obtain ⟨p, ob, xs, rfl, hp, hc, hd⟩ := ty
    cases r1
    obtain ⟨eo, _⟩ := I1.hok p _ hp
    refine ⟨⟨ob, eo, hc⟩, fun a e => ?_⟩
    cases e
    exact ⟨ob, eo, hd⟩
  refine ⟨"tuple", id, pa, slot, hty, h12.1, h12.2, ?_⟩
  have hA := ha.run cpos pins s1 σ H1 _ I1 q1
  rw [hs] at hA ⊢
  refine Calls.callWith_builtin (by show (false || (backTo cpos (starEach es X.env)).any (·.1)) = false; rw [hplain] <;> rfl) (Calls.evalArgs_plain ?_)
  exact thn hA fun us s2 ⟨vs, H2, I2, r2, q2⟩ => hm pins s2 σ H2 x vs v us Q I2 r1 r2 q2
end
theorem tupFrz {K : PySem.W.Frag} {H : Hp} {a : Addr} {o : Obj} {xs : List V} (h : H a = some (.frz o (.tup xs))) : SqT K H a xs := .inl (.inr ⟨o, h⟩)
end TK

namespace TK
open PySem PySem.Spec PyProof.Rows L2
/-! ### the special methods of an own class -/
structure Own (K : PySem.W.Frag) (C : Addr) (name : Str) (g : Addr) : Prop where
  at_ : PySem.W.findIn K (.ref C) name = some (some (.ref g))
  fn : PySem.W.isFn K (.ref g) = true
def IsIn (H : Hp) (x : V) (C : Addr) : Prop := ∃ a dx fs, x = .ref a ∧ H a = some (.ins C dx fs)
section
variable {X : Cx} {CX : CXT} {C g : Addr} {n : Nat} {fd : FuncData} {ps : List Str} {sp : Sp} {E : XK} {pins : List (Addr × Obj)} {σ : L2.St} {H : Hp} {s : Shared}
theorem run_own {A : Around} {Q : VK} {us : List Value} {vs : List V} (F : FnOk X.prog X.w X.K X.mg X.base CX n g fd ps sp) (hr : Room n A) (e0 : Env0 X.prog X.w X.K X.mg X.base A X.stack s H) (hb : Binds X.K fd ps []) (hx : Passes CX X E)
    (I : Inv X pins σ H s) (r : Vals vs us) (h : sp vs H Q E) : wpAny (model X.prog X.w) A (call (.ref g) us) (EP X pins σ Q) X.xe s := by
  have hl : (us ++ []).length = ps.length := by rw [List.append_nil, ← r.length]; exact F.len _ _ _ _ h
  have hbb := hb s us I.kIn hl
  rw [List.append_nil] at hbb
  refine wpAny_call (codeAny_mono (F.run A X.stack s H ⟨us, []⟩ us vs Q E hr e0 hbb r h) fun r s' hq => ?_)
  cases r with
  | error e => exact hx pins σ H s e s' I hq
  | ok fl =>
    cases fl with
    | ret u => exact I.after hq
    | next => exact False.elim hq
    | brk => exact False.elim hq
    | cont => exact False.elim hq
theorem own_at {a dx : Addr} {fs : List (Str × V)} (I : Inv X pins σ H s) (h : H a = some (.ins C dx fs)) : ∃ ox od, PySem.W.InstAt s.heap a ox C od := by
  obtain ⟨mA, J, _⟩ := ins_get I.hok h
  obtain ⟨od, J, _⟩ := J.look
  exact ⟨_, _, J⟩
/-! o[k] -/
def rOwn (C : Addr) (sp : Sp) (E : XK) : R2 := fun x y H Q => IsIn H x C ∧ sp [x, y] H Q E
def PlainIxO (b : Expr) : Prop := ∀ (x : Addr) (i : Value), subscripted b true (.ref x) i = runValue (.builtin "lifetime.subscript" ⟨[.ref x, i], []⟩)
theorem pe_ixOwn {a b : Expr} {ta tb : TE} {pos : Pos} (c : Own X.K C "__getitem__" g) (cf : PySem.W.fnIn X.K g = true) (F : FnOk X.prog X.w X.K X.mg X.base CX n g fd ps sp) (hr : Room (n + 1) X.A) (hb : Binds X.K fd ps []) (hx : Passes CX X E)
    (ha : PE X a ta) (hb' : PE X b tb) (hs : PlainIxO b) : PE X (.Subscript a b pos) (tOp (rOwn C sp E) ta tb) := by
  refine ⟨fun pins s σ H Q I h => ?_⟩
  refine Subscript_ (binT ha hb' I h fun v u s2 x y H2 I2 rx ry q => ?_)
  obtain ⟨⟨p, dx, fs, rfl, hp⟩, q⟩ := q
  cases rx
  obtain ⟨ox, od, J⟩ := own_at I2 hp
  obtain ⟨m, hF⟩ := I2.fr
  exact PySem.W.sub_K hF I2.ok.mod.kin J c.at_ cf c.fn (run_own F hr.in1 I2.env0.in1 hb hx I2 (vs := [.ref p, y]) (.cons rfl (.cons ry .nil)) q) (hs _ _)
/-! o + p, o * p, o | p: two of one class -/
def rOwn2 (C : Addr) (sp : Sp) (E : XK) : R2 := fun x y H Q => IsIn H x C ∧ IsIn H y C ∧ sp [x, y] H Q E
theorem op_ownBin {op : Operator} (c : Own X.K C (PySem.dunder op.info.2) g) (sf : PySem.W.selfFirst X.K C = true) (F : FnOk X.prog X.w X.K X.mg X.base CX n g fd ps sp) (hr : Room n X.A) (hb : Binds X.K fd ps []) (hx : Passes CX X E) :
    OpR X (binaryOp op) (rOwn2 C sp E) := by
  intro pins s σ H x y v u Q I rx ry h
  obtain ⟨⟨a, dx, fs, rfl, ha⟩, ⟨b, dy, gs, rfl, hb'⟩, q⟩ := h
  cases rx
  cases ry
  obtain ⟨ox, od, J⟩ := own_at I ha
  obtain ⟨ox', od', J'⟩ := own_at I hb'
  obtain ⟨m, hF⟩ := I.fr
  refine PySem.W.binop_K hF I.ok.mod.kin J J'.type sf c.at_ c.fn (wpAny_mono (run_own F hr I.env0 hb hx I (vs := [.ref a, .ref b]) (.cons rfl (.cons rfl .nil)) q) (fun w s' z => ?_) fun _ _ x => x)
  obtain ⟨z', H', I', rz, qz⟩ := z
  exact SlX.cmpback rz ⟨z', H', I', rz, qz⟩
/-! o == p: two of one class -/
theorem op_ownEq {op : CmpOp} (hop : ∀ a b, compareOp op a b = richCompare op a b) (c : Own X.K C (cmpInfo op).2.1 g) (F : FnOk X.prog X.w X.K X.mg X.base CX n g fd ps sp) (hr : Room n X.A) (hb : Binds X.K fd ps []) (hx : Passes CX X E) :
    OpR X (compareOp op) (rOwn2 C sp E) := by
  intro pins s σ H x y v u Q I rx ry h
  obtain ⟨⟨a, dx, fs, rfl, ha⟩, ⟨b, dy, gs, rfl, hb'⟩, q⟩ := h
  cases rx
  cases ry
  obtain ⟨ox, od, J⟩ := own_at I ha
  obtain ⟨ox', od', J'⟩ := own_at I hb'
  obtain ⟨m, hF⟩ := I.fr
  rw [hop]
  refine PySem.W.cmp_K (op := op) (tb := .ref C) hr.units0 hF I.ok.mod.kin J J'.type (by simp [PySem.W.notFirst]) c.at_ c.fn (wpAny_mono (run_own F hr I.env0 hb hx I (vs := [.ref a, .ref b]) (.cons rfl (.cons rfl .nil)) q) (fun w s' z => ?_) fun _ _ x => x)
  obtain ⟨z', H', I', rz, qz⟩ := z
  exact SlX.cmpback rz ⟨z', H', I', rz, qz⟩
/-! x in o, x not in o -/
def rOwnIn (neg : Bool) (C : Addr) (sp : Sp) (E : XK) : R2 := fun x y H Q => IsIn H y C ∧ sp [y, x] H (fun z H' => ∃ b, z = .bl b ∧ Q (.bl (if neg then !b else b)) H') E
theorem op_ownIn (c : Own X.K C "__contains__" g) (F : FnOk X.prog X.w X.K X.mg X.base CX n g fd ps sp) (hr : Room n X.A) (hb : Binds X.K fd ps []) (hx : Passes CX X E) : OpR X (compareOp .In) (rOwnIn false C sp E) := by
  intro pins s σ H x y v u Q I rx ry h
  obtain ⟨⟨a, dx, fs, rfl, ha⟩, q⟩ := h
  cases ry
  obtain ⟨ox, od, J⟩ := own_at I ha
  obtain ⟨m, hF⟩ := I.fr
  refine PySem.W.in_K hF I.ok.mod.kin J c.at_ c.fn (wpAny_mono (run_own F hr I.env0 hb hx I (vs := [.ref a, x]) (.cons rfl (.cons rx .nil)) q) (fun w s' z => ?_) fun _ _ x => x)
  obtain ⟨z', H', I', rz, b, rfl, qz⟩ := z
  cases (show w = Value.bool b from rz)
  exact wpAny_truthy_bool ⟨.bl b, H', I', rfl, by simpa using qz⟩
theorem op_ownNotIn (c : Own X.K C "__contains__" g) (F : FnOk X.prog X.w X.K X.mg X.base CX n g fd ps sp) (hr : Room n X.A) (hb : Binds X.K fd ps []) (hx : Passes CX X E) : OpR X (compareOp .NotIn) (rOwnIn true C sp E) := by
  intro pins s σ H x y v u Q I rx ry h
  obtain ⟨⟨a, dx, fs, rfl, ha⟩, q⟩ := h
  cases ry
  obtain ⟨ox, od, J⟩ := own_at I ha
  obtain ⟨m, hF⟩ := I.fr
  refine PySem.W.notIn_K hF I.ok.mod.kin J c.at_ c.fn (wpAny_mono (run_own F hr I.env0 hb hx I (vs := [.ref a, x]) (.cons rfl (.cons rx .nil)) q) (fun w s' z => ?_) fun _ _ x => x)
  obtain ⟨z', H', I', rz, b, rfl, qz⟩ := z
  cases (show w = Value.bool b from rz)
  exact wpAny_truthy_bool ⟨.bl (!b), H', I', rfl, by simpa using qz⟩
/-! len(o) -/
def rOwnLen (C : Addr) (sp : Sp) (E : XK) : List V → Hp → VK → Prop := fun xs H Q => ∃ x, xs = [x] ∧ IsIn H x C ∧ sp [x] H (fun z H' => ∃ k : Nat, z = .int k ∧ k < 2 ^ 63 ∧ Q z H') E
theorem call_ownLen (c : Own X.K C "__len__" g) (F : FnOk X.prog X.w X.K X.mg X.base CX n g fd ps sp) (hr : Room (n + 1) X.A) (hb : Binds X.K fd ps []) (hx : Passes CX X E) : CallR X (.builtin "len") (rOwnLen C sp E) := by
  intro pins s σ H xs us Q I r h
  obtain ⟨x, rfl, ⟨a, dx, fs, rfl, ha⟩, q⟩ := h
  obtain ⟨u, rfl, ru⟩ := vals1 r
  cases ru
  obtain ⟨ox, od, J⟩ := own_at I ha
  obtain ⟨m, hF⟩ := I.fr
  refine PySem.W.len_K hF I.ok.mod.kin J c.at_ c.fn (wpAny_mono (run_own F hr.in1 I.env0.in1 hb hx I (vs := [.ref a]) (.cons rfl .nil) q) (fun w s' z => ?_) fun _ _ x => x)
  obtain ⟨z', H', I', rz, k, rfl, hk, qz⟩ := z
  obtain ⟨t, rfl⟩ := (show ∃ t, w = Value.int k t from rz)
  exact ⟨⟨by omega, by omega⟩, .int k, H', I'.tok _, ⟨_, rfl⟩, qz⟩
/-! iter(t), t a tuple; for x in o -/
abbrev itTObj (t : Addr) (i : Nat) : Obj := { cls := .type "tuple_iterator", data := .fields #[.ref t, .int i 0] }
def ItT (t it : Addr) : HO := .ext fun h => h.get? it = some (itTObj t 0)
theorem itT_ok {P : Program} {w : World} {H : Hp} {h : Heap} {t it : Addr} (e : h.get? it = some (itTObj t 0)) : ObjOk P w H h it (ItT t it) := ⟨e, ⟨_, e⟩, fun h1 h2 q k => k _ q⟩
theorem call_iterT : CallR X (.builtin "iter") (fun xs H Q => ∃ (l : Addr) (zs : List V), xs = [.ref l] ∧ SqT X.K H l zs ∧ ∀ it, H it = Option.none → X.s_0.heap.objs.size ≤ it → Q (.ref it) (upd H it (ItT l it))) := by
  intro pins s σ H xs us Q I r h
  obtain ⟨l, zs, rfl, hq, q⟩ := h
  obtain ⟨u, rfl, ru⟩ := vals1 r
  cases ru
  obtain ⟨its, rv, p, hz⟩ := I.tuple hq
  refine Calls.call_function_entry (by decide +kernel) (by decide +kernel) PySem.W.kdk_entry_iter (PySem.W.kdk_args_iter _) ?_
  unfold Builtin.«iter»
  refine wpAny_bind (m := someArgs "iter" 1 2 _) (wpAny_of_eq (a := [Value.ref l]) (by first | rfl | kernel_rfl!) ?_)
  show wpAny _ _ (pyIter (.ref l) >>= _) _ _ _
  refine wpAny_bind (wpAny_pyIter_tuple (show s.heap.IsTuple l its.toArray from p) ?_)
  exact wpAny_pure ⟨_, rfl, .ref s.heap.objs.size, _, I.laid (t' := s.toks) (fun b u e => Heap.get?_push_of_some _ e) (Nat.le_refl _) (itT_ok (Heap.get?_push_size _ rfl)), rfl, q _ (I.hok.fresh (Nat.le_refl _)) I.sz⟩
/-- what an __iter__ over a tuple does -/
def QIt (H : Hp) (n : Nat) (t : Addr) : VK := fun v H' => ∃ it, v = .ref it ∧ H it = Option.none ∧ n ≤ it ∧ H' = upd H it (ItT t it)
end
def FnIt (P : Program) (w : World) (K : PySem.W.Frag) (mg : Str → Option Value) (base : Heap) (k : Nat) (f : Addr) (R : Addr → Addr → Hp → Prop) : Prop :=
  ∀ (A : Around) (outer : List Env) (s : Shared) (H : Hp) (a t : Addr), Room k A → Env0 P w K mg base A outer s H → R a t H → codeAny (model P w) A (.call (.ref f) ⟨[.ref a], []⟩) (CR CX0 outer P w H s (QIt H s.heap.objs.size t) E0) s
theorem fnIt_of {P : Program} {w : World} {K : PySem.W.Frag} {mg : Str → Option Value} {base : Heap} {k : Nat} {f : Addr} {x qual : Str} {st : Stmt} {fd : FuncData} {N : List Str} {R : Addr → Addr → Hp → Prop} (F : Fun K x qual st f fd) (S : FnScope N ["self"] (defScope st)) (b : Binds K fd ["self"] [])
    (hbody : ∀ (cdv : Value) (A : Around) (outer : List Env) (s : Shared) (H : Hp) (a t : Addr), Room k (A.deeper (envOfC qual (defScope st) s.heap.objs.size f cdv)) → R a t H →
      ∃ tt, PSs (cxOf CX0 P w K mg base N qual (defScope st) f cdv A outer s H E0).nox (defBody st) tt ∧ tt { nx := fun _ H' => QIt H s.heap.objs.size t .non H', rt := QIt H s.heap.objs.size t } (start N [.ref a]) H) : FnIt P w K mg base (k + 1) f R := by
  intro A outer s H a t hr e0 hR
  obtain ⟨oc, od, kV, doc, pm, an, cdv, ct, osl, rfl, lk, hcd⟩ := F.ex
  have KX : K.In s.heap := e0.mod.kin.keeps fun b o e => (e0.bs b o e).1
  have lim : s.heap.NoLimit := e0.mod.nolimit.keeps fun b o e => (e0.bs b o e).1
  have hkind : ∀ y ∈ ([Str.ofString "self"] : List Str).zip [Value.ref a], (defScope st).names.lookup y.1 = some .local ∨ ((defScope st).names.lookup y.1 = some .cell ∧ ((cellsFrom (s.heap.objs.size + 1) (defScope st).names []).lookup y.1).isSome = true) := fun ⟨n, v⟩ hy => by
    rcases S.par n (List.of_mem_zip hy).1 with q | q
    · exact .inl q
    · exact .inr ⟨q, PySem.W.cellsFrom_some _ _ _ (.inl q)⟩
  have hbb := b s [.ref a] KX (by simp)
  rw [List.append_nil] at hbb
  refine codeAny_call_function hr.depth (KX _ _ lk) rfl S.co S.gen rfl (PySem.W.codeRec_of KX hcd) (hbb _ _ _ _ ?_)
  refine wpAny_newFunctionEnv_cells S.kind hkind fun env he s1 x => ?_
  subst he
  refine ⟨lim.keeps x.toInCall.keep, codeAny_func ?_⟩
  obtain ⟨t', ht, hq⟩ := hbody cdv A outer s H a t (hr.deeper _) hR
  have I : Inv (cxOf CX0 P w K mg base N qual (defScope st) f cdv A outer s H E0) [] (start N [V.ref a]) H s1 := inv_start S hr.hd e0 rfl (.cons rfl .nil) x
  refine wpAny_mono (ht.nox.run [] s1 (start N [V.ref a]) H _ I hq) (fun fl s' hs => ?_) fun e s' hs => hs
  have fin : ∀ {σ' : L2.St} {H' : Hp} {v : V} {u : Value}, Inv (cxOf CX0 P w K mg base N qual (defScope st) f cdv A outer s H E0) [] σ' H' s' → RelV v u → QIt H s.heap.objs.size t v H' → CE outer P w H s (QIt H s.heap.objs.size t) u s' :=
    fun {σ' H' v u} J rv q => ⟨v, H', J.os, J.bare, J.base, J.hok, rv, q⟩
  cases fl with
  | ret u =>
    obtain ⟨v, σ', H', J, rv, q⟩ := hs
    exact fin J rv q
  | next =>
    obtain ⟨σ', H', J, q⟩ := hs
    exact fin (v := V.non) (u := Value.none) J rfl q
  | brk =>
    obtain ⟨_, _, _, q⟩ := hs
    exact False.elim q
  | cont =>
    obtain ⟨_, _, _, q⟩ := hs
    exact False.elim q
section
variable {X : Cx} {CX : CXT} {C g : Addr} {n : Nat} {fd : FuncData} {ps : List Str} {sp : Sp} {E : XK} {pins : List (Addr × Obj)} {σ : L2.St} {H : Hp} {s : Shared}
def iOwn (K : PySem.W.Frag) (C : Addr) (R : Addr → Addr → Hp → Prop) (te : TE) : TI := fun σ H Z => te σ H fun x H1 => ∃ a dx fs t, x = .ref a ∧ H1 a = some (.ins C dx fs) ∧ R a t H1 ∧ (∃ xs, SqT K H1 t xs) ∧ Z (Itt K t) H1
theorem pi_own {R : Addr → Addr → Hp → Prop} {e tg : Expr} {te : TE} (c : Own X.K C "__iter__" g) (F : FnIt X.prog X.w X.K X.mg X.base n g R) (hr : Room n X.A) (he : PE X e te) : PI X tg e (iOwn X.K C R te) := by
  refine ⟨fun pins s σ H Z I h => ?_⟩
  refine thn (he.run pins s σ H _ I h) fun v s1 ⟨x, H1, I1, r1, q1⟩ => ?_
  obtain ⟨a, dx, fs, t, rfl, ha, hR, ⟨xs, hxs⟩, q⟩ := q1
  cases r1
  obtain ⟨ox, od, J⟩ := own_at I1 ha
  obtain ⟨m, hF⟩ := I1.fr
  refine PySem.W.owit_iter hF I1.ok.mod.kin J c.at_ c.fn ?_
  refine wpAny_call (codeAny_mono (F X.A X.stack s1 H1 a t hr I1.env0 hR) fun r s' hq => ?_)
  cases r with
  | error e => exact False.elim hq
  | ok fl =>
    cases fl with
    | ret u =>
      obtain ⟨z, H2, os, bare, un, hok, rz, it, rfl, hn, hge, rfl⟩ := id hq
      have I2 : Inv X pins σ (upd H1 it (ItT t it)) s' := I1.call' os un hok bare (fun b z => absurd z (by simp))
      cases rz
      have hget : s'.heap.get? it = some (itTObj t 0) := (I2.hok it _ upd_same).1
      have hT : s'.TypeIs (.ref it) "tuple_iterator" := ⟨_, hget, rfl⟩
      have hi : (upd H1 it (ItT t it)) it = some (.ext fun h => h.get? it = some (itTObj t 0)) := upd_same
      have I3 := ItX.inv_drop I2 hi
      have e3 : ItX.dropH (upd H1 it (ItT t it)) it = H1 := ItX.dropH_upd hn
      have fp := ItX.inv_fp I2 hi (Nat.le_trans I1.sz hge)
      rw [e3] at I3 fp
      unfold PySem.W.OwitIt
      refine wpAny_specialOf (name := Str.ofString "__next__") hT PySem.F.slot_tuple_iterator_next.lookup ?_
      refine ⟨it, [it], _, _, H1, rfl, I3, turn_tuple t it, ⟨_, hget, rfl, rfl⟩, fun b hb => ?_, q⟩
      cases List.mem_singleton.mp hb
      exact fp
    | next => exact False.elim hq
    | brk => exact False.elim hq
    | cont => exact False.elim hq
end
end TK

namespace TK
open PySem PySem.Calls PySem.Spec PyProof.Rows PyProof.V L2
/-! ### two dicts with tuples as keys, equal whatever the order -/
section
variable {prog : Program} {w : World} {K : Type} [DecidableEq K] {knd : HeapKind prog w K} {A : Around} {E : Value → Shared → Prop} {s : Shared}
theorem samePairsH {nm : String} {a b : Addr} {ka kb : List (K × Addr × Value)} {Q : Bool → Shared → Prop} (hu : knd.room A) (ha : (a == sysModules) = false) (hb : (b == sysModules) = false)
    (da : s.heap.DictOfH knd a ka) (db : s.heap.DictOfH knd b kb) (hl : ka.length = kb.length) (hits : ∀ x ∈ ka, ∃ p, atKey kb x.1 = some p ∧ SeqAt.EqAt A s x.2.2 p.2 true) (h : Q true s) :
    wpAny (model prog w) A (Builtin.Dict.samePairs nm a b) Q E s := by
  obtain ⟨oa, es, ep, hoa, _, hda, hea, hia, _⟩ := da
  obtain ⟨ob, es', ep', hob, _, hdb, heb, hib, hnb⟩ := db
  have hla : ka.length = es.size := (size_of_entries hea).symm
  have hlb : kb.length = es'.size := (size_of_entries heb).symm
  have hsz : es.size = es'.size := by omega
  unfold Builtin.Dict.samePairs Builtin.Dict.showsAll
  rw [if_neg (show ¬ (a == sysModules) = true by rw [ha]; exact Bool.false_ne_true), if_neg (show ¬ (b == sysModules) = true by rw [hb]; exact Bool.false_ne_true)]
  refine wpAny_bind (wpAny_pure (wpAny_bind (wpAny_pure ?_)))
  refine wpAny_bind (wpAny_dictEntries hoa hda ?_)
  dsimp only
  refine wpAny_bind (wpAny_dictEntries hob hdb ?_)
  rw [if_neg (by rw [hsz]; simp)]
  refine wpAny_bind (wpAny_dictEpoch hoa hda ?_)
  refine wpAny_bind ?_
  rw [Std.Legacy.Range.forIn_eq_forIn_range']
  simp only [Std.Legacy.Range.size, Nat.sub_zero, Nat.add_sub_cancel, Nat.div_one]
  refine wpAny_forIn_list _
    (fun rest q s' => s' = s ∧ q = (none, ()) ∧ ∃ i, rest = List.range' i (es.size - i) ∧ i ≤ es.size)
    _ ?_ ?_ _ _ ⟨rfl, rfl, 0, by simp, Nat.zero_le _⟩
  · rintro x rest q s' ⟨rfl, rfl, i, hr, hi⟩
    have hlt : i < es.size := by
      rcases Nat.lt_or_ge i es.size with h | h
      · exact h
      · rw [Nat.sub_eq_zero_of_le h] at hr; simp at hr
    obtain ⟨rfl, hrest⟩ : x = i ∧ rest = List.range' (i + 1) (es.size - (i + 1)) := by
      have e : es.size - i = (es.size - (i + 1)) + 1 := by omega
      rw [e, List.range'_succ] at hr
      injection hr with h1 h2
      exact ⟨h1, h2⟩
    refine wpAny_bind (wpAny_dictEntries hoa hda ?_)
    have hlt' : x < ka.length := by rw [hla]; exact hlt
    have hent : es[x]? = some (entryOfKey knd ka[x]) := by rw [entry_at hea x, List.getElem?_eq_getElem hlt']; rfl
    rw [hent]
    obtain ⟨p, hp, heq⟩ := hits ka[x] (List.getElem_mem hlt')
    have hkey := hia ka[x] (List.getElem_mem hlt')
    show wpAny _ _ (holding [(entryOfKey knd ka[x]).key, (entryOfKey knd ka[x]).val] _ >>= _) _ _ _
    refine wpAny_bind (wpAny_holding (wpAny_bind (wpAny_dictFind_heap hu hkey hob hdb heb hib hnb ?_ ?_)))
    · intro hno
      rw [atKey_none_of_get hno] at hp
      exact nomatch hp
    · intro j p' hj
      have ep' : p' = p := Option.some.inj ((atKey_of_get hnb hj).symm.trans hp)
      subst ep'
      refine wpAny_bind (wpAny_dictEntries hob hdb ?_)
      rw [entry_at heb j, hj]
      refine wpAny_holding (heq prog w _ _ ?_)
      show wpAny _ _ (if (!true) = true then _ else _) _ _ _
      rw [if_neg (by decide)]
      refine wpAny_bind (wpAny_dictEpoch hoa hda ?_)
      rw [if_neg (by simp)]
      exact wpAny_pure ⟨rfl, rfl, x + 1, hrest, hlt⟩
  · rintro q s' ⟨rfl, rfl, i, hr, hi⟩
    refine wpAny_pure ?_
    exact h
theorem eqDictH {a b : Addr} {ka kb : List (K × Addr × Value)} {Q : Value → Shared → Prop} (hr : knd.room A.in1) (ha : (a == sysModules) = false) (hb : (b == sysModules) = false)
    (da : s.heap.DictOfH knd a ka) (db : s.heap.DictOfH knd b kb) (hu : A.units < cLine) (hl : ka.length = kb.length) (hits : ∀ x ∈ ka, ∃ p, atKey kb x.1 = some p ∧ SeqAt.EqAt A.in1 s x.2.2 p.2 true) (h : Q (.bool true) s) :
    wpAny (model prog w) A (compareOp .Eq (.ref a) (.ref b)) Q E s := by
  refine wpAny_richCompare_same_room (op := .Eq) da.typeIs db.typeIs PySem.F.slot_dict_eq (wpAny_call_entry PySem.F.slot_dict_eq da.typeIs PySem.F.entry_dict_eq ?_ (PySem.F.args_dict_eq_2 _ _)) hu
  show wpAny _ _ (Builtin.Dict.dictSlotArgs "__eq__" ⟨[.ref a, .ref b], []⟩ >>= _) _ _ s
  refine wpAny_bind ?_
  unfold Builtin.Dict.dictSlotArgs
  refine wpAny_bind (wpAny_notOrdered_dict da.typeIs ?_)
  show wpAny _ _ (pure (Value.ref a, Value.ref b)) _ _ s
  refine wpAny_pure ?_
  refine wpAny_bind (wpAny_isInstance (T := "dict") db.typeIs PySem.F.sub_dict_dict ?_)
  simp only [Bool.not_true, Bool.false_eq_true, if_false]
  refine wpAny_bind (wpAny_pure (wpAny_bind (wpAny_pure ?_)))
  refine wpAny_bind (samePairsH hr ha hb da db hl hits ?_)
  refine wpAny_pure ⟨_, rfl, ?_, ?_⟩
  · exact fun x => nomatch x
  · simpa using h
end
section
variable {X : Cx}
def rEqDT : R2 := fun x y H Q => ∃ a b ks ls, x = .ref a ∧ y = .ref b ∧ H a = some (.dT ks) ∧ H b = some (.dT ls) ∧ ks.length = ls.length ∧ (∀ p ∈ ks, valV ls p.1 = some p.2 ∧ flatB p.2 = true) ∧ Q (.bl true) H
theorem hitsT {H : Hp} {A : Around} {s : Shared} {ls : List (List Key × V)} {xb : List (List Key × Addr × Value)} (rb : KT H ls xb) {ks : List (List Key × V)} {xa : List (List Key × Addr × Value)} (ra : KT H ks xa) :
    (∀ p ∈ ks, valV ls p.1 = some p.2 ∧ flatB p.2 = true) → ∀ x ∈ xa, ∃ p, atKey xb x.1 = some p ∧ SeqAt.EqAt A s x.2.2 p.2 true := by
  unfold KT at ra
  induction ra with
  | nil => intro _ x h; exact absurd h List.not_mem_nil
  | @cons p q ps qs h t ih =>
    intro hp x hx
    rcases List.mem_cons.mp hx with rfl | hx
    · obtain ⟨h1, _, h2⟩ := h
      obtain ⟨e, f⟩ := hp p List.mem_cons_self
      have rr : RelO (some p.2) ((atKey xb p.1).map (·.2)) := by rw [← e]; exact rb.val p.1
      obtain ⟨y, hy, ry⟩ := rr.some_of
      obtain ⟨z, hz, rfl⟩ := Option.map_eq_some_iff.mp hy
      exact ⟨z, by rw [← h1]; exact hz, eqAt_same h2 ry f⟩
    · exact ih (fun p' hm => hp p' (List.mem_cons_of_mem _ hm)) x hx
theorem op_eq_dictT (hu : X.A.units + 1 < cLine) : OpR X (compareOp .Eq) rEqDT := by
  intro pins s σ H x y v u Q I rx ry h
  obtain ⟨a, b, ks, ls, rfl, rfl, ea, eb, hlen, hp, q⟩ := h
  obtain rfl : v = Value.ref a := rx
  obtain rfl : u = Value.ref b := ry
  obtain ⟨_, ya, va, ra, da⟩ := dt_rd I.hok (.inl ea)
  obtain ⟨_, yb, vb, rb, db⟩ := dt_rd I.hok (.inl eb)
  have hl : va.length = vb.length := by rw [← Paired.length ra, ← Paired.length rb]; exact hlen
  exact eqDictH (tupleKind_room_in1 hu) ya yb da db (Nat.lt_of_succ_lt hu) hl (hitsT rb ra hp) (fin_bl I q rfl)
end
end TK

namespace TK
open PySem PySem.Spec PyProof.Rows L2
/-- any loop of a comprehension over whatever walks (for two generators: one time each) -/
theorem walk_go {J : It} {n : Nat} {G : Hp → Prop} {Y : Nat → Hp → V → Hp → Prop} (w : Walk J n G Y) {H0 : Hp} {Qd : Hp → Prop} {body : (Hp → Prop) → V → Hp → Prop} (Pv : Nat → Hp → Prop) (h0 : Pv 0 H0) (hG : ∀ i H, i ≤ n → Pv i H → G H)
    (hs : ∀ i x H H', i < n → Pv i H → Y i H x H' → body (Pv (i + 1)) x H') (hd : ∀ H, Pv n H → Qd H) :
    ∃ W : Nat → Nat → Hp → Prop, (∃ m, W 0 m H0) ∧ ∀ i m H, W i m H →
      (J.stop i H ∧ Qd H) ∨ (J.go i H ∧ ∃ Nx : Hp → Prop, (∀ H', Nx H' → ∃ m', m' < m ∧ W (i + 1) m' H') ∧ ∀ x H', J.yld i H x H' → body Nx x H') := by
  refine ⟨fun i m H => m = n - i ∧ i ≤ n ∧ Pv i H, ⟨n, by simp, Nat.zero_le _, h0⟩, ?_⟩
  rintro i m H ⟨rfl, hi, p⟩
  have q := hG i H hi p
  by_cases hlt : i < n
  · exact .inr ⟨w.goes i H hlt q, Pv (i + 1), fun H' p' => ⟨n - (i + 1), by omega, rfl, hlt, p'⟩, fun x H' y => hs i x H H' hlt p (w.yields i H x H' hlt q y)⟩
  · have e : i = n := by omega
    subst e
    exact .inl ⟨w.stops H q, hd H p⟩
theorem pe_fldK {X : Cx} {K : PySem.W.Frag} {e : Expr} {f : Str} {pos : Pos} {ta : TE} (h : X.K = K) (he : PE X e ta) (hb : attributeBase e f X.env (eval e X.env) = eval e X.env) : PE X (.Attribute e f pos) (tFld K ta f) := h ▸ pe_fld he hb
theorem pi_tupK {X : Cx} {K : PySem.W.Frag} {tg e : Expr} {te : TE} (h : X.K = K) (he : PE X e te) : PI X tg e (iTup K te) := h ▸ pi_tup he
end TK

/-! list(o), o an own object whose __iter__ gives the iterator of a tuple, with a __len__ -/
namespace TK
open PySem PySem.Spec PyProof.Rows L2
theorem sqT_upd {K : PySem.W.Frag} {H : Hp} {t q : Addr} {o : HO} {xs : List V} (h : SqT K H t xs) (hq : H q = none) : SqT K (upd H q o) t xs := by
  rcases h with (h | ⟨o', h⟩) | h
  · exact .inl (.inl (by rw [upd_ne (ne_of_none h hq)]; exact h))
  · exact .inl (.inr ⟨o', by rw [upd_ne (ne_of_none h hq)]; exact h⟩)
  · exact .inr h
theorem big1000 : 1000 < sizeLine := by rw [sizeLine_eq]; decide
section
variable {X : Cx} {C gi gl : Addr} {n : Nat} {fdL : FuncData} {spL : Sp} {CX : CXT} {E : XK} {pins : List (Addr × Obj)} {σ : L2.St} {H : Hp} {s : Shared}
theorem tup_loop {A1 : Around} (hd : A1.in1.handled = none) {t it q : Addr} {xs : List V} {Rs : Result → Shared → Prop} (hq : H q = none) (hT : SqT X.K H t xs) (hx : xs.length ≤ 1000) (iq : it ≠ q)
    (hdone : ∀ s, Inv X pins σ (upd H q (.lst xs)) s → Rs (.ok (.ret .none)) s) (hf : FpOk X pins (upd H q (.lst [])) it) :
    ∀ (k i : Nat) (s : Shared), xs.length - i = k → i ≤ xs.length → Inv X pins σ (upd H q (.lst (xs.take i))) s → s.heap.IsTupleIter it t i → codeAny (model X.prog X.w) A1 (.builtin "list.extend.loop" ⟨[.ref q, .ref it, .none], []⟩) Rs s := by
  intro k
  obtain ⟨f0, f1, f2, f3, f4, f5⟩ := hf
  rw [upd_ne iq] at f0
  induction k with
  | zero =>
    intro i s hk hi I st
    have hin : i = xs.length := by omega
    refine codeAny_builtin PySem.F.entry_extend_loop ?_
    rw [Around.under_plainId PySem.F.plain_extend_loop _]
    show wpAny _ A1.in1 (pyNext (.ref it) >>= _) _ _ s
    obtain ⟨its, rv, p, hz⟩ := I.tuple (sqT_upd (o := .lst (xs.take i)) hT hq)
    have hl := rv.length
    refine wpAny_bind (wpAny_pyNext_tuple_end hd st (show s.heap.IsTuple t its.toArray from p) (by simp; omega) fun h' eb => ?_)
    refine wpAny_pure (hdone _ ?_)
    have := I.turned (t' := s.toks) (fun b o hb e => eb b o hb e) (by rw [upd_ne iq]; exact f0) f1 f3 f4 f5
    rw [hin, List.take_length] at this
    exact this
  | succ k ih =>
    intro i s hk hi I st
    have hlt : i < xs.length := by omega
    refine codeAny_builtin PySem.F.entry_extend_loop ?_
    rw [Around.under_plainId PySem.F.plain_extend_loop _]
    show wpAny _ A1.in1 (pyNext (.ref it) >>= _) _ _ s
    obtain ⟨its, rv, p, hz⟩ := I.tuple (sqT_upd (o := .lst (xs.take i)) hT hq)
    obtain ⟨u, hu, ru⟩ := rv.get (List.getElem?_eq_getElem hlt)
    refine wpAny_bind (wpAny_pyNext_tuple_item st (show s.heap.IsTuple t its.toArray from p) (x := u) (by simpa using hu) fun h' st' sb => ?_)
    have I1 := I.turned (t' := s.toks) (h' := h') (fun b o hb e => (sb.2 b hb).trans e) (by rw [upd_ne iq]; exact f0) f1 f3 f4 f5
    show wpAny _ A1.in1 (updateSeq q (·.push u) >>= _) _ _ _
    obtain ⟨z, its2, k2, r2, hl, e⟩ := I1.lstM upd_same
    have hl2 : its2.length = i := by rw [← hl, List.length_take]; omega
    have hb := big1000
    refine wpAny_bind (wpAny_updateSeq e rfl (wpAny_pure ⟨plainId_quiet PySem.F.plain_extend_loop _, ?_⟩) (by rw [List.size_toArray]; omega) (by show (its2.toArray.push u).size ≤ sizeLine + 1; rw [Array.size_push, List.size_toArray]; omega))
    have I2 := I1.lset (f := (·.push u)) (its' := its2 ++ [u]) (ys := xs.take i ++ [xs[i]]) (t' := s.toks) upd_same e (by simp) (r2.append (.cons ru .nil)) (by rw [List.length_append, List.length_singleton, List.length_take]; omega)
    refine ih (i + 1) _ (by omega) (by omega) ?_ (st'.at fun o e => (Heap.get?_update_other _ _ (Ne.symm iq)).trans e)
    rw [upd_upd, show xs.take i ++ [xs[i]] = xs.take (i + 1) by rw [List.take_add_one, List.getElem?_eq_getElem hlt]; rfl] at I2
    exact I2
theorem len_hint {A1 : Around} {Q : Bool → Shared → Prop} {Er : Value → Shared → Prop} {a dx : Addr} {fs : List (Str × V)} {m : Nat} (c : Own X.K C "__len__" gl) (F : FnOk X.prog X.w X.K X.mg X.base CX n gl fdL ["self"] spL) (hb : Binds X.K fdL ["self"] []) (hx : Passes CX X.nox E)
    (sb : Sub X n A1.in1) (I : Inv X pins σ H s) (ha : H a = some (.ins C dx fs)) (hm : m ≤ 1000) (h : spL [.ref a] H (fun v H' => v = .int m ∧ H' = H) E) (q : ∀ s', Inv X pins σ H s' → ∀ b, Q b s') :
    wpAny (model X.prog X.w) A1 (Builtin.List.listLengthHint (.ref a)) Q Er s := by
  obtain ⟨ox, od, J⟩ := own_at I ha
  obtain ⟨m0, hF⟩ := I.fr
  unfold Builtin.List.listLengthHint
  refine wpAny_bind (wpAny_bind (J.type.here ((PySem.W.looks_findIn I.kIn c.at_).here ?_)))
  refine PySem.W.KFB.if_not rfl ?_
  refine PySem.W.KFB.if_so rfl ?_
  refine wpAny_bind (wpAny_rule ?_)
  have e0 : Env0 X.prog X.w X.K X.mg X.base A1.in1 X.stack s H := by
    have e := I.env0
    exact ⟨by rw [sb.fr]; exact e.frames, e.mod, e.bs, e.bsz, e.funs, e.frf, e.hok, e.bare⟩
  refine wpAny_bind (wpAny_attempt (PySem.W.len_K hF I.ok.mod.kin J c.at_ c.fn (wpAny_mono (run_own (X := X.nox) F sb.room e0 hb hx (I.wish _) (vs := [.ref a]) (.cons rfl .nil) h) (fun w s' z => ?_) fun _ _ x => False.elim x)))
  obtain ⟨z', H', I', rz, rfl, rfl⟩ := z
  obtain ⟨t, rfl⟩ := (show ∃ t, w = Value.int m t from rz)
  refine ⟨⟨by omega, by omega⟩, ?_⟩
  refine wpAny_bind (m := asInt? _) (wpAny_pure ?_)
  have hs := big1000
  refine PySem.W.KFB.if_not (by simp [Builtin.List.listTooLong]; omega) ?_
  exact wpAny_pure (q _ (I'.unwish.tok _) _)
theorem extendT {R : Addr → Addr → Hp → Prop} {Q : VK} {a dx t q : Addr} {fs : List (Str × V)} {ys : List V} (hc : X.calm = true) (ci : Own X.K C "__iter__" gi) (FI : FnIt X.prog X.w X.K X.mg X.base n gi R) (cl : Own X.K C "__len__" gl) (F : FnOk X.prog X.w X.K X.mg X.base CX n gl fdL ["self"] spL) (hb : Binds X.K fdL ["self"] []) (hx : Passes CX X.nox E)
    (hr : Room (n + 3) X.A) (fr : H q = none) (I2 : Inv X pins σ (upd H q (.lst [])) s) (ha : H a = some (.ins C dx fs)) (hT : SqT X.K H t ys) (hy : ys.length ≤ 1000) (hRa : R a t (upd H q (.lst []))) (hsp : spL [.ref a] (upd H q (.lst [])) (fun v H' => v = .int ys.length ∧ H' = upd H q (.lst [])) E) (hQ : Q (V.ref q) (upd H q (.lst ys))) :
    wpAny (model X.prog X.w) X.A.in1.in1 (Builtin.List.listExtendWith (.ref q) (.ref a) .none)
      (fun fin s' => match fin with | .done f => wants (fun r s₂ => r = .none ∧ EP X pins σ Q (.ref q) s₂) X.xe (.ok f) s' | .again c' => c'.quiet = true ∧ codeAny (model X.prog X.w) X.A.in1 c' (wants (fun r s₂ => r = .none ∧ EP X pins σ Q (.ref q) s₂) X.xe) s') (fun e s' => wants (fun r s₂ => r = .none ∧ EP X pins σ Q (.ref q) s₂) X.xe (.error e) s') s := by
  have sb : Sub X n X.A.in1.in1.in1 := (Sub.in1 (Sub.in1 (Sub.in1 (⟨hr, rfl⟩ : Sub X (n + 3) X.A))))
  have sb2 : Sub X (n + 1) X.A.in1.in1 := (Sub.in1 (Sub.in1 (⟨hr, rfl⟩ : Sub X (n + 3) X.A)))
  have ne : q ≠ a := Ne.symm (ne_of_none ha fr)
  have ha2 : upd H q (.lst []) a = some (.ins C dx fs) := by rw [upd_ne (Ne.symm ne)]; exact ha
  obtain ⟨ox, od, J⟩ := own_at I2 ha2
  obtain ⟨m0, hF⟩ := I2.fr
  unfold Builtin.List.listExtendWith
  refine wpAny_bind (J.type.here ?_)
  have h1 : Builtin.List.listSameRef (.ref q) (.ref a) = false := by simp [Builtin.List.listSameRef, ne]
  have h2 : (Value.ref C == Value.type "list") = false := rfl
  have h3 : (Value.ref C == Value.type "tuple") = false := rfl
  simp only [h1, h2, h3, Bool.or_false, Bool.false_eq_true, if_false]
  refine wpAny_bind (PySem.W.owit_iter hF I2.ok.mod.kin J ci.at_ ci.fn ?_)
  have e0 : Env0 X.prog X.w X.K X.mg X.base X.A.in1.in1 X.stack s (upd H q (.lst [])) := by
    have e := I2.env0
    exact ⟨by rw [sb2.fr]; exact e.frames, e.mod, e.bs, e.bsz, e.funs, e.frf, e.hok, e.bare⟩
  refine wpAny_call (codeAny_mono (FI X.A.in1.in1 X.stack s _ a t (sb2.room.mono (by omega)) e0 hRa) fun r s' hq => ?_)
  cases r with
  | error e => exact False.elim hq
  | ok fl =>
    cases fl with
    | next => exact False.elim hq
    | brk => exact False.elim hq
    | cont => exact False.elim hq
    | ret u =>
      obtain ⟨z, H2, os, bare, un, hok, rz, it, rfl, hn, hge, rfl⟩ := id hq
      have I3 : Inv X pins σ (upd (upd H q (.lst [])) it (ItT t it)) s' := I2.call' os un hok bare (fun b z => absurd z (by simp))
      cases rz
      have hget : s'.heap.get? it = some (itTObj t 0) := (I3.hok it _ upd_same).1
      have hTy : s'.TypeIs (.ref it) "tuple_iterator" := ⟨_, hget, rfl⟩
      have hi : (upd (upd H q (.lst [])) it (ItT t it)) it = some (.ext fun h => h.get? it = some (itTObj t 0)) := upd_same
      have I4 := ItX.inv_drop I3 hi
      have e3 : ItX.dropH (upd (upd H q (.lst [])) it (ItT t it)) it = upd H q (.lst []) := ItX.dropH_upd hn
      have fp := ItX.inv_fp I3 hi (Nat.le_trans I2.sz hge)
      rw [e3] at I4 fp
      have iq : it ≠ q := fun e => by rw [e, upd_same] at hn; cases hn
      unfold PySem.W.OwitIt
      refine wpAny_specialOf (name := Str.ofString "__next__") hTy PySem.F.slot_tuple_iterator_next.lookup ?_
      have Ip := I4.pinned (fp := [it]) (fun b hb => by cases List.mem_singleton.mp hb; exact fp) (fun b hb => by cases List.mem_singleton.mp hb; exact ⟨_, hget, fun v e => nomatch e⟩)
      have epin : pinsAt [it] s'.heap = [(it, itTObj t 0)] := by simp [pinsAt, hget]
      rw [epin] at Ip
      refine wpAny_bind (wpAny_holding (len_hint cl F hb hx sb Ip ha2 hy hsp fun s5 I5p bb => ?_))
      have hst : s5.heap.IsTupleIter it t 0 := ⟨_, (I5p.pin (it, itTObj t 0) (by simp)).1, rfl, rfl⟩
      have I5 := I5p.unpinned
      obtain ⟨z5, its5, k5, r5, hl5, e5⟩ := I5.lstM upd_same
      cases r5
      have hdn : X.A.in1.in1.handled = none := I5.ok.hd hc
      have fin : ∀ s' : Shared, Inv X pins σ (upd H q (.lst ys)) s' → wants (fun r s₂ => r = .none ∧ EP X pins σ Q (.ref q) s₂) X.xe (.ok (.ret .none)) s' := fun s' I' => ⟨rfl, .ref q, _, I', rfl, hQ⟩
      refine wpAny_ite_split (fun _ => ?_) (fun _ => wpAny_pure ⟨plainId_quiet PySem.F.plain_extend_loop _, tup_loop (A1 := X.A.in1) hdn fr hT hy iq fin fp ys.length 0 s5 rfl (Nat.zero_le _) I5 hst⟩)
      refine wpAny_bind (wpAny_rule ?_)
      refine wpAny_bind ?_
      show wpAny _ _ (updateSeq q (·.push .none) >>= fun _ => updateSeq q (·.pop)) _ _ _
      refine wpAny_bind (wpAny_updateSeq e5 rfl ?_)
      have I6 := I5.lset (f := (·.push Value.none)) (its' := [Value.none]) (ys := [.non]) (t' := s5.toks) upd_same e5 (by simp) (.cons rfl .nil) (by rw [List.length_singleton, sizeLine_eq]; decide)
      obtain ⟨z4, its4, k4, r4, hl4, e4⟩ := I6.lstM upd_same
      obtain ⟨u4, rfl, ru4⟩ := r4.one
      refine wpAny_updateSeq e4 rfl ?_ (by show 1 ≤ sizeLine; rw [sizeLine_eq]; decide) (by show 0 ≤ sizeLine + 1; exact Nat.zero_le _)
      have I7 := I6.lset (f := (·.pop)) (its := [u4]) (its' := []) (ys := []) (t' := s5.toks) upd_same e4 (by rfl) .nil (Nat.zero_le _)
      rw [upd_upd, upd_upd] at I7
      refine wpAny_pure ⟨plainId_quiet PySem.F.plain_extend_loop _, tup_loop (A1 := X.A.in1) hdn fr hT hy iq fin fp ys.length 0 _ rfl (Nat.zero_le _) I7 ?_⟩
      exact (hst.at fun o e => (Heap.get?_update_other _ _ (Ne.symm iq)).trans e).at fun o e => (Heap.get?_update_other _ _ (Ne.symm iq)).trans e
/-- list(o) -/
def rListOwn (K : PySem.W.Frag) (C : Addr) (R : Addr → Addr → Hp → Prop) (spL : Sp) (E : XK) : List V → Hp → VK → Prop := fun xs H Q => ∃ (a dx : Addr) (fs : List (Str × V)) (t : Addr) (ys : List V), xs = [.ref a] ∧ H a = some (.ins C dx fs) ∧ SqT K H t ys ∧ ys.length ≤ 1000 ∧
  (∀ q, H q = none → R a t (upd H q (.lst [])) ∧ spL [.ref a] (upd H q (.lst [])) (fun v H' => v = .int ys.length ∧ H' = upd H q (.lst [])) E) ∧ ∀ q, H q = none → Q (.ref q) (upd H q (.lst ys))
theorem call_listOwnT {R : Addr → Addr → Hp → Prop} (hc : X.calm = true) (ci : Own X.K C "__iter__" gi) (FI : FnIt X.prog X.w X.K X.mg X.base n gi R) (cl : Own X.K C "__len__" gl) (F : FnOk X.prog X.w X.K X.mg X.base CX n gl fdL ["self"] spL) (hb : Binds X.K fdL ["self"] []) (hx : Passes CX X.nox E)
    (hr : Room (n + 3) X.A) : CallR X (.type "list") (rListOwn X.K C R spL E) := by
  intro pins s σ H xs us Q I rv h
  obtain ⟨a, dx, fs, t, ys, rfl, ha, hT, hy, hR, hQ⟩ := h
  obtain ⟨u, rfl, ru⟩ := rv.one
  cases ru
  refine callType_codes (Q₁ := fun obj s₁ => obj = .ref s.heap.objs.size ∧ s₁ = { s with heap := s.heap.push { cls := .type "list", data := .seq #[] } }) PySem.F.called_list (PySem.F.typeCall_list_1 _) PySem.F.entry_list_init
    (code_list_new _ ⟨rfl, rfl⟩) fun obj s₁ h₁ => ?_
  obtain ⟨rfl, rfl⟩ := h₁
  have hS : (s.heap.push { cls := .type "list", data := .seq #[] }).get? s.heap.objs.size = some { cls := .type "list", data := .seq #[] } := Heap.get?_push_size _ rfl
  refine ⟨⟨_, hS, rfl⟩, PySem.F.args_list_init_2 _ _, ?_⟩
  have fr : H s.heap.objs.size = none := I.hok.fresh (Nat.le_refl _)
  generalize hqe : s.heap.objs.size = q at *
  have I1 : Inv X pins σ (upd H q (.lst [])) { s with heap := s.heap.push { cls := .type "list", data := .seq #[] } } := hqe ▸ I.lnew (its := []) (t' := s.toks) .nil (Nat.zero_le _)
  show wpAny _ _ (do let old ← Builtin.List.listItems (.ref q); Builtin.List.listUpdate (.ref q) (fun _ => #[]); letGo old.toList.reverse; Builtin.List.listExtendWith (.ref q) (.ref a) .none) _ _ _
  refine wpAny_bind ?_
  unfold Builtin.List.listItems
  refine wpAny_bind (wpAny_seqItems hS rfl (wpAny_pure ?_))
  show wpAny _ _ (updateSeq q (fun _ => #[]) >>= fun _ => letGo (#[] : Array Value).toList.reverse >>= fun _ => Builtin.List.listExtendWith (.ref q) (.ref a) .none) _ _ _
  refine wpAny_bind (wpAny_updateSeq hS rfl ?_)
  have I2 := I1.lset (f := fun _ => #[]) (its := []) (its' := []) (ys := []) (t' := s.toks) upd_same hS rfl .nil (Nat.zero_le _)
  rw [upd_upd] at I2
  refine wpAny_bind (wpAny_letGo ?_)
  exact extendT hc ci FI cl F hb hx hr fr I2 ha hT hy (hR q fr).1 (hR q fr).2 (hQ q fr)
end
end TK

/-! an own exception over ValueError whose __init__ says super().__init__(..); self.f = x -/
namespace TK
section
open PySem PySem.W PySem.Calls PySem.Spec PyProof.Rows
variable {prog : Program} {w : World} {A : Around} {E : Value → Shared → Prop} {h : Heap} {g : Array GenState} {d : Drawn} {t : Nat} {os : OsState}
variable {nm q : Str} {C N : Addr} {bs bm : List Value} {hdct : Bool} {sn : List Str} {sub : List Value} {ab : Bool} {col : Option Bool} {dd : Option Addr} {k0 k1 k2 k3 k5 : Option Value}
/-- the bound __init__ called -/
theorem call_mw {u e t0 : Addr} {rest : List Value} {Q : Value → Shared → Prop}
    (hC : h.get? C = some (excClassObj nm q C N bs bm hdct sn sub ab col dd k0 k1 k2 k3 k5 "ValueError.__new__")) (he : h.get? e = some (HandSPX.excO C t0)) (hu : h.get? u = some (kxs_mw "ValueError.__init__" e)) (hrest : rest.length ≤ sizeLine)
    (hq : ∀ h' t1, (∀ b o, b ≠ e → h.get? b = some o → h'.get? b = some o) → h'.get? e = some (HandSPX.excO C t1) → Q .none ⟨h', g, d, t, os⟩) :
    wpAny (model prog w) A (call (.ref u) rest) Q E ⟨h, g, d, t, os⟩ := by
  refine wpAny_call (codeAny_of_tree ?_)
  show wpAny _ A.in1 (callAny (.ref u) ⟨rest, []⟩) _ _ _
  simp only [callAny]
  refine wpAny_bind (wpAny_load hu ?_)
  simp only [kxs_mw, show (Value.type "method-wrapper" == Value.type "method" || Value.type "method-wrapper" == Value.type "builtin_function_or_method" || Value.type "method-wrapper" == Value.type "method-wrapper") = true by decide, if_true]
  refine PySem.W.KFB.if_so (by decide) ?_
  refine wpAny_bind (ESX.check_bound F.excBase_ValueError hC he rfl ?_)
  refine wpAny_bind (wpAny_pure (wpAny_pure ?_))
  refine ⟨Code.quiet_builtin _ (by decide +kernel), codeAny_builtin F.excBase_ValueError.initEntry ?_⟩
  rw [Around.under_plainId F.excBase_ValueError.init.plain _]
  wp_walk
  refine hq _ h.objs.size (fun b o hb ho => ?_) ?_
  · rw [Heap.get?_update_other _ _ (Ne.symm hb)]
    exact Heap.get?_push_of_some _ ho
  · rw [Heap.get?_update_self _ (Heap.get?_push_of_some _ he) rfl]
    rfl
end
open PySem PySem.Spec PyProof.Rows L2 NdefX
open PySem.W (ks_superIn kxs_mw kxs_getMethod kxs_ValueError kxs_callWith)
def supBody (p0 p1 p2 p3 p4 p5 p6 p7 p8 : Pos) (msg : Expr) (arg fld : Str) : List Stmt :=
  [.Expr (.Call (.Attribute (.Call (.Name "super" p0) [] [] p1) "__init__" p2) [msg] [] p3) p4, .Assign [.Attribute (.Name "self" p5) fld p6] (.Name arg p7) p8]
/-- X.__init__(self, y): the exception at a gets its dict with the one field -/
def spSup (C : Addr) (fld : Str) (okv : V → Prop) : Sp := fun vs H Q _ => ∃ (a : Addr) (y : V), vs = [.ref a, y] ∧ okv y ∧ H a = some (exo a C none) ∧ ∀ dx, H dx = none → dx ≠ a → Q .non (upd (upd H dx (exd dx [(fld, y)])) a (exo a C (some dx)))
theorem fn_sup {CX : CXT} {P : Program} {w : World} {K : PySem.W.Frag} {mg : Str → Option Value} {base : Heap} {k : Nat} {f C cc cda : Addr} {qual arg fld file : Str} {params : Arguments} {scope : Scope} {msg : Expr} {p0 p1 p2 p3 p4 p5 p6 p7 p8 : Pos}
    {oc ccl cl dV kV doc pm ct : Value} {an od cdd cld : Option Addr} {osl ccs csl : Array (Option Value)} {vs0 : Array Value} {tf : Tok} {okv : V → Prop} {te : TE} {ar : Arg}
    (lk : K.lookup f = some ⟨oc, od, .func (PySem.W.fnX "__init__" qual params (supBody p0 p1 p2 p3 p4 p5 p6 p7 p8 msg arg fld) scope [("__class__", cc)] dV kV doc pm an (.ref cda) ct), osl⟩) (hcd : PySem.W.codeIn K (.ref cda) qual = true)
    (hcode : K.lookup cda = some ⟨ccl, cdd, .fields vs0, ccs⟩) (hvs : vs0[2]? = some (.str file tf)) (hfile : ((P.main.file : Str) == file) = true)
    (hcell : K.lookup cc = some ⟨cl, cld, .cell (some (.ref C)), csl⟩)
    (S : NScope ["self", arg, "__class__"] ["self", arg] ["__class__"] scope) (hks : scope.names.lookup ("super" : Str) = some .globalImplicit)
    (hpar : (params.posonlyargs ++ params.args).head? = some ar) (har : ar.arg = "self")
    (htop : (P.main.scope.names.lookup ("super" : Str)).isSome = false) (hsup : mg "super" = none)
    (T : OexC K C) (hmr : PySem.W.mroIn K C (.ref C) = some true) (hst : PySem.W.nsIn K cStatics "thirdparty.any" = some none) (hal : ks_superIn K C C "__init__" = some (some (.builtin "ValueError.__init__")))
    (hVE : PySem.W.subIn K (.ref C) (.type "ValueError") = some true) (hno : PySem.W.findIn K (.ref C) fld = some none)
    (hpa : ∀ (A : Around) (outer : List Env) (s : Shared) (H : Hp) (E : XK), PA (ncx CX P w K mg base ["self", arg, "__class__"] ⟨"__init__", qual, params, supBody p0 p1 p2 p3 p4 p5 p6 p7 p8 msg arg fld, scope, [("__class__", cc)], cda⟩ f A outer s H E) [msg] (tCons te tNil))
    (hpl : ∀ env : Env, starEach [msg] env = [(false, eval msg env)])
    (hte : ∀ (a : Addr) (y : V) (H : Hp) (Q : VK), okv y → (∀ z, Q z H) → te [some (.ref a), some y, some (.ref C)] H Q)
    (hdb : (arg == ("__debug__" : Str)) = false) (hdc : (arg == ("__classdict__" : Str)) = false) {pl : Env → Sem Bool} (hev : ∀ env : Env, eval (.Call (.Attribute (.Call (.Name "super" p0) [] [] p1) "__init__" p2) [msg] [] p3) env = (do
      let ov ← attributeBase (.Call (.Name "super" p0) [] [] p1) "__init__" env (eval (.Call (.Name "super" p0) [] [] p1) env)
      standAt p2.atName
      let (f, first) ← holding [ov] (getMethod ov "__init__" (pl env))
      callWith p3 f first (backTo p3 (starEach [msg] env)) [])) :
    FnOk P w K mg base CX (k + 1) f (PySem.W.fnX "__init__" qual params (supBody p0 p1 p2 p3 p4 p5 p6 p7 p8 msg arg fld) scope [("__class__", cc)] dV kV doc pm an (.ref cda) ct) ["self", arg] (spSup C fld okv) := by
  have len : ∀ vs H Q E, spSup C fld okv vs H Q E → vs.length = (["self", arg] : List Str).length := fun vs H Q E h => by
    obtain ⟨a, y, rfl, _⟩ := h
    rfl
  refine ⟨len, fun A outer s H args us vs Q E hr e0 hb r hsp => ?_⟩
  have hl := len _ _ _ _ hsp
  obtain ⟨a, y, rfl, oky, ea, q⟩ := hsp
  obtain ⟨hp0, g0, d0, tk0, os0⟩ := s
  have KX : K.In hp0 := e0.mod.kin.keeps fun b o e => (e0.bs b o e).1
  have lim : hp0.NoLimit := e0.mod.nolimit.keeps fun b o e => (e0.bs b o e).1
  have one : ∀ (y : Str) (c : Addr), ([(("__class__" : Str), cc)] : List (Str × Addr)).lookup y = some c → y = ("__class__" : Str) ∧ c = cc := fun y c e => by
    simp only [List.lookup] at e
    split at e
    · rename_i h
      exact ⟨eq_of_beq h, (Option.some.inj e).symm⟩
    · cases e
  have cls : CellsAt [(("__class__" : Str), cc)] ["__class__"] [some (.ref C)] hp0 H := by
    refine ⟨rfl, fun y c e => ?_, fun x y c e1 e2 => (one _ _ e1).1.trans (one _ _ e2).1.symm, fun i y hy => ?_⟩
    · obtain ⟨_, rfl⟩ := one _ _ e
      exact ⟨(e0.bs _ _ (e0.mod.kin _ _ hcell)).2, _, _, KX _ _ hcell, rfl⟩
    · match i, hy with
      | 0, hy =>
        cases Option.some.inj hy
        refine ⟨cc, by simp [List.lookup], fun v ev => ?_⟩
        cases Option.some.inj (Option.some.inj ev)
        exact ⟨.ref C, rfl, _, KX _ _ hcell, rfl⟩
      | i + 1, hy => simp at hy
  refine PySem.ks_codeAny_call_defAt (body := supBody p0 p1 p2 p3 p4 p5 p6 p7 p8 msg arg fld) (binds := (["self", arg] : List Str).zip us) hr.depth (KX _ _ lk) rfl lim (PySem.W.codeRec_of KX hcd) rfl hb S.nocell (fun ⟨n, v⟩ hy => S.par n (List.of_mem_zip hy).1) (fun h₁ hns kp => ?_) S.co S.gen S.kind
  let F : NF := ⟨"__init__", qual, params, supBody p0 p1 p2 p3 p4 p5 p6 p7 p8 msg arg fld, scope, [("__class__", cc)], cda⟩
  let X : Cx := ncx CX P w K mg base ["self", arg, "__class__"] F f A outer ⟨hp0, g0, d0, tk0, os0⟩ H E
  have I : Inv X [] (startF ["self", arg, "__class__"] [V.ref a, y] [some (.ref C)]) H ⟨h₁, g0, d0, tk0 + ((["self", arg] : List Str).zip us).length, os0⟩ :=
    inv_startN (CX := CX) (E := E) (N := ["self", arg, "__class__"]) (F := F) (f := f) (ws := [some (.ref C)]) S hr.hd e0 hl r cls hns kp
  have eσ : startF ["self", arg, "__class__"] [V.ref a, y] [some (.ref C)] = [some (.ref a), some y, some (.ref C)] := rfl
  rw [eσ] at I
  have pa : PA X [msg] (tCons te tNil) := hpa A outer ⟨hp0, g0, d0, tk0, os0⟩ H E
  generalize tk0 + ((["self", arg] : List Str).zip us).length = tk1 at I ⊢
  have KX1 : K.In h₁ := I.kIn
  obtain ⟨nm, q1, N, bs, bm, sn, sub, ab, col, dd, k0, k1, k2, k3, k5, hC, hbm⟩ := id T.cls
  obtain ⟨t1, hx⟩ := exo_at I.hok ea
  obtain ⟨mb, hb1, hb2⟩ := I.mod.blt
  have hself : scope.names.lookup ar.arg = some .local := by rw [har]; exact S.par "self" (by simp)
  obtain ⟨u, rfl⟩ : ∃ u, us = [Value.ref a, u] := by
    cases r with
    | @cons _ u0 _ ur ra rw' =>
      obtain rfl : u0 = Value.ref a := ra
      cases rw' with
      | cons rb rc => cases rc; exact ⟨_, rfl⟩
  have vself : (((["self", arg] : List Str).zip [Value.ref a, u]).reverse.lookup ar.arg) = some (.ref a) := by
    rw [har]
    have nd : (["self", arg] : List Str).Nodup := by
      have q := S.nd
      simp only [List.nodup_cons, List.mem_cons, not_or] at q ⊢
      exact ⟨⟨q.1.1, by simp⟩, by simp, by simp⟩
    exact zip_look (i := 0) nd rfl rfl
  show _root_.PySem.wpAt (model P w) X.A (.func (supBody p0 p1 p2 p3 p4 p5 p6 p7 p8 msg arg fld) X.env) (execs (supBody p0 p1 p2 p3 p4 p5 p6 p7 p8 msg arg fld) X.env) _ X.xe _
  refine PySem.ks_wpAt_execs_cons (PySem.ks_wpAt_Expr_any (PySem.ks_wpAt_MethodCall (PySem.ks_wpAt_super_base (env := X.env) (ar := ar) (f := f) hks (S.frk _ (by simp)) (by decide) rfl (KX1 _ _ lk) rfl hpar rfl (KX1 _ _ hcode) rfl hvs hfile htop ?_) (hev X.env)) I.quiet)
  refine PySem.W.ks_loadName_global S.kind hks (Calls.loadGlobal_builtin (mg := mg) (I.mod.glob.keeps I.bk) hsup (hb1.keeps I.bk) ((hb2 "super" (by decide)).trans (by decide +kernel : bootBuiltins "super" = some (.type "super"))) ⟨rfl, ?_⟩)
  refine wpAny_loadName_free S.kind (S.frk "__class__" (by simp)) (c := cc) rfl ⟨_, KX1 _ _ hcell, rfl⟩ ?_
  refine wpAny_loadName_local S.kind hself hns vself ?_
  have hCd := KX1 _ _ hC
  refine PySem.ks_wpAny_isType_cls hCd rfl ⟨rfl, ?_⟩
  refine PySem.ks_wpAny_call_super hCd rfl hx rfl (fun c e => by cases e) (PySem.W.looks_mroIn KX1 hmr) (fun h2 e2 kp2 => ?_)
  have I2 : Inv X [] [some (.ref a), some y, some (.ref C)] H ⟨h2, g0, d0, tk1, os0⟩ := I.kept (t' := tk1) kp2
  have KX2 : K.In h2 := I2.kIn
  have hx2 := kp2 _ _ hx
  have IA : PySem.W.InstAt h2 a _ C none := ⟨hx2, rfl, rfl, trivial⟩
  -- the bound __init__
  cases hcc : PySem.W.clsIn K C with
  | none => unfold ks_superIn at hal; rw [hcc] at hal; cases hal
  | some cd =>
    unfold ks_superIn at hal
    rw [hcc] at hal
    refine kxs_getMethod kxs_ValueError e2 (PySem.W.looks_opaque KX2 hst) (l₀ := cd.mro) (fun A Q E s k q => wpAny_bind ((PySem.W.looks_clsIn KX2 hcc) A _ E s k (wpAny_pure q))) rfl KX2 hal (IA.type.andThen (PySem.W.looks_subIn KX2 hVE)) (PySem.W.ks_ne KX2 IA hcc) (by decide) ?_
    have kp3 : ∀ b o, h2.get? b = some o → (h2.push (kxs_mw "ValueError.__init__" a)).get? b = some o := fun b o e => Heap.get?_push_of_some _ e
    have hu3 : (h2.push (kxs_mw "ValueError.__init__" a)).get? h2.objs.size = some (kxs_mw "ValueError.__init__" a) := Heap.get?_push_at rfl rfl
    have I3 : Inv X [] [some (.ref a), some y, some (.ref C)] H ⟨h2.push (kxs_mw "ValueError.__init__" a), g0, d0, tk1 + 1, os0⟩ := I2.kept (t' := tk1 + 1) kp3
    have I4 : Inv X [(h2.objs.size, kxs_mw "ValueError.__init__" a)] [some (.ref a), some y, some (.ref C)] H ⟨h2.push (kxs_mw "ValueError.__init__" a), g0, d0, tk1 + 1, os0⟩ := I3.pins_of fun p hp => by
      rw [List.mem_singleton.mp hp]
      exact ⟨hu3, I2.hok.fresh (Nat.le_refl _), Nat.ne_of_gt I2.lt, I2.nofs (Nat.le_refl _), fun v z => by cases z⟩
    show wpAny _ _ (callWith p3 (.ref h2.objs.size) [] (backTo p3 (starEach [msg] X.env)) []) _ _ _
    have ra := pa.run p3 _ _ _ H (fun vs H1 => ∃ z, vs = [z] ∧ H1 = H) I4 (hte a y H _ oky fun z => ⟨z, rfl, rfl⟩)
    rw [hpl] at ra ⊢
    refine kxs_callWith (i := "ValueError.__init__") (x := a) rfl (Calls.evalArgs_plain (thn ra fun us4 s4 hh => ?_))
    obtain ⟨vs4, H4, I5, r5, z, ev, eH⟩ := hh
    subst ev
    subst eH
    obtain ⟨h4, g4, d4, tk4, os4⟩ := s4
    have pin4 := I5.pin (h2.objs.size, kxs_mw "ValueError.__init__" a) (List.mem_append_right _ List.mem_cons_self)
    obtain ⟨t4, hx4⟩ := exo_at I5.hok ea
    refine ⟨pin4.1, call_mw (I5.kIn _ _ hC) hx4 pin4.1 (by show us4.length ≤ sizeLine; rw [← r5.length]; exact (show (1 : Nat) ≤ sizeLine by decide)) fun h5 t5 k5' hx5 => ?_⟩
    have J := I5.write (t' := tk4) (x := a) (e := a) (o := exo a C none) (by rw [ea]; exact True.intro) (.inl rfl) k5' ⟨_, hx5⟩ (exo_ok hx5)
    have eu : upd H4 a (exo a C none) = H4 := by
      funext b
      by_cases hb : b = a
      · rw [hb, upd_same, ea]
      · rw [upd_ne hb]
    rw [eu] at J
    -- self.f = y
    have hst2 : PSs X [.Assign [.Attribute (.Name "self" p5) fld p6] (.Name arg p7) p8] _ := pss_one (ps_ost (f := fld) (pe_var (i := 0) rfl (.inl (S.par "self" (by simp))) (by decide) (by decide)) (pe_var (i := 1) rfl (.inl (S.par arg (by simp))) hdb hdc))
    refine wpAt_of_wpAny (wpAny_mono (hst2.run _ _ _ _ { nx := fun _ H' => Q .non H', rt := Q } J ?_) (fun fl s' hs => ?_) fun e s' hs => hs)
    · exact ⟨_, rfl, _, rfl, a, C, rfl, T, hno, .inl ⟨ea, fun dx hdx n => q dx hdx n⟩⟩
    · have fin : ∀ {σ' : L2.St} {H' : Hp} {v : V} {u : Value}, Inv X [(h2.objs.size, kxs_mw "ValueError.__init__" a)] σ' H' s' → RelV v u → Q v H' → CE outer P w H4 ⟨hp0, g0, d0, tk0, os0⟩ Q u s' :=
        fun {σ' H' v u} J rv q => ⟨v, H', J.os, J.bare, J.base, J.hok, rv, q⟩
      cases fl with
      | ret u =>
        obtain ⟨v, σ', H', J, rv, q⟩ := hs
        exact fin J rv q
      | next =>
        obtain ⟨σ', H', J, q⟩ := hs
        exact fin (v := V.non) (u := Value.none) J rfl q
      | brk =>
        obtain ⟨_, _, _, q⟩ := hs
        exact False.elim q
      | cont =>
        obtain ⟨_, _, _, q⟩ := hs
        exact False.elim q
end TK

/-! raise X(e), X an own exception whose __init__ says super().__init__(..); self.f = e -/
namespace TK
open PySem PySem.Spec PyProof.Rows L2 NdefX
/-- what is told of X, at C, its __init__ at fI -/
structure SupT (P : Program) (w : World) (K : PySem.W.Frag) (mg : Str → Option Value) (base : Heap) (x arg fld : Str) (okv : V → Prop) (C fI : Addr) (fd : FuncData) : Prop where
  gC : mg x = some (.ref C)
  T : OexC K C
  iC : PySem.W.findIn K (.ref C) "__init__" = some (some (.ref fI))
  tI : PySem.W.typeIn K (.ref fI) = some (.type "function")
  F : FnOk P w K mg base CX0 1 fI fd ["self", arg] (spSup C fld okv)
  b : Binds K fd ["self", arg] []
  xf : XfC K C
  noN : PySem.W.findIn K (.ref C) fld = some none
  te : PySem.W.exmOne K (.ref C) (.ref C) = some true
/-- what the making asks -/
theorem sup_read {C : Addr} {fld : Str} {okv : V → Prop} {v : V} {H1 : Hp} {Q : XK} (ok : okv v) (q : ∀ d, H1 d = none → Q (.ref C) (some d) (upd H1 d (.xd [(fld, v)]))) :
    ([v] : List V).length ≤ 1000 ∧ ∀ a, H1 a = none → spSup C fld okv (.ref a :: ([v] ++ [])) (upd H1 a (exo a C none))
      (fun v H2 => v = .non ∧ ∃ (d : Addr) (fs : List (Str × V)), H2 a = some (exo a C (some d)) ∧ H2 d = some (exd d fs) ∧ H1 d = none ∧ Q (.ref C) (some d) (upd (del H2 a) d (.xd fs))) (fun _ _ _ => False) := by
  refine ⟨(show (1 : Nat) ≤ 1000 by decide), fun a na => ⟨a, v, rfl, ok, upd_same, fun dx hdx ne => ⟨rfl, dx, [(fld, v)], upd_same, ?_, ?_, ?_⟩⟩⟩
  · rw [upd_ne ne]; exact upd_same
  · rw [upd_ne ne] at hdx; exact hdx
  · rw [upd_ne ne] at hdx
    have e : upd (del (upd (upd (upd H1 a (exo a C none)) dx (exd dx [(fld, v)])) a (exo a C (some dx))) a) dx (.xd [(fld, v)]) = upd H1 dx (.xd [(fld, v)]) := by
      funext b
      by_cases h1 : b = dx
      · rw [h1, upd_same, upd_same]
      · rw [upd_ne h1, upd_ne h1]
        by_cases h2 : b = a
        · rw [h2, del_same, na]
        · rw [del_ne h2, upd_ne h2, upd_ne h1, upd_ne h2]
    rw [e]
    exact q dx hdx
section
variable {X : Cx} {W : WX} {x arg fld : Str} {okv : V → Prop} {C fI : Addr} {fd : FuncData} {e : Expr} {ta : TA} {p pos pos2 : Pos}
theorem ps_raiseSup (hc : X.calm = true) (T : SupT X.prog X.w X.K X.mg X.base x arg fld okv C fI fd) (hr : Room 2 X.A) (tk : Takes X W) (ha : PA X [e] ta) (hg : Gl X x)
    (hdb : (x == ("__debug__" : Str)) = false := by decide) (he : starEach (e :: []) X.env = (false, eval e X.env) :: starEach [] X.env := by rfl) (hpl : (backTo pos (starEach [] X.env)).any (·.1) = false := by rfl) :
    PS X (.Raise (some (.Call (.Name x p) [e] [] pos)) none pos2) (fun _ σ H => tMkO C (spSup C fld okv) [] ta σ H fun cls d H' => W cls d σ H') :=
  ps_raise hc tk (pmk_oex (dvs := []) T.T T.iC T.tI T.F hr T.b .nil (fun _ _ _ _ _ _ _ h => h.elim) hg T.gC ha hdb he hpl)
end
end TK

/-! X(), X an own exception without an __init__ -/
namespace TK
open PySem PySem.Spec PyProof.Rows L2
theorem pmk_own0 {X : Cx} {C : Addr} {bmB : List Value} {B newId initId : String} {x : Str} {p pos : Pos} (F : ExcBaseFacts B newId initId bmB) (q : PySem.W.excIn X.K C bmB newId = true) (gC : X.mg x = some (.ref C)) (kC : PySem.W.keepIn X.K (.ref C) = true) (r : Raises X (.ref C)) (hg : Gl X x)
    (hdb : (x == ("__debug__" : Str)) = false := by decide) : PMk X (.Call (.Name x p) [] [] pos) (fun _ H Q => Q (.ref C) none H) := by
  intro pins s σ H Q I h
  refine wpAny_Call_Name_kw (ld_glob I hg gC ?_ hdb)
  refine PySem.W.callWith_K0 I.kIn kC ?_
  show wpAny _ _ (call (.ref C) []) _ _ _
  obtain ⟨bm, N, nm, qn, bs, hdct, sn, sub, ab, col, dd, k0, k1, k2, k3, k5, mN, hC, hN, hni, T⟩ := exc_obj I.kIn q
  refine wpAny_call_exc_subT F T hC hN hni (fun h' e hm => ?_) (by show 0 ≤ sizeLine; exact Nat.zero_le _)
  exact mk_of I hm r h (I.hok.gone hm.new)
end TK

/-! isinstance of a caught exception that has its dict -/
namespace TK
section
open PySem PySem.W PySem.Spec PySem.Calls PyProof.Rows
variable {prog : Program} {w : World} {A : Around} {E : Value → Shared → Prop} {s : Shared} {K : Frag} {x D : Addr} {ox : Obj}
theorem findObj_dataO {C : Addr} {odc : Option Obj} {name : Str} {a g : Value} (hc : (clsIn K C).isSome = true) (ha : findIn K (.ref C) name = some (some a)) (hg : specialIn K a "__get__" = some (some g)) (ht : takesIn K a = some true) : findObj K C odc name = some (.bind g a) := by
  obtain ⟨cd, hc⟩ := Option.isSome_iff_exists.mp hc
  unfold findObj
  rw [hc, Option.bind_some, ha, Option.bind_some]
  simp [hg, ht]
theorem kin_classEo {Q : Option Value → Shared → Prop} (hga : findIn K (.ref D) "__getattribute__" = some (some (.builtin "BaseException.__getattribute__"))) (hgt : findIn K (.ref D) "__getattr__" = some none) (hsub : subIn K (.ref D) (.type "BaseException") = some true)
    (hdct : hasDictIn K D = true) (ha : findIn K (.ref D) "__class__" = some (some (.builtin "object.__class__")))
    (hn : specialIn K (.builtin "object.__class__") "__get__" = some (some (.builtin "getset_descriptor.__get__"))) (htk : takesIn K (.builtin "object.__class__") = some true) (hm : mroIn K D (.type "object") = some true)
    {odc : Option Obj} (X : K.In s.heap) (I : InstAt s.heap x ox D odc) (h : Q (some (.ref D)) { s with toks := s.toks + 1 }) : wpAny (model prog w) A (getAttr? (.ref x) "__class__") Q E s := by
  have hf : findObj K D odc "__class__" = some (.bind (.builtin "getset_descriptor.__get__") (.builtin "object.__class__")) := findObj_dataO (by obtain ⟨cd, hc, _⟩ := any_some hdct; rw [hc]; rfl) ha hn htk
  obtain ⟨hp, g, d, t, os⟩ := s
  have L0 := I.type (M := model prog w)
  have L1 := looks_findIn (M := model prog w) X hga
  have L2 := looks_findIn (M := model prog w) X hgt
  have L3 := looks_find (M := model prog w) X I hf
  have sub : Looks (model prog w) hp (isInstance (.ref x) (.type "BaseException")) true := L0.andThen (looks_subIn X hsub)
  have hx0 : (false && onTheHeap (Value.builtin "BaseException.__getattribute__")) = false := rfl
  have hx2 : (Value.builtin "BaseException.__getattribute__" == Value.builtin "object.__getattribute__") = false := by decide +kernel
  have hx1 : (onTheHeap (Value.ref D) && Value.builtin "BaseException.__getattribute__" == Value.builtin "object.__getattribute__") = false := by rw [hx2]; rfl
  unfold getAttr? getAttrBy? getAttrBy
  refine wpAny_bind (wpAny_mkText (wpAny_bind (wpAny_attempt (wpAny_holding (wpAny_bind (L0.at (wpAny_bind (L1.at ?_))))))))
  show wpAny _ _ (if (onTheHeap (Value.ref D) && Value.builtin "BaseException.__getattribute__" == Value.builtin "object.__getattribute__") = true then _ else _) _ _ _
  rw [hx1, if_neg Bool.false_ne_true]
  unfold getAttrByItsOwn hookBefore
  refine wpAny_bind ?_
  rw [if_pos (show onTheHeap (Value.ref D) = true from rfl)]
  refine L2.at ?_
  refine wpAny_bind (wpAny_attempt (wpAny_holding ?_))
  unfold callGetattribute
  rw [hx0, if_neg Bool.false_ne_true]
  unfold boundAndCalled
  rw [PySem.F.excAttr_ValueError.ga.bind (.ref x)]
  refine wpAny_bind (wpAny_pure ?_)
  show wpAny _ _ (call (.builtin "BaseException.__getattribute__") [.ref x, .str "__class__" t]) _ _ _
  refine wpAny_call (codeAny_call_builtin PySem.F.excAttr_ValueError.ga.plain PySem.F.entry_bexc_ga ?_)
  refine @check_slot (model prog w) _ _ ⟨hp, g, d, t + 1, os⟩ "BaseException.__getattribute__" "BaseException" "__getattribute__" (.ref x) [.str "__class__" t] [] _ (by decide +kernel) (by decide +kernel) sub (PySem.F.args_bexc_ga (.ref x) (.str "__class__" t)) ?_
  unfold Builtin.«object.__getattribute__»
  refine wpAny_bind (wpAny_of_eq (a := ((Value.ref x : Value), [Value.str "__class__" t])) (by first | rfl | (simp only [slotArgs]; rfl)) ?_)
  refine wpAny_bind (wpAny_pure (wpAny_bind (L0.at (wpAny_bind (L3.at ?_)))))
  show wpAny _ _ (holding [Value.builtin "object.__class__"] (call (.builtin "getset_descriptor.__get__") [.builtin "object.__class__", .ref x, .ref D]) >>= ret) _ _ _
  refine wpAny_bind (wpAny_holding (wpAny_call (class_get (s := ⟨hp, g, d, t + 1, os⟩) (ox := ox) (od := odc) X I hm ?_)))
  refine wpAny_pure ?_
  show wpAny _ _ (handedOut (.ref D)) _ _ _
  rw [handedOut_of (v := .ref D) rfl]
  first
    | exact wpAny_pure (wpAny_pure h)
    | exact wpAny_pure h
    | exact wpAny_pure (wpAny_bind (wpAny_pure (wpAny_pure h)))
theorem kitx_exco (hga : findIn K (.ref D) "__getattribute__" = some (some (.builtin "BaseException.__getattribute__"))) (hgt : findIn K (.ref D) "__getattr__" = some none) (hsub : subIn K (.ref D) (.type "BaseException") = some true) (hdct : hasDictIn K D = true) (ha : findIn K (.ref D) "__class__" = some (some (.builtin "object.__class__")))
    (hn : specialIn K (.builtin "object.__class__") "__get__" = some (some (.builtin "getset_descriptor.__get__"))) (htk : takesIn K (.builtin "object.__class__") = some true) (hm : mroIn K D (.type "object") = some true) {odc : Option Obj} :
    KitX K (.ref x) (.ref D) (fun h => InstAt h x ox D odc) where
  ty := fun _ _ _ I => I.type
  it := fun _ _ X _ => by
    obtain ⟨cdD, hcD, _⟩ := any_some hdct
    unfold clsIn at hcD
    split at hcD
    · rename_i c' d' cd' sl' ho
      intro A' Q' E' s' k q
      unfold isType loadHead
      exact wpAny_bind (wpAny_loadPart (k _ _ (X _ _ ho)) (wpAny_pure q))
    · cases hcD
  ne := fun h tp dd its n sl X htp => by
    obtain ⟨cdD, hcD, _⟩ := any_some hdct
    refine Bool.eq_false_iff.mpr fun q => ?_
    have e : D = tp := Value.ref.inj (beq_iff_eq.mp q)
    subst e
    unfold clsIn at hcD
    split at hcD
    · rename_i c' d' cd' sl' ho
      have z := (X _ _ ho).symm.trans htp
      cases z
    · cases hcD
  ca := fun X I k => kin_classEo hga hgt hsub hdct ha hn htk hm X I k
end
end TK

namespace TK
open PySem PySem.Spec PyProof.Rows L2
/-- the caught exception as it stands: its dict none, or told -/
def DctAt (d : Option Addr) (H : Hp) : Prop := d = none ∨ ∃ (dd : Addr) (fs : List (Str × V)), d = some dd ∧ H dd = some (.xd fs)
theorem inst_suite {X : Cx} {a D : Addr} {oe : Obj} {cls : Value} {d : Option Addr} {pn pins : List (Addr × Obj)} {σ : L2.St} {H : Hp} {s : Shared} (hz : Zc cls d oe) (hf : ∃ vs, oe.data = .fields vs) (I : Inv (X.suite a ((a, oe) :: pn)) pins σ H s) (ec : cls = .ref D) (hd : DctAt d H) :
    ∃ od, PySem.W.InstAt s.heap a oe D od := by
  obtain ⟨hget, _⟩ := I.pin (a, oe) (List.mem_append.mpr (.inl List.mem_cons_self))
  obtain ⟨vs, hv⟩ := hf
  subst ec
  rcases hd with rfl | ⟨dd, fs, rfl, e⟩
  · exact ⟨none, hget, hz.1, by unfold PySem.W.notCls; rw [hv] <;> rfl, by rw [hz.2]; exact True.intro⟩
  · have hx : ObjOk X.prog X.w H s.heap dd (.xd fs) := I.hok dd _ e
    obtain ⟨mA, hns, hr⟩ := hx
    obtain ⟨od, ho, hl⟩ := lookIn_ns hns
    exact ⟨some od, hget, hz.1, by unfold PySem.W.notCls; rw [hv] <;> rfl, by rw [hz.2]; exact ho⟩
/-- isinstance(e, c) -/
def rIsX (K : PySem.W.Frag) (D a : Addr) (cls : Value) (d : Option Addr) : List V → Hp → VK → Prop := fun xs H Q => ∃ (c : V) (cv : Value) (b : Bool), xs = [.ref a, c] ∧ cls = .ref D ∧ DctAt d H ∧ (∀ u, RelV c u → u = cv) ∧ PySem.W.kitOne K (.ref D) cv = some b ∧ Q (.bl b) H
theorem call_isX {X : Cx} {a D : Addr} {oe : Obj} {cls : Value} {d : Option Addr} {pn : List (Addr × Obj)} (C : ExcC X.K D) (hz : Zc cls d oe) (hf : ∃ vs, oe.data = .fields vs) : CallR (X.suite a ((a, oe) :: pn)) (.builtin "isinstance") (rIsX X.K D a cls d) := by
  intro pins s σ H xs us Q I r h
  obtain ⟨c, cv, b, rfl, ec, hd, hcv, e, q⟩ := h
  cases r with
  | cons rx rr =>
    cases rr with
    | cons rt rr =>
      cases rr
      cases rx
      have ec2 := hcv _ rt
      subst ec2
      obtain ⟨od, J⟩ := inst_suite hz hf I ec hd
      exact PySem.W.kia_one (kitx_exco C.hg C.hk C.hs C.hd C.ha C.hn C.ht C.hm) I.kIn J e (fun z => nomatch z) fun tk => ⟨.bl b, H, I.kept (t' := tk) fun _ _ z => z, rfl, q⟩
/-- isinstance(e, (c, ..)) -/
def rIsXT (K : PySem.W.Frag) (D a : Addr) (cls : Value) (d : Option Addr) : List V → Hp → VK → Prop := fun xs H Q => ∃ (tp : Addr) (cs : List V) (ws : List Value) (b : Bool), xs = [.ref a, .ref tp] ∧ cls = .ref D ∧ DctAt d H ∧ H tp = some (.tup cs) ∧ (∀ us, Vals cs us → us = ws) ∧ PySem.W.kitAny K (.ref D) ws = some b ∧ Q (.bl b) H
theorem call_isXT {X : Cx} {a D : Addr} {oe : Obj} {cls : Value} {d : Option Addr} {pn : List (Addr × Obj)} (C : ExcC X.K D) (hz : Zc cls d oe) (hf : ∃ vs, oe.data = .fields vs) : CallR (X.suite a ((a, oe) :: pn)) (.builtin "isinstance") (rIsXT X.K D a cls d) := by
  intro pins s σ H xs us Q I r h
  obtain ⟨tp, cs, ws, b, rfl, ec, hd, hT, hw, e, q⟩ := h
  cases r with
  | cons rx rr =>
    cases rr with
    | cons rt rr =>
      cases rr
      cases rx
      cases rt
      obtain ⟨od, J⟩ := inst_suite hz hf I ec hd
      obtain ⟨_, its, rv, o, h1, h2, n, h3⟩ := (show ObjOk X.prog X.w H s.heap tp (.tup cs) from I.hok tp _ hT)
      have e3 := hw _ rv
      subst e3
      obtain ⟨oc, odd, dt, sl⟩ := o
      simp only at h2 h3
      subst h2 h3
      exact PySem.W.kia_tup (kitx_exco C.hg C.hk C.hs C.hd C.ha C.hn C.ht C.hm) I.kIn J h1 e (fun z => nomatch z) fun tk => ⟨.bl b, H, I.kept (t' := tk) fun _ _ z => z, rfl, q⟩
end TK

/-! which classes an own exception is of, from simple facts -/
namespace TK
open PySem PySem.Spec PyProof.Rows L2 NdefX
/-- what is known of a class -/
structure ClsK (K : PySem.W.Frag) (N : Addr) : Prop where
  is_ : PySem.W.isClsIn K N = true
  ty : PySem.W.typeIn K (.ref N) = some (.type "type")
theorem kitCls_ref {K : PySem.W.Frag} {A N : Addr} {b : Bool} (h : ClsK K N) (s : PySem.W.subIn K (.ref A) (.ref N) = some b) : PySem.W.kitCls K (.ref A) (.ref N) = some b := by
  have h1 := h.is_
  unfold PySem.W.isClsIn at h1
  unfold PySem.W.kitCls
  simp [h1, h.ty, s]
theorem kit_no {K : PySem.W.Frag} {A N : Addr} (h : ClsK K N) (r : PySem.W.subIn K (.ref A) (.ref A) = some true) (s : PySem.W.subIn K (.ref A) (.ref N) = some false) : PySem.W.kitOne K (.ref A) (.ref N) = some false := by
  have ne : ((Value.ref A) == Value.ref N) = false := by
    cases e : ((Value.ref A) == Value.ref N) with
    | false => rfl
    | true =>
      have e2 := eq_of_beq e
      rw [← e2, r] at s
      cases s
  unfold PySem.W.kitOne
  rw [ne]
  exact kitCls_ref h s
theorem kit_yes {K : PySem.W.Frag} {A N : Addr} (h : ClsK K N) (s : PySem.W.subIn K (.ref A) (.ref N) = some true) : PySem.W.kitOne K (.ref A) (.ref N) = some true := by
  unfold PySem.W.kitOne
  split
  · rfl
  · exact kitCls_ref h s
theorem kitT_yes {K : PySem.W.Frag} {A : Addr} {T : String} (m : PySem.W.kitMeta T = true) (s : PySem.W.subIn K (.ref A) (.type T) = some true) : PySem.W.kitOne K (.ref A) (.type T) = some true := by
  unfold PySem.W.kitOne
  split
  · rfl
  · unfold PySem.W.kitCls
    simp [m, s]
theorem exm_self {K : PySem.W.Frag} {C : Addr} (h : ClsK K C) (b : PySem.W.subIn K (.ref C) (.type "BaseException") = some true) (r : PySem.W.subIn K (.ref C) (.ref C) = some true) : PySem.W.exmOne K (.ref C) (.ref C) = some true := by
  unfold PySem.W.exmOne
  rw [b, kitCls_ref h r]
  rfl
theorem kitAny_no {K : PySem.W.Frag} {t : Value} : ∀ {cs : List Value}, (∀ c ∈ cs, PySem.W.kitOne K t c = some false) → PySem.W.kitAny K t cs = some false
  | [], _ => rfl
  | c :: r, h => by
    unfold PySem.W.kitAny
    rw [h c (List.mem_cons_self ..)]
    exact kitAny_no fun d hd => h d (List.mem_cons_of_mem _ hd)
theorem kitAny_c {K : PySem.W.Frag} {t c : Value} {cs : List Value} (h : PySem.W.kitOne K t c = some false) (r : PySem.W.kitAny K t cs = some false) : PySem.W.kitAny K t (c :: cs) = some false := by
  unfold PySem.W.kitAny
  rw [h]
  exact r
theorem kitMeta_VE : PySem.W.kitMeta "ValueError" = true := by decide +kernel
/-- the facts of an exception's class, as the top's world tells them -/
theorem oexC_mk {K : PySem.W.Frag} {C : Addr} {nm q : Str} {N : Addr} {bs bm : List Value} {sn : List Str} {sub : List Value} {ab : Bool} {col : Option Bool} {dd : Option Addr} {k0 k1 k2 k3 k5 : Option Value}
    (lC : K.lookup C = some (excClassObj nm q C N bs bm true sn sub ab col dd k0 k1 k2 k3 k5 "ValueError.__new__")) (rf : PySem.HandSPX.refsVE bm = true) (sa : PySem.W.findIn K (.ref C) "__setattr__" = some (some (.builtin "object.__setattr__")))
    (bx : PySem.W.subIn K (.ref C) (.type "BaseException") = some true) (ty : PySem.W.typeIn K (.ref C) = some (.type "type")) (kc : PySem.W.keepIn K (.ref C) = true) : OexC K C := ⟨⟨_, _, _, _, _, _, _, _, _, _, _, _, _, _, _, lC, rf⟩, sa, bx, ty, kc⟩
end TK

/-! calls of methods that may raise, the exception's promise with the slots as they stand -/
namespace TK
open PySem PySem.Spec PyProof.Rows L2 NdefX
section
variable {X : Cx} {CX : CXT} {k : Nat} {f g C : Addr} {m : Str} {fd : FuncData} {ps : List Str} {sp : Sp} {E : L2.St → XK} {apos pos : Pos} {o e : Expr} {es : List Expr} {ta : TE} {t : TA}
def tMethAt (C : Addr) (m : Str) (sp : Sp) (E : L2.St → XK) (ta : TE) (t : TA) : TE := fun σ H Q => ta σ H fun x H1 => ∃ a dx fs, x = V.ref a ∧ H1 a = some (.ins C dx fs) ∧ fs.lookup m = none ∧
  t σ H1 fun vs H2 => sp (x :: vs) H2 Q (E σ)
/-- o.m(e, ..), that may raise -/
theorem pe_methAt {pl : Sem Bool} (he : PE X o ta) (c : Cls X.K C) (hm : Meth X.K C m f) (F : FnOk X.prog X.w X.K X.mg X.base CX k f fd ps sp) (hr : Room k X.A) (hb : Binds X.K fd ps []) (hx : ∀ σ, PassesAt CX X σ (E σ)) (ha : PA X (e :: es) t)
    (hst : starEach (e :: es) X.env = (false, eval e X.env) :: starEach es X.env := by rfl) (hpl : (backTo pos (starEach es X.env)).any (·.1) = false := by rfl)
    (ht : eval (.Call (.Attribute o m apos) (e :: es) [] pos) X.env = (do
      let ov ← eval o X.env
      standAt apos.atName
      let (f, first) ← holding [ov] (getMethod ov m pl)
      callWith pos f first (backTo pos (starEach (e :: es) X.env)) (backToKw pos (keywordEach [] X.env))) := by rfl) :
    PE X (.Call (.Attribute o m apos) (e :: es) [] pos) (tMethAt C m sp E ta t) := by
  refine ⟨fun pins s σ H Q I h => ?_⟩
  refine PySem.W.methodCall_KW (pl := pl) (thn (he.run pins s σ H _ I h) fun u s1 ⟨x, H1, I1, rx, a, dx, fs, ex, ea, l, q⟩ => ?_) ht
  subst ex
  obtain rfl : u = Value.ref a := rx
  refine getmeth_ok I1 ea c hm l ?_
  refine PySem.W.callWith_K (first := [.ref a]) (h₀ := X.base) I.ok.mod.kin hm.kp (thn (ha.run pos pins s1 σ H1 _ I1 q) fun us s2 ⟨vs, H2, I2, r, q2⟩ => ⟨I2.kIn, ?_⟩) hst hpl
  exact run_fnS (us := .ref a :: us) (vs := .ref a :: vs) F hr hb (hx σ) I2 (.cons rfl r) q2
/-- o.m(), that may raise -/
theorem pe_methAt0 {pl : Sem Bool} (he : PE X o ta) (c : Cls X.K C) (hm : Meth X.K C m f) (F : FnOk X.prog X.w X.K X.mg X.base CX k f fd ps sp) (hr : Room k X.A) (hb : Binds X.K fd ps []) (hx : ∀ σ, PassesAt CX X σ (E σ))
    (ht : eval (.Call (.Attribute o m apos) [] [] pos) X.env = (do
      let ov ← eval o X.env
      standAt apos.atName
      let (f, first) ← holding [ov] (getMethod ov m pl)
      callWith pos f first (backTo pos (starEach [] X.env)) (backToKw pos (keywordEach [] X.env))) := by rfl) :
    PE X (.Call (.Attribute o m apos) [] [] pos) (tMethAt C m sp E ta tNil) := by
  refine ⟨fun pins s σ H Q I h => ?_⟩
  refine PySem.W.methodCall_KW (pl := pl) (thn (he.run pins s σ H _ I h) fun u s1 ⟨x, H1, I1, rx, a, dx, fs, ex, ea, l, q⟩ => ?_) ht
  subst ex
  obtain rfl : u = Value.ref a := rx
  refine getmeth_ok I1 ea c hm l ?_
  exact PySem.W.callWith_K0 (first := [.ref a]) I1.kIn hm.kp (run_fnS (us := [.ref a]) (vs := [.ref a]) F hr hb (hx σ) I1 (.cons rfl .nil) q)
end
end TK

namespace TK
open PySem PySem.Spec PyProof.Rows L2 NdefX
/-! a value of another kind, compared with an own object -/
inductive OddX (K : PySem.W.Frag) (C : Addr) (H : Hp) : V → Prop where
  | non (h : PySem.W.notFirst K C (.type "NoneType") = true) : OddX K C H .non
  | str (z : Str) (h : PySem.W.notFirst K C (.type "str") = true) : OddX K C H (.str z)
  | int (i : Int) (h : PySem.W.notFirst K C (.type "int") = true) : OddX K C H (.int i)
  | bl (b : Bool) (h : PySem.W.notFirst K C (.type "bool") = true) : OddX K C H (.bl b)
  | lst {a : Addr} {xs : List V} (e : H a = some (.lst xs)) (h : PySem.W.notFirst K C (.type "list") = true) : OddX K C H (.ref a)
  | tup {a : Addr} {xs : List V} (e : H a = some (.tup xs)) (h : PySem.W.notFirst K C (.type "tuple") = true) : OddX K C H (.ref a)
section
variable {X : Cx} {K : PySem.W.Frag} {CX : CXT} {C g : Addr} {n : Nat} {fd : FuncData} {ps : List Str} {sp : Sp} {E : XK} {pins : List (Addr × Obj)} {σ : L2.St} {H : Hp} {s : Shared}
def rOwnX (K : PySem.W.Frag) (C : Addr) (sp : Sp) (E : XK) : R2 := fun x y H Q => IsIn H x C ∧ (IsIn H y C ∨ OddX K C H y) ∧ sp [x, y] H Q E
theorem oddX_looks {x : V} {u : Value} (I : Inv X pins σ H s) (rx : RelV x u) (o : OddX X.K C H x) : ∃ tb, PySem.W.Looks (model X.prog X.w) s.heap (typeOf u) tb ∧ PySem.W.notFirst X.K C tb = true := by
  cases o with
  | non h => cases (show u = Value.none from rx); exact ⟨_, .now, h⟩
  | str z h => obtain ⟨t, q⟩ := (show ∃ t, u = Value.str z t from rx); cases q; exact ⟨_, .now, h⟩
  | int z h => obtain ⟨t, q⟩ := (show ∃ t, u = Value.int z t from rx); cases q; exact ⟨_, .now, h⟩
  | bl z h => cases (show u = Value.bool z from rx); exact ⟨_, .now, h⟩
  | @lst a xs ea h =>
    cases (show u = Value.ref a from rx)
    obtain ⟨_, _, n, _, h1⟩ := (show ObjOk X.prog X.w H s.heap a (.lst xs) from I.hok a _ ea)
    exact ⟨.type "list", (PySem.W.Looks.ld h1).andThen .now, h⟩
  | @tup a xs ea h =>
    cases (show u = Value.ref a from rx)
    obtain ⟨_, _, _, o, h1, h2, _⟩ := (show ObjOk X.prog X.w H s.heap a (.tup xs) from I.hok a _ ea)
    exact ⟨_, h2 ▸ (PySem.W.Looks.ld h1).andThen .now, h⟩
theorem op_ownEqX {op : CmpOp} (hK : X.K = K) (hop : ∀ a b, compareOp op a b = richCompare op a b) (c : Own X.K C (cmpInfo op).2.1 g) (F : FnOk X.prog X.w X.K X.mg X.base CX n g fd ps sp) (hr : Room n X.A) (hb : Binds X.K fd ps []) (hx : Passes CX X E) :
    OpR X (compareOp op) (rOwnX K C sp E) := by
  subst hK
  intro pins s σ H x y v u Q I rx ry h
  obtain ⟨⟨a, dx, fs, rfl, ha⟩, hy, q⟩ := h
  cases rx
  obtain ⟨ox, od, J⟩ := own_at I ha
  obtain ⟨m, hF⟩ := I.fr
  rw [hop]
  have key : ∃ tb, PySem.W.Looks (model X.prog X.w) s.heap (typeOf u) tb ∧ PySem.W.notFirst X.K C tb = true := by
    rcases hy with ⟨b, dy, gs, rfl, hb'⟩ | o
    · cases ry
      obtain ⟨ox', od', J'⟩ := own_at I hb'
      exact ⟨_, J'.type, by simp [PySem.W.notFirst]⟩
    · exact oddX_looks I ry o
  obtain ⟨tb, L, nf⟩ := key
  refine PySem.W.cmp_K (op := op) (tb := tb) hr.units0 hF I.ok.mod.kin J L nf c.at_ c.fn (wpAny_mono (run_own F hr I.env0 hb hx I (vs := [.ref a, y]) (.cons rfl (.cons ry .nil)) q) (fun w s' z => ?_) fun _ _ x => x)
  obtain ⟨z', H', I', rz, qz⟩ := z
  exact SlX.cmpback rz ⟨z', H', I', rz, qz⟩
end
/-! o op p of two of one class, that may raise -/
section
variable {X : Cx} {CX : CXT} {n : Nat} {g C : Addr} {fd : FuncData} {ps : List Str} {sp : Sp} {E : L2.St → XK} {pos : Pos} {a b : Expr} {ta tb : TE} {pins : List (Addr × Obj)} {σ : L2.St} {H : Hp} {s : Shared}
theorem run_ownAt {E : XK} {A : Around} {Q : VK} {us : List Value} {vs : List V} (F : FnOk X.prog X.w X.K X.mg X.base CX n g fd ps sp) (hr : Room n A) (e0 : Env0 X.prog X.w X.K X.mg X.base A X.stack s H) (hb : Binds X.K fd ps []) (hx : PassesAt CX X σ E)
    (I : Inv X pins σ H s) (r : Vals vs us) (h : sp vs H Q E) : wpAny (model X.prog X.w) A (call (.ref g) us) (EP X pins σ Q) X.xe s := by
  have hl : (us ++ []).length = ps.length := by rw [List.append_nil, ← r.length]; exact F.len _ _ _ _ h
  have hbb := hb s us I.kIn hl
  rw [List.append_nil] at hbb
  refine wpAny_call (codeAny_mono (F.run A X.stack s H ⟨us, []⟩ us vs Q E hr e0 hbb r h) fun r s' hq => ?_)
  cases r with
  | error e => exact hx pins H s e s' I hq
  | ok fl =>
    cases fl with
    | ret u => exact I.after hq
    | next => exact False.elim hq
    | brk => exact False.elim hq
    | cont => exact False.elim hq
theorem pe_ownBinAt {op : Operator} (c : Own X.K C (PySem.dunder op.info.2) g) (sf : PySem.W.selfFirst X.K C = true) (F : FnOk X.prog X.w X.K X.mg X.base CX n g fd ps sp) (hr : Room n X.A) (hb : Binds X.K fd ps []) (hx : ∀ σ, PassesAt CX X σ (E σ))
    (ha : PE X a ta) (hb' : PE X b tb) : PE X (.BinOp a op b pos) (fun σ H Q => ta σ H fun x H1 => tb σ H1 fun y H2 => rOwn2 C sp (E σ) x y H2 Q) := by
  refine ⟨fun pins s σ H Q I h => ?_⟩
  refine wpAny_BinOp (binT (R := fun x y H2 => rOwn2 C sp (E σ) x y H2 Q) ha hb' I h fun v u s2 x y H2 I2 rx ry q => ?_)
  obtain ⟨⟨a, dx, fs, rfl, ha⟩, ⟨b, dy, gs, rfl, hb''⟩, q⟩ := q
  cases rx
  cases ry
  obtain ⟨ox, od, J⟩ := own_at I2 ha
  obtain ⟨ox', od', J'⟩ := own_at I2 hb''
  obtain ⟨m, hF⟩ := I2.fr
  refine PySem.W.binop_K hF I2.ok.mod.kin J J'.type sf c.at_ c.fn (wpAny_mono (run_ownAt F hr I2.env0 hb (hx σ) I2 (vs := [.ref a, .ref b]) (.cons rfl (.cons rfl .nil)) q) (fun w s' z => ?_) fun _ _ x => x)
  obtain ⟨z', H', I', rz, qz⟩ := z
  exact SlX.cmpback rz ⟨z', H', I', rz, qz⟩
end
end TK

/-! super().__init__(..) of a class over an own class -/
namespace TK
open PySem PySem.Spec PyProof.Rows L2 NdefX
open PySem.W (ks_superIn)
open ClX
def supSt (p0 p1 p2 p3 p4 : Pos) (es : List Expr) : Stmt := .Expr (.Call (.Attribute (.Call (.Name "super" p0) [] [] p1) "__init__" p2) es [] p3) p4
/-- what super().__init__ finds: the def f2 of a class over D, for objects of C -/
structure SupO (K : PySem.W.Frag) (C D f2 : Addr) : Prop where
  hst : PySem.W.nsIn K cStatics "thirdparty.any" = some none
  isD : PySem.W.isClsIn K D = true
  sub : PySem.W.mroIn K C (.ref D) = some true
  al : ks_superIn K C D "__init__" = some (some (.ref f2))
  ty : PySem.W.typeIn K (.ref f2) = some (.type "function")
  fi : PySem.W.fnIn K f2 = true
theorem fn_superO {P : Program} {w : World} {K : PySem.W.Frag} {mg : Str → Option Value} {base : Heap} {k kr : Nat} {f C D f2 cc cda : Addr} {qual file : Str} {params : Arguments} {scope : Scope} {e : Expr} {es : List Expr} {rest : List Stmt} {p0 p1 p2 p3 p4 : Pos}
    {oc ccl cl dV kV doc pm ct : Value} {an od cdd cld : Option Addr} {osl ccs csl : Array (Option Value)} {vs0 : Array Value} {tf : Tok} {ar : Arg} {N ps : List Str} {sp spR : Sp}
    (lk : K.lookup f = some ⟨oc, od, .func (PySem.W.fnX "__init__" qual params (supSt p0 p1 p2 p3 p4 (e :: es) :: rest) scope [("__class__", cc)] dV kV doc pm an (.ref cda) ct), osl⟩) (hcd : PySem.W.codeIn K (.ref cda) qual = true)
    (hcode : K.lookup cda = some ⟨ccl, cdd, .fields vs0, ccs⟩) (hvs : vs0[2]? = some (.str file tf)) (hfile : ((P.main.file : Str) == file) = true)
    (hcell : K.lookup cc = some ⟨cl, cld, .cell (some (.ref D)), csl⟩)
    (S : NScope N (("self" : Str) :: ps) ["__class__"] scope) (hks : scope.names.lookup ("super" : Str) = some .globalImplicit)
    (hpar : (params.posonlyargs ++ params.args).head? = some ar) (har : ar.arg = "self") (htop : (P.main.scope.names.lookup ("super" : Str)).isSome = false) (hsup : mg "super" = none)
    (O : SupO K C D f2) (FR : FnR P w K mg base CX0 kr f2 spR)
    (len : ∀ vs H Q E, sp vs H Q E → ∃ a vs' dx fs, vs = .ref a :: vs' ∧ vs'.length = ps.length ∧ H a = some (.ins C dx fs))
    (hbody : ∀ (A : Around) (outer : List Env) (s : Shared) (H : Hp) (vs : List V) (Q : VK) (E : XK) (a : Addr) (vs' : List V), Room k (A.deeper (envF ⟨"__init__", qual, params, supSt p0 p1 p2 p3 p4 (e :: es) :: rest, scope, [("__class__", cc)], cda⟩ f s.heap.objs.size)) → vs = .ref a :: vs' → sp vs H Q E →
      ∃ ta tr, Room kr (ncx CX0 P w K mg base N ⟨"__init__", qual, params, supSt p0 p1 p2 p3 p4 (e :: es) :: rest, scope, [("__class__", cc)], cda⟩ f A outer s H E).A ∧ PA (ncx CX0 P w K mg base N ⟨"__init__", qual, params, supSt p0 p1 p2 p3 p4 (e :: es) :: rest, scope, [("__class__", cc)], cda⟩ f A outer s H E) (e :: es) ta ∧
        PSs (ncx CX0 P w K mg base N ⟨"__init__", qual, params, supSt p0 p1 p2 p3 p4 (e :: es) :: rest, scope, [("__class__", cc)], cda⟩ f A outer s H E) rest tr ∧
        ta (startF N vs [some (.ref D)]) H (fun us H1 => spR (.ref a :: us) H1 (fun _ H2 => tr { nx := fun _ H' => Q .non H', rt := Q } (startF N vs [some (.ref D)]) H2) E0))
    (hst2 : ∀ env : Env, starEach (e :: es) env = (false, eval e env) :: starEach es env) (hpl : ∀ env : Env, (backTo p3 (starEach es env)).any (·.1) = false) {pl : Env → Sem Bool}
    (hev : ∀ env : Env, eval (.Call (.Attribute (.Call (.Name "super" p0) [] [] p1) "__init__" p2) (e :: es) [] p3) env = (do
      let ov ← attributeBase (.Call (.Name "super" p0) [] [] p1) "__init__" env (eval (.Call (.Name "super" p0) [] [] p1) env)
      standAt p2.atName
      let (f, first) ← holding [ov] (getMethod ov "__init__" (pl env))
      callWith p3 f first (backTo p3 (starEach (e :: es) env)) [])) :
    FnOk P w K mg base CX0 (k + 1) f (PySem.W.fnX "__init__" qual params (supSt p0 p1 p2 p3 p4 (e :: es) :: rest) scope [("__class__", cc)] dV kV doc pm an (.ref cda) ct) (("self" : Str) :: ps) sp := by
  refine ⟨fun vs H Q E h => by
    obtain ⟨a, vs', dx, fs, rfl, hl, _⟩ := len vs H Q E h
    rw [List.length_cons, List.length_cons, hl], fun A outer s H args us vs Q E hr e0 hb r hsp => ?_⟩
  obtain ⟨a, vs', dx, fs, rfl, hl', ea⟩ := len _ _ _ _ hsp
  have hl : (V.ref a :: vs').length = (("self" : Str) :: ps).length := by rw [List.length_cons, List.length_cons, hl']
  obtain ⟨hp0, g0, d0, tk0, os0⟩ := s
  have KX : K.In hp0 := e0.mod.kin.keeps fun b o e => (e0.bs b o e).1
  have lim : hp0.NoLimit := e0.mod.nolimit.keeps fun b o e => (e0.bs b o e).1
  have one : ∀ (y : Str) (c : Addr), ([(("__class__" : Str), cc)] : List (Str × Addr)).lookup y = some c → y = ("__class__" : Str) ∧ c = cc := fun y c e => by
    simp only [List.lookup] at e
    split at e
    · rename_i h
      exact ⟨eq_of_beq h, (Option.some.inj e).symm⟩
    · cases e
  have cls : CellsAt [(("__class__" : Str), cc)] ["__class__"] [some (.ref D)] hp0 H := by
    refine ⟨rfl, fun y c e => ?_, fun x y c e1 e2 => (one _ _ e1).1.trans (one _ _ e2).1.symm, fun i y hy => ?_⟩
    · obtain ⟨_, rfl⟩ := one _ _ e
      exact ⟨(e0.bs _ _ (e0.mod.kin _ _ hcell)).2, _, _, KX _ _ hcell, rfl⟩
    · match i, hy with
      | 0, hy =>
        cases Option.some.inj hy
        refine ⟨cc, by simp [List.lookup], fun v ev => ?_⟩
        cases Option.some.inj (Option.some.inj ev)
        exact ⟨.ref D, rfl, _, KX _ _ hcell, rfl⟩
      | i + 1, hy => simp at hy
  refine PySem.ks_codeAny_call_defAt (body := supSt p0 p1 p2 p3 p4 (e :: es) :: rest) (binds := ((("self" : Str) :: ps)).zip us) hr.depth (KX _ _ lk) rfl lim (PySem.W.codeRec_of KX hcd) rfl hb S.nocell (fun ⟨n, v⟩ hy => S.par n (List.of_mem_zip hy).1) (fun h₁ hns kp => ?_) S.co S.gen S.kind
  let F : NF := ⟨"__init__", qual, params, supSt p0 p1 p2 p3 p4 (e :: es) :: rest, scope, [("__class__", cc)], cda⟩
  obtain ⟨ta, tr, hrr, pa, ptr, ht⟩ := hbody A outer ⟨hp0, g0, d0, tk0, os0⟩ H _ Q E a vs' (hr.deeper _) rfl hsp
  let X : Cx := ncx CX0 P w K mg base N F f A outer ⟨hp0, g0, d0, tk0, os0⟩ H E
  have I : Inv X [] (startF N (V.ref a :: vs') [some (.ref D)]) H ⟨h₁, g0, d0, tk0 + ((((("self" : Str) :: ps)).zip us)).length, os0⟩ :=
    inv_startN (CX := CX0) (E := E) (N := N) (F := F) (f := f) (ws := [some (.ref D)]) S hr.hd e0 hl r cls hns kp
  generalize tk0 + ((((("self" : Str) :: ps)).zip us)).length = tk1 at I ⊢
  have KX1 : K.In h₁ := I.kIn
  obtain ⟨mb, hb1, hb2⟩ := I.mod.blt
  have hself : scope.names.lookup ar.arg = some .local := by rw [har]; exact S.par "self" (by simp)
  obtain ⟨us', rfl⟩ : ∃ us', us = Value.ref a :: us' := by
    cases r with
    | @cons _ u0 _ ur ra rw' =>
      obtain rfl : u0 = Value.ref a := ra
      exact ⟨_, rfl⟩
  have vself : (((("self" : Str) :: ps).zip (Value.ref a :: us')).reverse.lookup ar.arg) = some (.ref a) := by
    rw [har]
    have nd : ((("self" : Str) :: ps) ++ [("__class__" : Str)]).Nodup := by
      rw [← S.pre]
      exact List.Sublist.nodup (List.take_sublist ..) S.nd
    exact zip_look (i := 0) (List.nodup_append.mp nd).1 rfl rfl
  obtain ⟨oD, hD1, cdD, hD2⟩ : ∃ oD, h₁.get? D = some oD ∧ ∃ cdD, oD.data = .cls cdD := by
    have hD := O.isD
    obtain ⟨cd, hcd'⟩ := Option.isSome_iff_exists.mp (show (PySem.W.clsIn K D).isSome = true from hD)
    unfold PySem.W.clsIn at hcd'
    split at hcd'
    · rename_i c d cd' sl ho
      exact ⟨_, KX1 _ _ ho, cd', rfl⟩
    · cases hcd'
  show _root_.PySem.wpAt (model P w) X.A (.func (supSt p0 p1 p2 p3 p4 (e :: es) :: rest) X.env) (execs (supSt p0 p1 p2 p3 p4 (e :: es) :: rest) X.env) _ X.xe _
  refine PySem.ks_wpAt_execs_cons (PySem.ks_wpAt_Expr_any (PySem.ks_wpAt_MethodCall (PySem.ks_wpAt_super_base (env := X.env) (ar := ar) (f := f) hks (S.frk _ (by simp)) (by decide) rfl (KX1 _ _ lk) rfl hpar rfl (KX1 _ _ hcode) rfl hvs hfile htop ?_) (hev X.env)) I.quiet)
  refine PySem.W.ks_loadName_global S.kind hks (Calls.loadGlobal_builtin (mg := mg) (I.mod.glob.keeps I.bk) hsup (hb1.keeps I.bk) ((hb2 "super" (by decide)).trans (by decide +kernel : bootBuiltins "super" = some (.type "super"))) ⟨rfl, ?_⟩)
  refine wpAny_loadName_free S.kind (S.frk "__class__" (by simp)) (c := cc) rfl ⟨_, KX1 _ _ hcell, rfl⟩ ?_
  refine wpAny_loadName_local S.kind hself hns vself ?_
  refine PySem.ks_wpAny_isType_cls hD1 hD2 ⟨rfl, ?_⟩
  obtain ⟨ox, od', J⟩ := own_at I ea
  refine PySem.ks_wpAny_call_super hD1 hD2 J.at_ J.cls (fun c e => ?_) (PySem.W.looks_mroIn KX1 O.sub) (fun h2 e2 kp2 => ?_)
  · have := J.no
    unfold PySem.W.notCls at this
    rw [e] at this
    exact Bool.noConfusion this
  have I2 : Inv X [] (startF N (V.ref a :: vs') [some (.ref D)]) H ⟨h2, g0, d0, tk1, os0⟩ := I.kept (t' := tk1) kp2
  have KX2 : K.In h2 := I2.kIn
  obtain ⟨ox2, od2, J2⟩ := own_at I2 ea
  have hal := O.al
  cases hcc : PySem.W.clsIn K C with
  | none => unfold ks_superIn at hal; rw [hcc] at hal; cases hal
  | some cd =>
    unfold ks_superIn at hal
    rw [hcc] at hal
    obtain ⟨of, hof, hofc⟩ : ∃ of, h2.get? f2 = some of ∧ of.cls = .type "function" := by
      have ht' : (K.lookup f2).map (·.cls) = some (.type "function") := O.ty
      cases z : K.lookup f2 with
      | none => rw [z] at ht'; cases ht'
      | some of => rw [z] at ht'; exact ⟨of, KX2 _ _ z, Option.some.inj ht'⟩
    refine PySem.ks_wpAny_getMethod_super e2 (PySem.W.looks_opaque KX2 O.hst) (l₀ := cd.mro) (fun A Q E s k q => wpAny_bind ((PySem.W.looks_clsIn KX2 hcc) A _ E s k (wpAny_pure q))) rfl KX2 hal hof hofc (PySem.W.ks_ne KX2 J2 hcc) (by decide) ?_
    have I3 := met_new (g := f2) (C := a) I2
    refine callwith_cm (g := f2) (C := a) I3 (base_none I2 (Nat.le_refl _)) O.fi (thn (pa.run p3 _ _ _ H _ I3 ht) fun us3 s3 ⟨vs3, H3, I4, rv, q2⟩ => ⟨⟨pin_at I4, I4.kIn⟩, ?_⟩) (hst2 X.env) (hpl X.env)
    refine thn (run_cm FR hrr pass0 I4 rv q2) fun z s4 ⟨v4, H4, I5, r4, q3⟩ => ?_
    refine wpAt_of_wpAny (wpAny_mono (ptr.run _ _ _ _ { nx := fun _ H' => Q .non H', rt := Q } I5 q3) (fun fl s' hs => ?_) fun e s' hs => hs)
    have fin : ∀ {σ' : L2.St} {H' : Hp} {v : V} {u : Value}, Inv X [] σ' H' s' → RelV v u → Q v H' → CE outer P w H ⟨hp0, g0, d0, tk0, os0⟩ Q u s' :=
      fun {σ' H' v u} J rv q => ⟨v, H', J.os, J.bare, J.base, J.hok, rv, q⟩
    cases fl with
    | ret u =>
      obtain ⟨v, σ', H', J, rv, q⟩ := hs
      exact fin J rv q
    | next =>
      obtain ⟨σ', H', J, q⟩ := hs
      exact fin (v := V.non) (u := Value.none) J rfl q
    | brk =>
      obtain ⟨_, _, _, q⟩ := hs
      exact False.elim q
    | cont =>
      obtain ⟨_, _, _, q⟩ := hs
      exact False.elim q
end TK

/-! len(set(xs)) of a list of different texts -/
namespace TK
open PySem PySem.Spec PyProof.Rows L2
section
variable {prog : Program} {w : World} {A : Around} {R : Result → Shared → Prop} {I : Addr} {fp wr : List Addr} {G : Array GenState → Array GenState → Prop} {n : Nat} {Pv : Nat → Value → Prop} {St : Nat → Shared → Prop}
/-- what the set holds after i texts -/
abbrev seenS (xs : List Str) (i : Nat) : Str → Bool := fun k => (xs.take i).any (· == k)
theorem seen_succ {xs : List Str} {i : Nat} (hi : i < xs.length) (k : Str) : (seenS xs i k || decide (k = xs.getD i Str.empty)) = seenS xs (i + 1) k := by
  show _ = (xs.take (i + 1)).any (· == k)
  have e : xs.getD i Str.empty = xs[i] := by rw [List.getD_eq_getElem?_getD, List.getElem?_eq_getElem hi]; rfl
  rw [List.take_add_one, List.getElem?_eq_getElem hi, List.any_append, e]
  congr 1
  show decide (k = xs[i]) = [xs[i]].any (· == k)
  rw [List.any_cons, List.any_nil, Bool.or_false]
  by_cases h : k = xs[i]
  · rw [decide_eq_true h, h]; exact (beq_self_eq_true _).symm
  · rw [decide_eq_false h]; exact (beq_eq_false_iff_ne.mpr fun q => h q.symm).symm
theorem seen_new {xs : List Str} {i : Nat} (hi : i < xs.length) (nd : xs.Nodup) : seenS xs i (xs.getD i Str.empty) = false := by
  have e : xs.getD i Str.empty = xs[i] := by rw [List.getD_eq_getElem?_getD, List.getElem?_eq_getElem hi]; rfl
  rw [e]
  refine Bool.eq_false_iff.mpr fun h => ?_
  obtain ⟨x, hx, q⟩ := List.any_eq_true.mp h
  have q := eq_of_beq q
  obtain ⟨j, hj, ej⟩ := List.getElem_of_mem hx
  rw [List.length_take] at hj
  rw [List.getElem_take] at ej
  have hj2 : j < xs.length := by omega
  have := (List.getElem?_inj hj2 nd).mp ((List.getElem?_eq_getElem hj2).trans ((congrArg some (ej.trans q)).trans (List.getElem?_eq_getElem hi).symm))
  omega
theorem loopStrs (W : WalksS prog w A.in1 I fp wr G n Pv St) (S : Addr) (hSf : S ∉ fp) (xs : List Str) (hsz : xs.length = n) (nd : xs.Nodup) (hn : n < 64)
    (hval : ∀ i v, Pv i v → ∃ t, v = .str (xs.getD i Str.empty) t) (m : Nat) : ∀ (i : Nat) (s : Shared), n - i = m → i ≤ n → St i s → s.heap.SetOf (PySem.strKind prog w) S (seenS xs i) i →
      (∀ s', Moved (S :: wr) G s s' → s'.heap.SetOf (PySem.strKind prog w) S (seenS xs n) n → R (.ok (.ret .none)) s') →
      codeAny (model prog w) A (.builtin "set.update.loop" ⟨[.ref S, .ref I], []⟩) R s := by
  have out : S ∉ wr := fun h => hSf (W.sub _ h)
  induction m with
  | zero =>
    intro i s hm hi hst hS hR
    obtain rfl : i = n := by omega
    refine codeAny_builtin PyProof.Rows.F.entry_set_update_loop ?_
    rw [Around.under_plainId PyProof.Rows.F.plain_set_update_loop _]
    show wpAny _ A.in1 (pyNext (.ref I) >>= _) _ _ s
    exact wpAny_bind (W.done s _ _ hst fun s' mv => wpAny_pure (hR s' (mv.mono fun b hb => List.mem_cons_of_mem _ hb) (by
      obtain ⟨o, es, ep, t, ho, r⟩ := hS
      exact ⟨o, es, ep, t, mv.heap S _ out ho, r⟩)))
  | succ m ih =>
    intro i s hm hi hst hS hR
    have hlt : i < n := by omega
    refine codeAny_builtin PyProof.Rows.F.entry_set_update_loop ?_
    rw [Around.under_plainId PyProof.Rows.F.plain_set_update_loop _]
    show wpAny _ A.in1 (pyNext (.ref I) >>= _) _ _ s
    refine wpAny_bind (W.item i s _ _ hlt hst fun v s' hP hst' mv => ?_)
    obtain ⟨t, rfl⟩ := hval i v hP
    have hS1 : s'.heap.SetOf (PySem.strKind prog w) S (seenS xs i) i := by
      obtain ⟨o, es, ep, tb, ho, r⟩ := hS
      exact ⟨o, es, ep, tb, mv.heap S _ out ho, r⟩
    show wpAny _ A.in1 (holding [Value.str (xs.getD i Str.empty) t] (setAdd S (.str (xs.getD i Str.empty) t)) >>= _) _ _ s'
    refine wpAny_bind (wpAny_holding ?_)
    unfold setAdd
    refine wpAny_holding (wpAny_bind ((PySem.strKind prog w).pyHash (k := xs.getD i Str.empty) (strKind_is _ _ _ _) ?_))
    refine wpAny_setAddHashed_of (knd := PySem.strKind prog w) (s := { s' with toks := s'.toks + 1 }) (strKind_is _ _ _ _) rfl hS1 (by unfold scanBound; omega) fun h' sb hS2 => ?_
    have hS3 : h'.SetOf (PySem.strKind prog w) S (seenS xs (i + 1)) (i + 1) := by
      refine SetOf_congr hS2 (fun k => seen_succ (by omega) k) ?_
      rw [show seenS xs i (xs.getD i Str.empty) = false from seen_new (by omega) nd]
      rfl
    refine wpAny_pure ⟨plainId_quiet PyProof.Rows.F.plain_set_update_loop _, ih (i + 1) _ (by omega) hlt (W.frame _ s' _ _ hst' (Nat.le_succ _) fun b hb o e => ?_) hS3 fun s2 mv2 hS4 => hR s2 (Moved.trans W.gtrans ((mv.mono fun b hb => List.mem_cons_of_mem _ hb).then_heap (Nat.le_succ _) fun b o hb e => ?_) mv2) hS4⟩
    · rw [sb.2 b (fun h : b = S => hSf (by rw [← h]; exact hb))]; exact e
    · rw [sb.2 b (fun h : b = S => hb (by rw [h]; exact List.mem_cons_self))]; exact e
end
section
variable {prog : Program} {w : World} {A : Around} {E : Value → Shared → Prop} {s : Shared}
set_option maxHeartbeats 3200000 in
/-- set(xs): the place of the new set, what it holds, and that nothing else is changed -/
theorem set_of_strs {l : Addr} {items : Array Value} {xs : List Str} {Q : Value → Shared → Prop} (hh : A.handled = none) (hl : s.heap.IsList l items) (hi : StrsAre items.toList xs) (nd : xs.Nodup) (few : xs.length < 64)
    (h : ∀ (h' : Heap) (tk : Nat), h'.SetOf (PySem.strKind prog w) s.heap.objs.size (seenS xs xs.length) xs.length → (∀ b o, b < s.heap.objs.size → s.heap.get? b = some o → h'.get? b = some o) → Q (.ref s.heap.objs.size) { s with heap := h', toks := tk }) :
    wpAny (model prog w) A (call (.type "set") [.ref l]) Q E s := by
  have hsz : xs.length = items.size := by rw [← StrsAre.len_eq hi, Array.length_toList]
  obtain ⟨c, tl, hmro⟩ := PySem.F.called_set.mro
  have hmade := PySem.F.called_set.made
  have hsub := PySem.F.called_set.sub
  refine wpAny_call (codeAny_of_tree ?_)
  show wpAny _ _ (callAny (.type "set") _) _ _ _
  refine wpAny_pure ⟨Code.quiet_builtin _ (by decide +kernel), codeAny_builtin PySem.F.entry_type_call ?_⟩
  rw [Around.under_plain (weight_type_call_type "set" [.ref l] []) rfl]
  have h1 := PySem.F.called_set.notType
  have h2 := PySem.F.called_set.canCreate
  have hct := PySem.F.typeCall_set_1 (.ref l)
  repeat (any_goals (first | assumption | wp_step))
  refine codeAny_mono (code_set_new_1 (.ref l) (E := E) (Q₁ := fun obj s₁ => ∃ led : Bool, obj = .ref s.heap.objs.size ∧ s₁ = { s with heap := s.heap.push { cls := .type "set", dict := none, data := .set #[] 0 (.fresh 0 0 led) } }) fun led => ⟨led, rfl, rfl⟩) fun r s1 hr => ?_
  cases r with
  | error e => exact hr
  | ok fl =>
    cases fl with
    | ret obj =>
      obtain ⟨led, rfl, rfl⟩ := hr
      have hS := Heap.get?_push_size s.heap (o := ({ cls := .type "set", dict := none, data := .set #[] 0 (.fresh 0 0 led) } : Obj)) rfl
      have hT : Shared.TypeIs { s with heap := s.heap.push { cls := .type "set", dict := none, data := .set #[] 0 (.fresh 0 0 led) } } (.ref s.heap.objs.size) "set" := ⟨_, hS, rfl⟩
      have hli := PySem.F.called_set.init.lookup
      have hbi := PySem.F.called_set.init.bind (.ref s.heap.objs.size)
      repeat (any_goals (first | assumption | wp_step))
      refine codeAny_mono (codeAny_call_builtin (R := wants (fun r s2 => r = .none ∧ ∃ h' tk, s2 = { s with heap := h', toks := tk } ∧ h'.SetOf (PySem.strKind prog w) s.heap.objs.size (seenS xs xs.length) xs.length ∧ (∀ b o, b < s.heap.objs.size → s.heap.get? b = some o → h'.get? b = some o)) E)
        PySem.F.called_set.init.plain PySem.F.entry_set_init (check_set_init_1 hT ?_)) fun r2 s2 hr2 => ?_
      · obtain ⟨⟨lcls, ldict, ldata, lslots⟩, hol, hcl, nl, hdl⟩ := hl
        simp only at hcl hdl
        subst hcl; subst hdl
        have hol2 := Heap.get?_push_of_some ({ cls := .type "set", dict := none, data := .set #[] 0 (.fresh 0 0 led) } : Obj) hol
        have hsls := PySem.F.sub_list_set
        have hslf := PySem.F.sub_list_frozenset
        have hne : (Value.type "list" == Value.type "dict") = false := by decide
        have hl1 : (s.heap.push { cls := .type "set", dict := none, data := .set #[] 0 (.fresh 0 0 led) }).IsList l items := ⟨_, hol2, rfl, nl, rfl⟩
        unfold Builtin.«set.__init__» noKeywords Builtin.Frozenset.updateFrom
        generalize hPI : pyIter = PI
        wp_walk
        subst hPI
        refine wpAny_pyIter_list hl1 (wpAny_bind (wpAny_runValue ?_))
        have below : l < s.heap.objs.size := Heap.lt_size hol
        have hh3 : A.in1.in1.in1.handled = none := by simp [hh]
        have up1 : (s.heap.push { cls := .type "set", dict := none, data := .set #[] 0 (.fresh 0 0 led) }).objs.size = s.heap.objs.size + 1 := Heap.size_push _ _
        have hneI : l ≠ (s.heap.push { cls := .type "set", dict := none, data := .set #[] 0 (.fresh 0 0 led) }).objs.size := by rw [up1]; exact Nat.ne_of_lt (Nat.lt_succ_of_lt below)
        have hSf : s.heap.objs.size ∉ [(s.heap.push { cls := .type "set", dict := none, data := .set #[] 0 (.fresh 0 0 led) }).objs.size, l] := by
          rw [up1]
          intro q
          rcases List.mem_cons.mp q with q | q
          · omega
          · exact absurd (List.mem_singleton.mp q) (Nat.ne_of_gt below)
        have hval : ∀ (i : Nat) (v : Value), items[i]? = some v → ∃ t, v = .str (xs.getD i Str.empty) t := fun i v hv => SS.strs_at hi i v (by rw [Array.getElem?_toList]; exact hv)
        rw [hsz]
        refine loopStrs ((Walks.list hh3 _ l hneI items).toS) s.heap.objs.size hSf xs hsz nd (by omega) hval (items.size - 0) 0 _ rfl (Nat.zero_le _) ⟨⟨_, Heap.get?_push_size _ rfl, rfl, rfl⟩, (hl1.push _)⟩ ?hS0 ?hR
        case hS0 =>
          exact SetOf_congr ((setObjOf_fresh (knd := PySem.strKind prog w) led).setOf (Heap.get?_push_of_some _ hS) (by unfold scanBound; omega)) (fun _ => rfl) rfl
        case hR =>
          rintro ⟨h', g', d', tk', os'⟩ hm hS'
          obtain rfl : g' = s.gens := hm.gens
          obtain rfl : d' = s.drawn := hm.drawn
          obtain rfl : os' = s.os := hm.os
          show wpAny _ _ _ _ _ _
          refine wpAny_pure ?_
          show wpAny _ _ (ret Value.none) _ _ _
          refine wpAny_pure ⟨rfl, h', tk', rfl, hS', fun b o hb e => hm.heap b o (fun q => ?_) (Heap.get?_push_of_some _ (Heap.get?_push_of_some _ e))⟩
          rcases List.mem_cons.mp q with q | q
          · exact Nat.ne_of_lt hb q
          · have q := List.mem_singleton.mp q
            rw [up1] at q
            exact Nat.ne_of_lt (Nat.lt_succ_of_lt hb) q
      · cases r2 with
        | error e => exact hr2
        | ok fl2 =>
          cases fl2 with
          | ret r =>
            obtain ⟨rfl, h', tk, rfl, hS', hk'⟩ := hr2
            repeat (any_goals (first | assumption | wp_step))
            exact h _ _ hS' hk'
          | _ => exact hr2.elim
    | _ => exact hr.elim
end
section
variable {X : Cx}
def tLenSetN (K : PySem.W.Frag) (ta : TE) : TE := fun σ H Q => ta σ H fun x H1 => ∃ l, ∃ xs : List Str, x = .ref l ∧ SqL K H1 l (xs.map V.str) ∧ xs.Nodup ∧ xs.length < 64 ∧ Q (.int xs.length) H1
/-- len(set(xs)), xs a list of different texts -/
theorem pe_lenSetN {a : Expr} {ta : TE} {p p2 q pos : Pos} (hc : X.calm = true) (hg : Gl X "len") (hm : X.mg "len" = none) (hg2 : Gl X "set") (hm2 : X.mg "set" = none) (ha : PE X a ta)
    (na : starEach [a] X.env = (false, eval a X.env) :: starEach [] X.env := by rfl) : PE X (.Call (.Name "len" p) [.Call (.Name "set" p2) [a] [] q] [] pos) (tLenSetN X.K ta) := by
  refine ⟨fun pins s σ H Q I h => ?_⟩
  refine Call_ (ld_blt I hg hm boot_len (PyProof.Rows.callWith_builtin1 (PyProof.Rows.args_cons ?_ rfl) rfl rfl))
  refine Call_ (ld_blt I hg2 hm2 boot_set (PyProof.Rows.callWith_type1 (PyProof.Rows.args_cons (thn (ha.run pins s σ H _ I h) fun v s1 ⟨x, H1, I1, r1, q1⟩ => PyProof.Rows.args_nil ?_) na) na rfl))
  obtain ⟨l, xs, rfl, hq, nd, few, q1⟩ := q1
  cases r1
  obtain ⟨its, r, pl, hz⟩ := I1.list hq
  refine set_of_strs (I1.ok.hd hc) pl.isList (by simpa using strsAre_of r) nd few fun h' tk hS hk => PyProof.Rows.args_nil ?_
  obtain ⟨o, es, ep, t, ho, hex, hd, _, _, _, hf, hn⟩ := hS
  have I2 : Inv X pins σ H1 { s1 with heap := h', toks := tk } := I1.kept fun b o e => hk b o (Heap.lt_size e) e
  exact call_len_set ho hex hd hf (by rw [hn] <;> omega) ⟨.int xs.length, H1, I2.tok _, ⟨_, by rw [hn]⟩, q1⟩
end
end TK

/-! len(set(xs)) of a tuple of different texts -/
namespace TK
open PySem PySem.Spec PyProof.Rows L2
section
variable {prog : Program} {w : World} {A : Around} {E : Value → Shared → Prop} {s : Shared}
set_option maxHeartbeats 3200000 in
/-- set(xs): the place of the new set, what it holds, and that nothing else is changed -/
theorem set_of_strsT {l : Addr} {items : Array Value} {xs : List Str} {Q : Value → Shared → Prop} (hh : A.handled = none) (hl : s.heap.IsTuple l items) (hi : StrsAre items.toList xs) (nd : xs.Nodup) (few : xs.length < 64)
    (h : ∀ (h' : Heap) (tk : Nat), h'.SetOf (PySem.strKind prog w) s.heap.objs.size (seenS xs xs.length) xs.length → (∀ b o, b < s.heap.objs.size → s.heap.get? b = some o → h'.get? b = some o) → Q (.ref s.heap.objs.size) { s with heap := h', toks := tk }) :
    wpAny (model prog w) A (call (.type "set") [.ref l]) Q E s := by
  have hsz : xs.length = items.size := by rw [← StrsAre.len_eq hi, Array.length_toList]
  obtain ⟨c, tl, hmro⟩ := PySem.F.called_set.mro
  have hmade := PySem.F.called_set.made
  have hsub := PySem.F.called_set.sub
  refine wpAny_call (codeAny_of_tree ?_)
  show wpAny _ _ (callAny (.type "set") _) _ _ _
  refine wpAny_pure ⟨Code.quiet_builtin _ (by decide +kernel), codeAny_builtin PySem.F.entry_type_call ?_⟩
  rw [Around.under_plain (weight_type_call_type "set" [.ref l] []) rfl]
  have h1 := PySem.F.called_set.notType
  have h2 := PySem.F.called_set.canCreate
  have hct := PySem.F.typeCall_set_1 (.ref l)
  repeat (any_goals (first | assumption | wp_step))
  refine codeAny_mono (code_set_new_1 (.ref l) (E := E) (Q₁ := fun obj s₁ => ∃ led : Bool, obj = .ref s.heap.objs.size ∧ s₁ = { s with heap := s.heap.push { cls := .type "set", dict := none, data := .set #[] 0 (.fresh 0 0 led) } }) fun led => ⟨led, rfl, rfl⟩) fun r s1 hr => ?_
  cases r with
  | error e => exact hr
  | ok fl =>
    cases fl with
    | ret obj =>
      obtain ⟨led, rfl, rfl⟩ := hr
      have hS := Heap.get?_push_size s.heap (o := ({ cls := .type "set", dict := none, data := .set #[] 0 (.fresh 0 0 led) } : Obj)) rfl
      have hT : Shared.TypeIs { s with heap := s.heap.push { cls := .type "set", dict := none, data := .set #[] 0 (.fresh 0 0 led) } } (.ref s.heap.objs.size) "set" := ⟨_, hS, rfl⟩
      have hli := PySem.F.called_set.init.lookup
      have hbi := PySem.F.called_set.init.bind (.ref s.heap.objs.size)
      repeat (any_goals (first | assumption | wp_step))
      refine codeAny_mono (codeAny_call_builtin (R := wants (fun r s2 => r = .none ∧ ∃ h' tk, s2 = { s with heap := h', toks := tk } ∧ h'.SetOf (PySem.strKind prog w) s.heap.objs.size (seenS xs xs.length) xs.length ∧ (∀ b o, b < s.heap.objs.size → s.heap.get? b = some o → h'.get? b = some o)) E)
        PySem.F.called_set.init.plain PySem.F.entry_set_init (check_set_init_1 hT ?_)) fun r2 s2 hr2 => ?_
      · obtain ⟨⟨lcls, ldict, ldata, lslots⟩, hol, hcl, nl, hdl⟩ := hl
        simp only at hcl hdl
        subst hcl; subst hdl
        have hol2 := Heap.get?_push_of_some ({ cls := .type "set", dict := none, data := .set #[] 0 (.fresh 0 0 led) } : Obj) hol
        have hsls := PySem.F.sub_tuple_set
        have hslf := PySem.F.sub_tuple_frozenset
        have hne : (Value.type "tuple" == Value.type "dict") = false := by decide
        have hl1 : (s.heap.push { cls := .type "set", dict := none, data := .set #[] 0 (.fresh 0 0 led) }).IsTuple l items := ⟨_, hol2, rfl, nl, rfl⟩
        unfold Builtin.«set.__init__» noKeywords Builtin.Frozenset.updateFrom
        generalize hPI : pyIter = PI
        wp_walk
        subst hPI
        refine wpAny_pyIter_tuple hl1 (wpAny_bind (wpAny_runValue ?_))
        have below : l < s.heap.objs.size := Heap.lt_size hol
        have hh3 : A.in1.in1.in1.handled = none := by simp [hh]
        have up1 : (s.heap.push { cls := .type "set", dict := none, data := .set #[] 0 (.fresh 0 0 led) }).objs.size = s.heap.objs.size + 1 := Heap.size_push _ _
        have hneI : l ≠ (s.heap.push { cls := .type "set", dict := none, data := .set #[] 0 (.fresh 0 0 led) }).objs.size := by rw [up1]; exact Nat.ne_of_lt (Nat.lt_succ_of_lt below)
        have hSf : s.heap.objs.size ∉ [(s.heap.push { cls := .type "set", dict := none, data := .set #[] 0 (.fresh 0 0 led) }).objs.size, l] := by
          rw [up1]
          intro q
          rcases List.mem_cons.mp q with q | q
          · omega
          · exact absurd (List.mem_singleton.mp q) (Nat.ne_of_gt below)
        have hval : ∀ (i : Nat) (v : Value), items[i]? = some v → ∃ t, v = .str (xs.getD i Str.empty) t := fun i v hv => SS.strs_at hi i v (by rw [Array.getElem?_toList]; exact hv)
        rw [hsz]
        refine loopStrs ((Walks.tuple hh3 _ l hneI items).toS) s.heap.objs.size hSf xs hsz nd (by omega) hval (items.size - 0) 0 _ rfl (Nat.zero_le _) ⟨⟨_, Heap.get?_push_size _ rfl, rfl, rfl⟩, (hl1.push _)⟩ ?hS0 ?hR
        case hS0 =>
          exact SetOf_congr ((setObjOf_fresh (knd := PySem.strKind prog w) led).setOf (Heap.get?_push_of_some _ hS) (by unfold scanBound; omega)) (fun _ => rfl) rfl
        case hR =>
          rintro ⟨h', g', d', tk', os'⟩ hm hS'
          obtain rfl : g' = s.gens := hm.gens
          obtain rfl : d' = s.drawn := hm.drawn
          obtain rfl : os' = s.os := hm.os
          show wpAny _ _ _ _ _ _
          refine wpAny_pure ?_
          show wpAny _ _ (ret Value.none) _ _ _
          refine wpAny_pure ⟨rfl, h', tk', rfl, hS', fun b o hb e => hm.heap b o (fun q => ?_) (Heap.get?_push_of_some _ (Heap.get?_push_of_some _ e))⟩
          rcases List.mem_cons.mp q with q | q
          · exact Nat.ne_of_lt hb q
          · have q := List.mem_singleton.mp q
            rw [up1] at q
            exact Nat.ne_of_lt (Nat.lt_succ_of_lt hb) q
      · cases r2 with
        | error e => exact hr2
        | ok fl2 =>
          cases fl2 with
          | ret r =>
            obtain ⟨rfl, h', tk, rfl, hS', hk'⟩ := hr2
            repeat (any_goals (first | assumption | wp_step))
            exact h _ _ hS' hk'
          | _ => exact hr2.elim
    | _ => exact hr.elim
end
section
variable {X : Cx}
def tLenSetT (K : PySem.W.Frag) (ta : TE) : TE := fun σ H Q => ta σ H fun x H1 => ∃ l, ∃ xs : List Str, x = .ref l ∧ SqT K H1 l (xs.map V.str) ∧ xs.Nodup ∧ xs.length < 64 ∧ Q (.int xs.length) H1
/-- len(set(xs)), xs a list of different texts -/
theorem pe_lenSetT {a : Expr} {ta : TE} {p p2 q pos : Pos} (hc : X.calm = true) (hg : Gl X "len") (hm : X.mg "len" = none) (hg2 : Gl X "set") (hm2 : X.mg "set" = none) (ha : PE X a ta)
    (na : starEach [a] X.env = (false, eval a X.env) :: starEach [] X.env := by rfl) : PE X (.Call (.Name "len" p) [.Call (.Name "set" p2) [a] [] q] [] pos) (tLenSetT X.K ta) := by
  refine ⟨fun pins s σ H Q I h => ?_⟩
  refine Call_ (ld_blt I hg hm boot_len (PyProof.Rows.callWith_builtin1 (PyProof.Rows.args_cons ?_ rfl) rfl rfl))
  refine Call_ (ld_blt I hg2 hm2 boot_set (PyProof.Rows.callWith_type1 (PyProof.Rows.args_cons (thn (ha.run pins s σ H _ I h) fun v s1 ⟨x, H1, I1, r1, q1⟩ => PyProof.Rows.args_nil ?_) na) na rfl))
  obtain ⟨l, xs, rfl, hq, nd, few, q1⟩ := q1
  cases r1
  obtain ⟨its, r, pl, hz⟩ := I1.tuple hq
  refine set_of_strsT (I1.ok.hd hc) pl (by simpa using strsAre_of r) nd few fun h' tk hS hk => PyProof.Rows.args_nil ?_
  obtain ⟨o, es, ep, t, ho, hex, hd, _, _, _, hf, hn⟩ := hS
  have I2 : Inv X pins σ H1 { s1 with heap := h', toks := tk } := I1.kept fun b o e => hk b o (Heap.lt_size e) e
  exact call_len_set ho hex hd hf (by rw [hn] <;> omega) ⟨.int xs.length, H1, I2.tok _, ⟨_, by rw [hn]⟩, q1⟩
end
end TK

/-! sorted(l), l a list of tuples of ints of any lengths -/
namespace TLS
open PySem PySem.W PySem.Calls PyProof.Rows SrtO
/-- v is a tuple that holds these numbers -/
def IsTI (h : Heap) (v : Value) (ns : List Int) : Prop := ∃ (a : Addr) (o : Obj) (items : Array Value) (n : Nat), v = .ref a ∧ h.get? a = some o ∧ o.cls = .type "tuple" ∧ o.data = .seq items n ∧ IntsAre items.toList ns
theorem IsTI.keeps {h h' : Heap} {v : Value} {ns : List Int} (x : IsTI h v ns) (k : ∀ b o, v = .ref b → h.get? b = some o → h'.get? b = some o) : IsTI h' v ns := by
  obtain ⟨a, o, items, n, e, g, c, d, i⟩ := x
  exact ⟨a, o, items, n, e, k _ _ e g, c, d, i⟩
theorem IsTI.type {M : Model} {h : Heap} {v : Value} {ns : List Int} (x : IsTI h v ns) : Looks M h (typeOf v) (.type "tuple") := by
  obtain ⟨a, o, items, n, rfl, g, c, d, i⟩ := x
  exact c ▸ (Looks.ld g).andThen .now
section
variable {prog : Program} {w : World} {A : Around} {E : Value → Shared → Prop} {s : Shared}
/-- place by place -/
theorem lex_go (fin : Bool) {Q : Bool → Shared → Prop} : ∀ (vs ws : List Value) (ns ms : List Int) (i : Nat), IntsAre vs ns → IntsAre ws ms → fin = decide (ns.length < ms.length) → Q (HT.lexLt ns ms) s → KatLex prog w A true fin Q (vs.zip ws) i s := by
  intro vs
  induction vs with
  | nil =>
    intro ws ns ms i h1 h2 hf hq
    cases h1
    refine kat_nil ?_
    cases h2 with
    | nil => rw [hf]; rw [HT.lexLt_nil_nil] at hq; exact hq
    | cons c u h2 => rw [hf]; rw [HT.lexLt_nil_cons] at hq; rw [decide_eq_true (by simp)]; exact hq
  | cons v vs ih =>
    intro ws ns ms i h1 h2 hf hq
    cases h1 with
    | cons a t h1 =>
      cases h2 with
      | nil =>
        refine kat_nil ?_
        rw [hf]; rw [HT.lexLt_cons_nil] at hq; rw [decide_eq_false (by simp)]; exact hq
      | cons c u h2 =>
        rw [HT.lexLt_cons] at hq
        refine kat_cons (SeqAt.EqAt.int_int a t c u prog w _ _ ?_)
        refine kat_go (fun e1 => ?_) (fun e1 => ?_)
        · have ex : a = c := by simpa using e1
          rw [if_pos ex] at hq
          exact kat_yes (ih _ _ _ _ h1 h2 (by rw [hf]; simp) hq)
        · have ex : ¬ a = c := by simpa using e1
          rw [if_neg ex] at hq
          exact kat_no (TS.oneLt_ints _ hq)
theorem lt_tuples {v u : Value} {ns ms : List Int} {Q : Bool → Shared → Prop} (hv : IsTI s.heap v ns) (hw : IsTI s.heap u ms) (h : Q (HT.lexLt ns ms) s) : wpAny (model prog w) A (keyLt' (tuples' true) v u) Q E s := by
  obtain ⟨a, o, items, n, rfl, g, c, d, i⟩ := hv
  obtain ⟨a', o', items', n', rfl, g', c', d', i'⟩ := hw
  refine kat_lt g d g' d' (lex_go _ _ _ ns ms 0 i i' ?_ h)
  have z1 : items.size = ns.length := by rw [← i.length]; simp
  have z2 : items'.size = ms.length := by rw [← i'.length]; simp
  rw [z1, z2]
theorem lt_general {v u : Value} {ns ms : List Int} {Q : Bool → Shared → Prop} (hu : A.units < cLine) (hv : IsTI s.heap v ns) (hw : IsTI s.heap u ms) (h : Q (HT.lexLt ns ms) s) : wpAny (model prog w) A (oneLt' false v u) Q E s := by
  obtain ⟨a, o, items, n, rfl, g, c, d, i⟩ := hv
  obtain ⟨a', o', items', n', rfl, g', c', d', i'⟩ := hw
  refine kat_one _ _ (HT.lt_tupInts (l := a) (b := a') ⟨o, g, c, n, d⟩ ⟨o', g', c', n', d'⟩ i i' hu ?_)
  exact h
theorem call_ltT {a b : Addr} {dd dd2 : Option Addr} {items items2 : Array Value} {n n2 : Nat} {sl sl2 : Array (Option Value)} {ns ms : List Int} {Q : Value → Shared → Prop} (ga : s.heap.get? a = some { cls := .type "tuple", dict := dd, data := .seq items n, slots := sl })
    (gb : s.heap.get? b = some { cls := .type "tuple", dict := dd2, data := .seq items2 n2, slots := sl2 }) (ia : IntsAre items.toList ns) (ib : IntsAre items2.toList ms) (h : Q (.bool (HT.lexLt ns ms)) s) : wpAny (model prog w) A (call (.builtin "tuple.__lt__") [.ref a, .ref b]) Q E s := by
  refine wpAny_call (codeAny_call_builtin PySem.F.slot_tuple_lt.plain PySem.F.entry_tuple_lt (PySem.F.slot_tuple_lt.check _ _ _ _ _ _ _ _ ⟨_, ga, rfl⟩ (PySem.F.args_tuple_lt_2 _ _) ?_))
  refine wpAny_mono (HT.tuple_lt_ints a b items items2 n n2 dd dd2 sl sl2 ns ms ia ib prog w _ (wants Q E) s ⟨ga, gb, h⟩) (fun fin s' q => ?_) fun _ _ z => z
  cases fin with
  | done f => exact q
  | again c => exact q
theorem lt_one {v u : Value} {ns ms : List Int} {Q : Bool → Shared → Prop} (hu : A.units < cLine) (hv : IsTI s.heap v ns) (hw : IsTI s.heap u ms) (h : Q (HT.lexLt ns ms) s) : wpAny (model prog w) A (keyLt' oneType' v u) Q E s := by
  have tv : Looks (model prog w) s.heap (typeOf v) (.type "tuple") := hv.type
  have sp : Looks (model prog w) s.heap (specialOf v "__lt__") (some (.builtin "tuple.__lt__")) := tv.andThen (by
    show Looks _ _ (typeLookup (.type "tuple") (cmpInfo .Lt).2.1) _
    rw [PySem.F.slot_tuple_lt.lookup]
    exact .now)
  obtain ⟨a, o, items, n, rfl, g, c, d, i⟩ := hv
  obtain ⟨a', o', items', n', rfl, g', c', d', i'⟩ := hw
  obtain ⟨cls, dd, data, sl⟩ := o
  obtain ⟨cls2, dd2, data2, sl2⟩ := o'
  simp only at c d c' d'
  subst c d c' d'
  rw [keyLt'_oneType, oneLt'_eq]
  simp only [if_true]
  refine wpAny_bind (wpAny_cRoomFor hu ?_)
  refine wpAny_bind (NtL.csib (E := E) sp (PySem.F.slot_tuple_lt.bind _) (call_ltT g g' i i' ?_))
  exact wpAny_truthy_bool h
/-- what stands first in each -/
def firstsO (h : Heap) : List Value → List (Option Value) → Prop
  | [], [] => True
  | v :: vs, f :: fs => (∃ a o xs n, v = .ref a ∧ h.get? a = some o ∧ o.cls = .type "tuple" ∧ o.data = .seq xs n ∧ xs[0]? = f) ∧ firstsO h vs fs
  | _, _ => False
theorem firsts_walk {M : Model} : ∀ (vs : List Value) (fs : List (Option Value)) {Q : List (Option Value) → Shared → Prop}, firstsO s.heap vs fs → Q fs s → wpAny M A (vs.mapM firstOfTuple') Q E s
  | [], [], _, _, h => by rw [List.mapM_nil]; exact wpAny_pure h
  | [], _ :: _, _, t, _ => t.elim
  | _ :: _, [], _, t, _ => t.elim
  | v :: vs, f :: fs, Q, t, h => by
    obtain ⟨⟨a, o, xs, n, rfl, ho, hc, hd, hf⟩, t⟩ := t
    rw [List.mapM_cons]
    refine wpAny_bind ?_
    rw [kas_first_eq]
    refine wpAny_bind (Looks.here (show Looks M s.heap (typeOf (.ref a)) o.cls from (Looks.ld ho).andThen .now) ?_)
    rw [hc, if_neg (by first | decide | simp)]
    refine wpAny_bind (listItems_at ho hd (wpAny_pure ?_))
    rw [hf]
    exact wpAny_bind (firsts_walk vs fs (Q := fun bs s' => wpAny M A (pure (f :: bs)) Q E s') t (wpAny_pure h))
theorem firstsO_of {k : Value → List Int} : ∀ {vs : List Value}, (∀ v ∈ vs, IsTI s.heap v (k v)) → ∃ fs, firstsO s.heap vs fs ∧ fs.length = vs.length ∧ (∀ (i : Nat) v, vs[i]? = some v → ∃ f, fs[i]? = some f ∧ (f.isSome = true ↔ k v ≠ [])) ∧ ∀ f ∈ fs, ∀ u, f = some u → ∃ x t, u = Value.int x t
  | [], _ => ⟨[], trivial, rfl, fun _ _ h => (nomatch h), fun _ h => nomatch h⟩
  | v :: vs, h => by
    obtain ⟨fs, h1, h2, h3, h4⟩ := firstsO_of (vs := vs) fun u m => h u (List.mem_cons_of_mem _ m)
    obtain ⟨a, o, items, n, e, g, c, d, i⟩ := h v List.mem_cons_self
    have key : (items[0]?.isSome = true ↔ k v ≠ []) ∧ ∀ u, items[0]? = some u → ∃ x t, u = Value.int x t := by
      obtain ⟨its⟩ := items
      generalize k v = ns at i ⊢
      cases i with
      | nil => simp
      | cons x t r => simp
    refine ⟨items[0]? :: fs, ⟨⟨a, o, items, n, e, g, c, d, rfl⟩, h1⟩, by simp [h2], fun j u hj => ?_, fun f hf u hu => ?_⟩
    · cases j with
      | zero => cases Option.some.inj hj; exact ⟨_, rfl, key.1⟩
      | succ j => exact h3 j u hj
    · rcases List.mem_cons.mp hf with rfl | hf
      · exact key.2 u hu
      · exact h4 f hf u hu
theorem kat_of {k : Value → List Int} : ∀ {vs : List Value}, (∀ v ∈ vs, IsTI s.heap v (k v)) → (∀ v ∈ vs, k v ≠ []) → ∃ gs, KatTups s.heap vs gs ∧ gs.length = vs.length ∧ ∀ f ∈ gs, ∃ x t, f = Value.int x t
  | [], _, _ => ⟨[], .nil, rfl, fun _ h => nomatch h⟩
  | v :: vs, h, n => by
    obtain ⟨gs, h1, h2, h3⟩ := kat_of (vs := vs) (fun u m => h u (List.mem_cons_of_mem _ m)) fun u m => n u (List.mem_cons_of_mem _ m)
    obtain ⟨a, o, items, m, e, g, c, d, i⟩ := h v List.mem_cons_self
    have nv := n v List.mem_cons_self
    obtain ⟨x, t, hx⟩ : ∃ x t, items[0]? = some (Value.int x t) := by
      obtain ⟨its⟩ := items
      generalize k v = ns at i nv
      cases i with
      | nil => exact absurd rfl nv
      | cons x t r => exact ⟨x, t, by simp⟩
    subst e
    refine ⟨.int x t :: gs, .cons g c d hx h1, by simp [h2], fun f hf => ?_⟩
    rcases List.mem_cons.mp hf with rfl | hf
    · exact ⟨x, t, rfl⟩
    · exact h3 f hf
theorem ti_sortable {a : Addr} {vs : List Value} {k : Value → List Int} (h0 : 0 < vs.length) (hu : A.units < cLine) (hp : ∀ v ∈ vs, IsTI s.heap v (k v)) (ha : ∀ o, s.heap.get? a = some o → o.cls ≠ .type "tuple") : SortableO prog w A s a vs fun v u => HT.lexLt (k v) (k u) := by
  intro h' keep
  have hp' : ∀ v ∈ vs, IsTI h' v (k v) := fun v hm => by
    obtain ⟨b, o, items, n, e, g, c, d, i⟩ := hp v hm
    exact ⟨b, o, items, n, e, keep b o (fun z => by subst z; exact ha o g c) g, c, d, i⟩
  by_cases all : ∀ v ∈ vs, k v ≠ []
  · obtain ⟨gs, h1, h2, h3⟩ := kat_of (s := { s with heap := h' }) hp' all
    refine ⟨tuples' true, fun Q E hq => ?_, fun p q hm hm' => lt_tuples (s := { s with heap := h' }) (hp' _ hm) (hp' _ hm') ⟨rfl, rfl⟩⟩
    refine PySem.W.kat_kind (T := .type "int") h1 (by omega) (fun f hm => ?_) (by rfl) ?_
    · obtain ⟨x, t, rfl⟩ := h3 f hm
      exact PySem.W.Looks.now
    · have e : (Value.type "int" != Value.type "tuple") = true := by first | decide +kernel | rfl | decide
      rw [e]
      exact hq
  · obtain ⟨fs, h1, h2, h3, h4⟩ := firstsO_of (s := { s with heap := h' }) hp'
    have hno : (fs.toArray.all fun x => x.isSome) = false := by
      rw [List.all_toArray]
      cases e : fs.all (fun x => x.isSome) with
      | false => rfl
      | true =>
        refine absurd (fun v hm => ?_) all
        obtain ⟨j, hj⟩ := List.getElem?_of_mem hm
        obtain ⟨f, hf, hi⟩ := h3 j v hj
        exact hi.mp (List.all_eq_true.mp e f (List.mem_of_getElem? hf))
    by_cases hd : (fs.toArray[0]?.bind id).isSome = true
    · refine ⟨general', fun Q E hq => ?_, fun p q hm hm' => ?_⟩
      · rw [kat_kind_eq, List.mapM_toArray, map_eq_pure_bind]
        refine wpAny_bind (wpAny_bind (firsts_walk vs fs h1 (wpAny_pure ?_)))
        rw [if_neg (by rw [hno]; decide), if_pos hd]
        exact wpAny_pure hq
      · show wpAny _ _ (oneLt' false p.1 q.1) _ _ _
        exact lt_general (s := { s with heap := h' }) hu (hp' _ hm) (hp' _ hm') ⟨rfl, rfl⟩
    · refine ⟨oneType', fun Q E hq => ?_, fun p q hm hm' => lt_one (s := { s with heap := h' }) hu (hp' _ hm) (hp' _ hm') ⟨rfl, rfl⟩⟩
      rw [kat_kind_eq, List.mapM_toArray, map_eq_pure_bind]
      refine wpAny_bind (wpAny_bind (firsts_walk vs fs h1 (wpAny_pure ?_)))
      rw [if_neg (by rw [hno]; decide), if_neg hd]
      rw [oneTypeOnly'_eq, List.mapM_toArray, map_eq_pure_bind]
      refine wpAny_bind (wpAny_bind (wpAny_bind (kas_mapM (r := Value.type "tuple") _ (fun v hv Q' hq' => ((hp' v hv).type (M := model prog w)).here hq') (wpAny_pure ?_))))
      obtain ⟨v1, rest, rfl⟩ : ∃ v1 rest, vs = v1 :: rest := by
        match vs, h0 with
        | v1 :: rest, _ => exact ⟨v1, rest, rfl⟩
      have hall : ((List.map (fun _ => Value.type "tuple") (v1 :: rest)).toArray.all fun x => x == Value.type "tuple") = true := by
        simp only [List.all_toArray, List.all_map, List.all_eq_true]
        intro _ _
        rfl
      have h00 : (List.map (fun _ => Value.type "tuple") (v1 :: rest)).toArray[0]? = some (Value.type "tuple") := by simp
      rw [h00]
      simp only [hall, if_true]
      exact wpAny_pure (wpAny_pure hq)
theorem sorted_ti {l : Addr} {vs : List Value} {k : Value → List Int} {Q : Value → Shared → Prop} (hu : A.units + 64 < cLine) (hl : s.heap.IsList l vs.toArray) (hz : vs.length ≤ sizeLine) (hp : ∀ v ∈ vs, IsTI s.heap v (k v))
    (h : ∀ (h' : Heap) (d : Addr) (out : List Value), Srtd (fun v u => HT.lexLt (k v) (k u)) out → Stb (fun v u => HT.lexLt (k v) (k u)) out vs → (∀ b o, s.heap.get? b = some o → h'.get? b = some o) → s.heap.objs.size ≤ d → (∃ n, h'.get? d = some (seqObj "list" out.toArray n)) → Q (.ref d) { s with heap := h' }) :
    wpAny (model prog w) A (call (.builtin "sorted") [.ref l]) Q E s := by
  refine sorted_ord (NtL.swo_lexL k) hl hz (fun h2 h₁ a ha kk => ?_) fun out hs hb => ?_
  · refine ti_sortable (s := { s with heap := h₁ }) (by omega) (by show A.units + 1 + 1 < cLine; omega) (fun v hm => (hp v hm).keeps fun b o _ e => (kk b o e).2) fun o e => ?_
    have e' : some o = some (seqObj "list" vs.toArray 0) := e.symm.trans ha
    cases e'
    intro c
    exact absurd (Value.type.inj c) (by decide)
  · exact h _ _ out hs hb (fun b o e => sortedAll_old e) (Nat.le_succ _) (sortedAll_at s.heap vs out.toArray)
end
end TLS
namespace TK
open PySem PySem.Spec PyProof.Rows L2
theorem ints_are : ∀ {ns : List Int} {us : List Value}, Vals (ns.map V.int) us → IntsAre us ns
  | [], us, r => by
    rw [List.map_nil] at r
    cases r
    exact .nil
  | n :: ns, us, r => by
    rw [List.map_cons] at r
    cases r with
    | cons h q =>
      obtain ⟨t, rfl⟩ := h
      exact .cons n t (ints_are q)
abbrev ltL (k : V → List Int) (x y : V) : Bool := HT.lexLt (k x) (k y)
/-- sorted(l), l a list of tuples of ints of any lengths (k says which): a new list, sorted, equal ones in their order -/
def rSortedTI (K : PySem.W.Frag) : List V → Hp → VK → Prop := fun vs H Q => ∃ (a : Addr) (xs : List V) (k : V → List Int), vs = [V.ref a] ∧ SqL K H a xs ∧ (∀ x ∈ xs, ∃ t, x = V.ref t ∧ H t = some (.tup ((k x).map V.int))) ∧
  ∀ ys p, SrtO.Srtd (ltL k) ys → SrtO.Stb (ltL k) ys xs → H p = none → Q (.ref p) (upd H p (.lst ys))
section
variable {X : Cx}
theorem call_sortedTI (hu : X.A.units + 64 < cLine) : CallR X (.builtin "sorted") (rSortedTI X.K) := by
  intro pins s σ H vs us Q I r h
  obtain ⟨a, xs, k, rfl, hs, hx, q⟩ := h
  obtain ⟨its, rv, hl, hz⟩ := I.list hs
  obtain ⟨u, rfl, ru⟩ := vals1 r
  obtain rfl : u = Value.ref a := ru
  obtain ⟨e1, e2⟩ := refs_back rv fun x m => by
    obtain ⟨t, e, _⟩ := hx x m
    exact ⟨t, e⟩
  refine TLS.sorted_ti (k := fun u => k (backV u)) hu hl.isList (by rw [← rv.length]; exact hz) (fun v hv => ?_) fun h' d out h1 h2 kp hd hn => ?_
  · obtain ⟨t, rfl⟩ := e2 v hv
    have hm : V.ref t ∈ xs := by rw [e1]; exact List.mem_map.mpr ⟨_, hv, rfl⟩
    obtain ⟨t', e, ht⟩ := hx _ hm
    cases e
    obtain ⟨_, its2, r2, o, ho, hc, n, hd⟩ := I.hok _ _ ht
    exact ⟨t, o, _, n, rfl, ho, hc, hd, by show IntsAre _ (k (V.ref t)); simpa using ints_are r2⟩
  · have h3 : ∀ u ∈ out, ∃ a, u = Value.ref a := fun u hu => e2 u (h2.perm.mem_iff.mp hu)
    obtain ⟨n, hn⟩ := hn
    have hb : SrtO.Stb (ltL k) (out.map backV) xs := by
      rw [e1]
      exact SrtO.Stb.map (NtL.swo_lexL k) backV h2
    refine ⟨.ref d, upd H d (.lst (out.map backV)), I.laid (t' := s.toks) kp hd ⟨?_, out, n, vals_back h3, hn⟩, rfl, q _ d (SrtO.srtd_map h1) hb (I.hok.fresh hd)⟩
    rw [hb.len]
    exact hz
end
end TK

/-! min(t), max(t) of a tuple of ints; zip of two tuples -/
namespace TK
open PySem PySem.Spec PyProof.Rows L2
section
variable {prog : Program} {w : World} {A : Around} {E : Value → Shared → Prop} {s : Shared} {t : Addr}
theorem min_intTup {xs : Array (Int × Tok)} {Q : Value → Shared → Prop} (hh : A.handled = none) (ht : s.heap.IsTuple t (intItems xs)) (hne : 0 < xs.size)
    (h : ∀ v h' tk, (intItems xs)[argBest (fun i j => decide (numAt xs i < numAt xs j)) (xs.size - 1)]? = some v → (∀ b o, s.heap.get? b = some o → h'.get? b = some o) → Q v { s with heap := h', toks := tk }) :
    wpAny (model prog w) A (call (.builtin "min") [.ref t]) Q E s := by
  obtain ⟨o, ho, hc, n, hd⟩ := id ht
  have hne2 : t ≠ s.heap.objs.size := Nat.ne_of_lt (Heap.lt_size ho)
  refine call_min_walk (wpAny_pyIter_tuple ht ?_)
  refine ⟨s.heap.objs.size, _, _, _, _, _, _, rfl, Walks.tuple (prog := prog) (w := w) (A := A.in1) hh s.heap.objs.size t hne2 (intItems xs), ⟨⟨_, Heap.get?_push_size _ rfl, rfl, rfl⟩, ht.at fun o e => Heap.get?_push_of_some _ e⟩, fun b hb => ?_, by simpa [intItems] using hne, CmpOf.ints_lt (numAt xs) (fun _ _ => intItems_at), fun v h' tk hP hk => ?_⟩
  · rcases List.mem_cons.mp hb with rfl | hb
    · exact Heap.lt_size (Heap.get?_push_size _ rfl)
    · obtain rfl := List.mem_singleton.mp hb
      exact Heap.lt_size (Heap.get?_push_of_some _ ho)
  · exact h v h' tk (by simpa [intItems] using hP) fun b o e => hk b o (fun hb => absurd (Heap.lt_size e) ((List.mem_singleton.mp hb) ▸ Nat.lt_irrefl _)) (Heap.get?_push_of_some _ e)
theorem max_intTup {xs : Array (Int × Tok)} {Q : Value → Shared → Prop} (hh : A.handled = none) (ht : s.heap.IsTuple t (intItems xs)) (hne : 0 < xs.size)
    (h : ∀ v h' tk, (intItems xs)[argBest (fun i j => decide (numAt xs i > numAt xs j)) (xs.size - 1)]? = some v → (∀ b o, s.heap.get? b = some o → h'.get? b = some o) → Q v { s with heap := h', toks := tk }) :
    wpAny (model prog w) A (call (.builtin "max") [.ref t]) Q E s := by
  obtain ⟨o, ho, hc, n, hd⟩ := id ht
  have hne2 : t ≠ s.heap.objs.size := Nat.ne_of_lt (Heap.lt_size ho)
  refine call_max_walk (wpAny_pyIter_tuple ht ?_)
  refine ⟨s.heap.objs.size, _, _, _, _, _, _, rfl, Walks.tuple (prog := prog) (w := w) (A := A.in1) hh s.heap.objs.size t hne2 (intItems xs), ⟨⟨_, Heap.get?_push_size _ rfl, rfl, rfl⟩, ht.at fun o e => Heap.get?_push_of_some _ e⟩, fun b hb => ?_, by simpa [intItems] using hne, CmpOf.ints_gt (numAt xs) (fun _ _ => intItems_at), fun v h' tk hP hk => ?_⟩
  · rcases List.mem_cons.mp hb with rfl | hb
    · exact Heap.lt_size (Heap.get?_push_size _ rfl)
    · obtain rfl := List.mem_singleton.mp hb
      exact Heap.lt_size (Heap.get?_push_of_some _ ho)
  · exact h v h' tk (by simpa [intItems] using hP) fun b o e => hk b o (fun hb => absurd (Heap.lt_size e) ((List.mem_singleton.mp hb) ▸ Nat.lt_irrefl _)) (Heap.get?_push_of_some _ e)
end
section
variable {X : Cx}
def rMinT (K : PySem.W.Frag) : List V → Hp → VK → Prop := fun vs H Q => ∃ (a : Addr) (ns : List Int), vs = [V.ref a] ∧ SqT K H a (ns.map V.int) ∧ 0 < ns.length ∧ ∀ m, m ∈ ns → (∀ y, y ∈ ns → m ≤ y) → Q (.int m) H
def rMaxT (K : PySem.W.Frag) : List V → Hp → VK → Prop := fun vs H Q => ∃ (a : Addr) (ns : List Int), vs = [V.ref a] ∧ SqT K H a (ns.map V.int) ∧ 0 < ns.length ∧ ∀ m, m ∈ ns → (∀ y, y ∈ ns → y ≤ m) → Q (.int m) H
theorem cr_minT (hc : X.calm = true) : CallR X (.builtin "min") (rMinT X.K) := by
  intro pins s σ H vs us Q I r h
  obtain ⟨a, ns, rfl, hs, hne, q⟩ := h
  obtain ⟨itm, rv, p, _⟩ := I.tuple hs
  rw [Vals.ref1 r]
  obtain ⟨xs, e⟩ := rv.ints.allInts.items
  have hn : numsOf itm.toArray.toList = ns := rv.ints.numsOf
  rw [e, nums_intItems] at hn
  subst hn
  have hsz : 0 < xs.size := by simpa using hne
  refine min_intTup (I.ok.hd hc) (e ▸ p) hsz fun v h' tk hv hk => ?_
  obtain ⟨t, rfl⟩ := intItems_at hv
  obtain ⟨h1, h2⟩ := argBest_lt (numAt xs) (xs.size - 1)
  refine ⟨.int _, H, I.kept hk, ⟨_, rfl⟩, q _ ?_ fun a ha => ?_⟩
  · rw [numAt_eq]; exact PySem.getD_mem (by rw [List.length_map, Array.length_toList]; omega)
  · obtain ⟨j, hj, rfl⟩ := mem_getD ha
    rw [List.length_map, Array.length_toList] at hj
    rw [← numAt_eq]; exact h2 j (by omega)
theorem cr_maxT (hc : X.calm = true) : CallR X (.builtin "max") (rMaxT X.K) := by
  intro pins s σ H vs us Q I r h
  obtain ⟨a, ns, rfl, hs, hne, q⟩ := h
  obtain ⟨itm, rv, p, _⟩ := I.tuple hs
  rw [Vals.ref1 r]
  obtain ⟨xs, e⟩ := rv.ints.allInts.items
  have hn : numsOf itm.toArray.toList = ns := rv.ints.numsOf
  rw [e, nums_intItems] at hn
  subst hn
  have hsz : 0 < xs.size := by simpa using hne
  refine max_intTup (I.ok.hd hc) (e ▸ p) hsz fun v h' tk hv hk => ?_
  obtain ⟨t, rfl⟩ := intItems_at hv
  obtain ⟨h1, h2⟩ := argBest_gt (numAt xs) (xs.size - 1)
  refine ⟨.int _, H, I.kept hk, ⟨_, rfl⟩, q _ ?_ fun a ha => ?_⟩
  · rw [numAt_eq]; exact PySem.getD_mem (by rw [List.length_map, Array.length_toList]; omega)
  · obtain ⟨j, hj, rfl⟩ := mem_getD ha
    rw [List.length_map, Array.length_toList] at hj
    rw [← numAt_eq]; exact h2 j (by omega)
end
theorem walk_zipT {K : PySem.W.Frag} {a b : Addr} {xs ys : List V} (hl : xs.length = ys.length) : Walk (RZ.ItzT K a b) xs.length (fun H => SqT K H a xs ∧ SqT K H b ys) (YPair (fun i => xs[i]?) (fun i => ys[i]?)) where
  goes := fun i H hi q => ⟨xs, ys, _, _, q.1, q.2, List.getElem?_eq_getElem hi, List.getElem?_eq_getElem (hl ▸ hi)⟩
  stops := fun H q => ⟨xs, ys, q.1, q.2, .inl (Nat.le_refl _)⟩
  yields := fun i H v H' _ q y => by
    obtain ⟨T, x, z, h1, h2, h3, h4, h5⟩ := y
    exact ⟨T, x, z, h1, h2, h3, h4 xs q.1, h5 ys q.2⟩
end TK

/-! dict(zip(list, tuple)); tuple(d.values()) -/
namespace PySem
open Sem (wp)
section
variable {prog : Program} {w : World} {A : Around} {E : Value → Shared → Prop} {s : Shared} {z TI TO T i1 i2 : Addr} {fp1 fp2 : List Addr} {n1 n2 i : Nat} {P1 P2 : Nat → Value → Prop} {St1 St2 : Nat → Heap → Prop} {f : Bool} {oT : Obj}
theorem zipD2_next_item_held {Q : Value → Shared → Prop} (S : ZipSep2 z TI TO i1 i2 fp1 fp2) (D1 : Draws prog w A i1 fp1 n1 P1 St1) (D2 : Draws prog w A i2 fp2 n2 P2 St2)
    (hz : IsZipHeld s.heap z TI TO T f) (hT : s.heap.get? T = some oT) (hTI : IsTupOf2 s.heap TI (.ref i1) (.ref i2)) (st1 : St1 i s.heap) (st2 : St2 i s.heap) (hlt1 : i < n1) (hlt2 : i < n2)
    (hQ : ∀ x1 x2 h' tk, P1 i x1 → P2 i x2 → IsZipHeld h' z TI TO T true → St1 (i + 1) h' → St2 (i + 1) h' → IsTupOf2 h' s.heap.objs.size x1 x2 → h'.objs.size = s.heap.objs.size + 1 →
      (∀ c o, c ≠ z → c ≠ i1 → c ≠ i2 → s.heap.get? c = some o → h'.get? c = some o) → Q (.ref s.heap.objs.size) { s with heap := h', toks := tk }) :
    wpAny (model prog w) A (Builtin.«zip.__next__» ⟨[.ref z], []⟩) (fun fin s' => ∃ v, fin = .done (.ret v) ∧ Q v s') E s := by
  obtain ⟨hp, g, d, tk0, os⟩ := s
  show wpAny _ _ (field (.ref z) 2 >>= _) _ _ _
  refine wpAny_bind (wpAny_field hz rfl (x := .bool false) rfl ?_)
  show wpAny _ _ (field (.ref z) 3 >>= _) _ _ _
  refine wpAny_bind (wpAny_field hz rfl (x := .ref TI) rfl ?_)
  refine wpAny_bind (wpAny_seqItems hTI rfl ?_)
  show wpAny _ _ (Builtin.SmallTypes.ownedTupleIsFree (.ref z) >>= _) _ _ _
  refine wpAny_bind (wpAny_tupleHeld_zip hz hT fun g0 hz0 hs0 => ?_)
  simp only [Bool.false_eq_true, if_false]
  replace hs0 : Heap.SameBut z hp g0 := hs0
  refine wpAny_bind ?_
  rw [← Array.forIn_toList]
  simp only [List.forIn_cons, List.forIn_nil]
  refine wpAny_bind (wpAny_bind (wpAny_holding ?_))
  show wpAny _ _ (Builtin.SmallTypes.nextOf (.ref i1) >>= _) _ _ ⟨g0, g, d, tk0, os⟩
  refine wpAny_bind (D1.item i _ _ _ hlt1 (D1.over st1 hs0 S.zf1) fun x1 p1 tk1 hx1 sn1 hp1 => wpAny_pure ?_)
  replace hp1 : Heap.SameBut i1 g0 p1 := hp1
  refine wpAny_pure ?_
  refine wpAny_bind (wpAny_bind (wpAny_holding ?_))
  show wpAny _ _ (Builtin.SmallTypes.nextOf (.ref i2) >>= _) _ _ ⟨p1, g, d, tk1, os⟩
  refine wpAny_bind (D2.item i _ _ _ hlt2 (D2.over (D2.over st2 hs0 S.zf2) hp1 S.sep1_2) fun x2 p2 tk2 hx2 sn2 hp2 => wpAny_pure ?_)
  replace hp2 : Heap.SameBut i2 p1 p2 := hp2
  refine wpAny_pure (wpAny_pure ?_)
  show wpAny _ _ (newTuple [x1, x2] >>= _) _ _ _
  refine wpAny_bind (wpAny_newTuple ?_)
  have hsz : p2.objs.size = hp.objs.size := by rw [hp2.1, hp1.1, hs0.1]
  have hz3 : IsZipHeld p2 z TI TO T true := hp2.extBut _ _ S.zi2 (hp1.extBut _ _ S.zi1 hz0)
  have hk : ∀ c o, c ≠ z → c ≠ i1 → c ≠ i2 → hp.get? c = some o → p2.get? c = some o := fun c o c1 c2 c3 e => hp2.extBut _ _ c3 (hp1.extBut _ _ c2 (hs0.extBut _ _ c1 e))
  have hj1 : St1 (i + 1) p2 := D1.over sn1 hp2 S.sep2_1
  have hp' : IsTupOf2 (p2.push { cls := .type "tuple", data := .seq #[x1, x2] }) p2.objs.size x1 x2 := Heap.get?_push_size _ rfl
  have hz4 : (p2.push { cls := .type "tuple", data := .seq #[x1, x2] }).objs.size = p2.objs.size + 1 := Heap.size_push ..
  refine wpAny_pure ⟨_, rfl, ?_⟩
  show Q (.ref p2.objs.size) _
  rw [hsz] at hp' hz4 ⊢
  exact hQ x1 x2 _ tk2 hx1 hx2 (Heap.get?_push_of_some _ hz3) (D1.frame _ _ _ hj1 fun b _ o e => Heap.get?_push_of_some _ e) (D2.frame _ _ _ sn2 fun b _ o e => Heap.get?_push_of_some _ e) hp' hz4 fun c o c1 c2 c3 e => Heap.get?_push_of_some _ (hk c o c1 c2 c3 e)

theorem zipD2_next_end_held {Q : Fin → Shared → Prop} (S : ZipSep2 z TI TO i1 i2 fp1 fp2) (D1 : Draws prog w A i1 fp1 n1 P1 St1) (D2 : Draws prog w A i2 fp2 n2 P2 St2)
    (hz : IsZipHeld s.heap z TI TO T f) (hT : s.heap.get? T = some oT) (hTI : IsTupOf2 s.heap TI (.ref i1) (.ref i2)) (st1 : St1 i s.heap) (st2 : St2 i s.heap) (hle1 : i ≤ n1) (hle2 : i ≤ n2) (hend : i = n1 ∨ i = n2)
    (hE : ∀ h' tk e, (∀ c o, c ≠ z → c ≠ i1 → c ≠ i2 → s.heap.get? c = some o → h'.get? c = some o) → (∃ o, h'.get? e = some o ∧ o.cls = .type "StopIteration") → E (.ref e) { s with heap := h', toks := tk }) :
    wpAny (model prog w) A (Builtin.«zip.__next__» ⟨[.ref z], []⟩) Q E s := by
  obtain ⟨hp, g, d, tk0, os⟩ := s
  show wpAny _ _ (field (.ref z) 2 >>= _) _ _ _
  refine wpAny_bind (wpAny_field hz rfl (x := .bool false) rfl ?_)
  show wpAny _ _ (field (.ref z) 3 >>= _) _ _ _
  refine wpAny_bind (wpAny_field hz rfl (x := .ref TI) rfl ?_)
  refine wpAny_bind (wpAny_seqItems hTI rfl ?_)
  show wpAny _ _ (Builtin.SmallTypes.ownedTupleIsFree (.ref z) >>= _) _ _ _
  refine wpAny_bind (wpAny_tupleHeld_zip hz hT fun g0 hz0 hs0 => ?_)
  simp only [Bool.false_eq_true, if_false]
  replace hs0 : Heap.SameBut z hp g0 := hs0
  refine wpAny_bind ?_
  rw [← Array.forIn_toList]
  simp only [List.forIn_cons, List.forIn_nil]
  refine wpAny_bind (wpAny_bind (wpAny_holding ?_))
  show wpAny _ _ (Builtin.SmallTypes.nextOf (.ref i1) >>= _) _ _ ⟨g0, g, d, tk0, os⟩
  by_cases hlt1 : i < n1
  · refine wpAny_bind (D1.item i _ _ _ hlt1 (D1.over st1 hs0 S.zf1) fun x1 p1 tk1 hx1 sn1 hp1 => wpAny_pure ?_)
    replace hp1 : Heap.SameBut i1 g0 p1 := hp1
    refine wpAny_pure ?_
    have hi2 : i = n2 := by omega
    refine wpAny_bind (wpAny_bind (wpAny_holding ?_))
    show wpAny _ _ (Builtin.SmallTypes.nextOf (.ref i2) >>= _) _ _ ⟨p1, g, d, tk1, os⟩
    refine wpAny_bind (D2.done ⟨p1, g, d, tk1, os⟩ _ _ (by rw [← hi2]; exact (D2.over (D2.over st2 hs0 S.zf2) hp1 S.sep1_2)) fun q e hq he => ?_)
    replace hq : Heap.ExtBut i2 p1 q := hq
    exact hE q tk1 e (fun c o cz c1 c2 x => hq _ _ c2 (hp1.extBut _ _ c1 (hs0.extBut _ _ cz x))) he
  · have hi1 : i = n1 := by omega
    refine wpAny_bind (D1.done ⟨g0, g, d, tk0, os⟩ _ _ (by rw [← hi1]; exact (D1.over st1 hs0 S.zf1)) fun q e hq he => ?_)
    replace hq : Heap.ExtBut i1 g0 q := hq
    exact hE q tk0 e (fun c o cz c1 c2 x => hq _ _ c1 (hs0.extBut _ _ cz x)) he

theorem wpAny_pyNext_zipD2_item_held {Q : Option Value → Shared → Prop} (S : ZipSep2 z TI TO i1 i2 fp1 fp2) (D1 : Draws prog w A.in1 i1 fp1 n1 P1 St1) (D2 : Draws prog w A.in1 i2 fp2 n2 P2 St2)
    (hz : IsZipHeld s.heap z TI TO T f) (hT : s.heap.get? T = some oT) (hTI : IsTupOf2 s.heap TI (.ref i1) (.ref i2)) (st1 : St1 i s.heap) (st2 : St2 i s.heap) (hlt1 : i < n1) (hlt2 : i < n2)
    (hQ : ∀ x1 x2 h' tk, P1 i x1 → P2 i x2 → IsZipHeld h' z TI TO T true → St1 (i + 1) h' → St2 (i + 1) h' → IsTupOf2 h' s.heap.objs.size x1 x2 → h'.objs.size = s.heap.objs.size + 1 →
      (∀ c o, c ≠ z → c ≠ i1 → c ≠ i2 → s.heap.get? c = some o → h'.get? c = some o) → Q (some (.ref s.heap.objs.size)) { s with heap := h', toks := tk }) :
    wpAny (model prog w) A (pyNext (.ref z)) Q E s := by
  have hTy : s.TypeIs (.ref z) "zip" := ⟨_, hz, rfl⟩
  unfold pyNext
  exact wpAny_bind (wpAny_attempt (wpAny_callSpecial?_slot (name := Str.ofString "__next__") hTy F.slot_zip_next
    (wpAny_call_entry F.slot_zip_next hTy F.entry_zip_next
      (zipD2_next_item_held S D1 D2 hz hT hTI st1 st2 hlt1 hlt2 fun x1 x2 h' tk y1 y2 b1 d1 d2 b5 b6 b7 => wpAny_pure (hQ x1 x2 h' tk y1 y2 b1 d1 d2 b5 b6 b7)) (F.args_zip_next_1 _))))
theorem wpAny_pyNext_zipD2_end_held {Q : Option Value → Shared → Prop} (S : ZipSep2 z TI TO i1 i2 fp1 fp2) (D1 : Draws prog w A.in1 i1 fp1 n1 P1 St1) (D2 : Draws prog w A.in1 i2 fp2 n2 P2 St2)
    (hz : IsZipHeld s.heap z TI TO T f) (hT : s.heap.get? T = some oT) (hTI : IsTupOf2 s.heap TI (.ref i1) (.ref i2)) (st1 : St1 i s.heap) (st2 : St2 i s.heap) (hle1 : i ≤ n1) (hle2 : i ≤ n2) (hend : i = n1 ∨ i = n2)
    (hQ : ∀ h' tk, (∀ c o, c ≠ z → c ≠ i1 → c ≠ i2 → s.heap.get? c = some o → h'.get? c = some o) → Q none { s with heap := h', toks := tk }) : wpAny (model prog w) A (pyNext (.ref z)) Q E s := by
  have hTy : s.TypeIs (.ref z) "zip" := ⟨_, hz, rfl⟩
  unfold pyNext
  refine wpAny_bind (wpAny_attempt (wpAny_callSpecial?_slot (name := Str.ofString "__next__") hTy F.slot_zip_next
    (wpAny_call_entry F.slot_zip_next hTy F.entry_zip_next (zipD2_next_end_held S D1 D2 hz hT hTI st1 st2 hle1 hle2 hend fun h' tk e hk he => ?_) (F.args_zip_next_1 _))))
  obtain ⟨o, ho, hc⟩ := he
  refine wpAny_bind (wpAny_isInstance (T := "StopIteration") (b := true) ⟨o, ho, hc⟩ isSubtype_stop ?_)
  exact wpAny_pure (hQ _ _ hk)
end
/-- zip of a list and a tuple, as the argument of dict() -/
theorem PairArg.zipLT {prog : Program} {w : World} (z TI TO i1 i2 l1 l2 : Addr) (S : ZipSep2 z TI TO i1 i2 [i1, l1] [i2, l2]) (n1 : l1 ≠ i1) (n2 : l2 ≠ i2) (m1 : l1 ≠ z) (m2 : l2 ≠ z) (m3 : l1 ≠ i2) (m4 : l2 ≠ i1) (m5 : l1 ≠ TO) (m6 : l2 ≠ TO) (xs ys : Array Value) (hxy : xs.size = ys.size) :
    PairArg prog w "zip" z [z, TI, TO, i1, i2, l1, l2] [z, TO, i1, i2] xs.size (fun i k v => xs[i]? = some k ∧ ys[i]? = some v)
      (fun h => IsZip h z TI TO .none ∧ IsTupOf2 h TI (.ref i1) (.ref i2) ∧ (∃ a b, IsTupOf2 h TO a b) ∧ (h.IsListIter i1 l1 0 ∧ h.IsList l1 xs) ∧ (h.IsTupleIter i2 l2 0 ∧ h.IsTuple l2 ys)) where
  type := fun s ok => ⟨_, ok.1, rfl⟩
  notDict := by decide
  keep := fun h h' ok hk => by
    obtain ⟨hz, hTI, ⟨a, b, hTO⟩, ⟨h1, hl1⟩, h2, hl2⟩ := ok
    exact ⟨hk _ _ hz, hk _ _ hTI, ⟨a, b, hk _ _ hTO⟩, ⟨h1.at fun o e => hk _ o e, hl1.at fun o e => hk _ o e⟩, h2.at fun o e => hk _ o e, hl2.at fun o e => hk _ o e⟩
  there := fun h ok b hb => by
    obtain ⟨hz, hTI, ⟨a, c, hTO⟩, ⟨⟨o1, h1, _⟩, ⟨o3, hl1, _⟩⟩, ⟨o2, h2, _⟩, ⟨o4, hl2, _⟩⟩ := ok
    simp only [List.mem_cons, List.not_mem_nil, or_false] at hb
    rcases hb with rfl | rfl | rfl | rfl | rfl | rfl | rfl
    all_goals first | exact ⟨_, hz⟩ | exact ⟨_, hTI⟩ | exact ⟨_, hTO⟩ | exact ⟨_, h1⟩ | exact ⟨_, h2⟩ | exact ⟨_, hl1⟩ | exact ⟨_, hl2⟩
  sub := fun b hb => by simp at hb ⊢; rcases hb with rfl | rfl | rfl | rfl <;> simp
  noKeys := fun A s Q E hA ok h => getAttrOr_miss_zip ok.1 rfl rfl rfl zip_no_keys (by decide +kernel) hA h
  iter := fun A s d Q E hA ok hd hdf h => by
    obtain ⟨hz, hTI, ⟨a, b, hTO⟩, h1, h2⟩ := ok
    simp only [List.mem_cons, List.not_mem_nil, or_false, not_or] at hdf
    obtain ⟨dz, dTI, dTO, di1, di2, dl1, dl2⟩ := hdf
    have D1 := Draws.list (prog := prog) (w := w) (A := A.in1) hA i1 l1 n1 xs
    have D2 := Draws.tuple (prog := prog) (w := w) (A := A.in1) hA i2 l2 n2 ys
    refine wpAny_pyIter_zip hz (h z [z, TO, i1, i2] (fun i h => IsTupOf2 h TI (.ref i1) (.ref i2) ∧ (h.IsListIter i1 l1 i ∧ h.IsList l1 xs) ∧ (h.IsTupleIter i2 l2 i ∧ h.IsTuple l2 ys) ∧
      ((IsZip h z TI TO .none ∧ ∃ a b, IsTupOf2 h TO a b) ∨ ∃ T f oT, IsZipHeld h z TI TO T f ∧ h.get? T = some oT ∧ T ≠ z ∧ T ≠ i1 ∧ T ≠ i2 ∧ T ≠ d)) s.heap s.toks ?_
      ⟨hTI, h1, h2, .inl ⟨hz, a, b, hTO⟩⟩ (fun _ _ e => e) fun b hb => .inl hb)
    exact {
      off := fun hm => by
        simp only [List.mem_cons, List.not_mem_nil, or_false] at hm
        rcases hm with e | e | e | e
        · exact dz e
        · exact dTO e
        · exact di1 e
        · exact di2 e
      frame := fun i h₁ h₂ st hk => by
        obtain ⟨hTI, ⟨h1, hl1⟩, ⟨h2, hl2⟩, hz⟩ := st
        refine ⟨hk _ _ (Ne.symm dTI) hTI, ⟨h1.at fun o e => hk _ o (Ne.symm di1) e, hl1.at fun o e => hk _ o (Ne.symm dl1) e⟩, ⟨h2.at fun o e => hk _ o (Ne.symm di2) e, hl2.at fun o e => hk _ o (Ne.symm dl2) e⟩, ?_⟩
        rcases hz with ⟨hz, a, b, hTO⟩ | ⟨T, f, oT, hz, hT, r1, r2, r3, r4⟩
        · exact .inl ⟨hk _ _ (Ne.symm dz) hz, a, b, hk _ _ (Ne.symm dTO) hTO⟩
        · exact .inr ⟨T, f, oT, hk _ _ (Ne.symm dz) hz, hk _ _ r4 hT, r1, r2, r3, r4⟩
      item := fun i s₁ Q₁ E₁ hi st hds hQ => by
        obtain ⟨hTI, h1, h2, hz⟩ := st
        have lt : ∀ {c o}, s₁.heap.get? c = some o → s₁.heap.objs.size ≠ c := fun e => Nat.ne_of_gt (Heap.lt_size e)
        have n1 : s₁.heap.objs.size ≠ i1 := let ⟨_, e, _⟩ := h1.1; lt e
        have n2 : s₁.heap.objs.size ≠ i2 := let ⟨_, e, _⟩ := h2.1; lt e
        rcases hz with ⟨hz, a, b, hTO⟩ | ⟨T, f, oT, hz, hT, r1, r2, r3, r4⟩
        · refine wpAny_pyNext_zipD2_item S D1 D2 hz hTI hTO h1 h2 hi (by omega) fun x1 x2 h' tk e1 e2 a1 a2 a3 a4 a5 a6 hk => ?_
          exact hQ s₁.heap.objs.size _ _ h' tk ⟨e1, e2⟩ (.inl ⟨_, a5, rfl, _, rfl⟩)
            ⟨hk _ _ S.TIz S.TITO S.TIi1 S.TIi2 hTI, a3, a4, .inr ⟨s₁.heap.objs.size, false, _, a1, a5, lt hz, n1, n2, Nat.ne_of_gt hds⟩⟩
            fun c o hc e => hk c o (fun x => hc (by simp [x])) (fun x => hc (by simp [x])) (fun x => hc (by simp [x])) (fun x => hc (by simp [x])) e
        · refine wpAny_pyNext_zipD2_item_held S D1 D2 hz hT hTI h1 h2 hi (by omega) fun x1 x2 h' tk e1 e2 a1 a3 a4 a5 a6 hk => ?_
          exact hQ s₁.heap.objs.size _ _ h' tk ⟨e1, e2⟩ (.inl ⟨_, a5, rfl, _, rfl⟩)
            ⟨hk _ _ S.TIz S.TIi1 S.TIi2 hTI, a3, a4, .inr ⟨T, true, oT, a1, hk _ _ r1 r2 r3 hT, r1, r2, r3, r4⟩⟩
            fun c o hc e => hk c o (fun x => hc (by simp [x])) (fun x => hc (by simp [x])) (fun x => hc (by simp [x])) e
      done := fun s₁ Q₁ E₁ st hQ => by
        obtain ⟨hTI, h1, h2, hz⟩ := st
        rcases hz with ⟨hz, a, b, hTO⟩ | ⟨T, f, oT, hz, hT, r1, r2, r3, r4⟩
        · exact wpAny_pyNext_zipD2_end S D1 D2 hz hTI hTO h1 h2 (Nat.le_refl _) (by omega) (.inl rfl) fun h' tk hk => hQ h' tk fun c o hc e => hk c o (fun x => hc (by simp [x])) (fun x => hc (by simp [x])) (fun x => hc (by simp [x])) (fun x => hc (by simp [x])) e
        · exact wpAny_pyNext_zipD2_end_held S D1 D2 hz hT hTI h1 h2 (Nat.le_refl _) (by omega) (.inl rfl) fun h' tk hk => hQ h' tk fun c o hc e => hk c o (fun x => hc (by simp [x])) (fun x => hc (by simp [x])) (fun x => hc (by simp [x])) e }
end PySem
namespace TK
open PySem PySem.Spec PyProof.Rows L2
/-! dict(zip(xs, ys)) -/
def tDictZip (K : PySem.W.Frag) (ta : TA) : TE := fun σ H Q => ta σ H fun vs H1 => ∃ (a b : Addr) (ks : List Key) (ys : List V), vs = [.ref a, .ref b] ∧ SqL K H1 a (ks.map kV) ∧ SqT K H1 b ys ∧ ks.length = ys.length ∧ ∀ p, H1 p = none → Q (.ref p) (upd H1 p (.dK (mergeK [] (ks.zip ys))))
theorem kv_zip : ∀ {ks : List Key} {ys : List V} {us vs : List Value}, Vals (ks.map kV) us → Vals ys vs → ks.length = ys.length → L2.KV (ks.zip ys) (ks.zip vs)
  | [], [], _, _, h, k, _ => by cases h; cases k; exact .nil
  | k :: ks, y :: ys, _, _, h, g, hl => by
    cases h with
    | cons h1 h2 =>
      cases g with
      | cons g1 g2 => exact .cons ⟨rfl, g1⟩ (kv_zip h2 g2 (by simpa using hl))
theorem pe_dictZip {X : Cx} {e e2 : Expr} {ta : TA} {p pos p2 pos2 : Pos} (hc : X.calm = true) (hg : Gl X "dict") (hm : X.mg "dict" = none) (hg2 : Gl X "zip") (hm2 : X.mg "zip" = none) (ha : PA X [e, e2] ta)
    (hs : starEach [e, e2] X.env = (false, eval e X.env) :: starEach [e2] X.env := by rfl) (hpl : (backTo pos2 (starEach [e2] X.env)).any (·.1) = false := by rfl)
    (na : starEach [.Call (.Name "zip" p2) [e, e2] [] pos2] X.env = (false, eval (.Call (.Name "zip" p2) [e, e2] [] pos2) X.env) :: starEach [] X.env := by rfl) :
    PE X (.Call (.Name "dict" p) [.Call (.Name "zip" p2) [e, e2] [] pos2] [] pos) (tDictZip X.K ta) := by
  refine ⟨fun pins s σ H Q I h => ?_⟩
  have hzip : wpAny (model X.prog X.w) X.A (eval (.Call (.Name "zip" p2) [e, e2] [] pos2) X.env) (fun x s2 => ∃ (z TI TO i1 i2 a b : Addr) (ks : List Key) (ys : List V) (its its2 : List Value) (H1 : Hp) (s1 : Shared), x = .ref z ∧ Inv X pins σ H1 s1 ∧ s2 = { s1 with heap := s2.heap } ∧ (∀ c o, s1.heap.get? c = some o → s2.heap.get? c = some o) ∧ s1.heap.objs.size ≤ z ∧ s1.heap.objs.size ≤ TO ∧ s1.heap.objs.size ≤ i1 ∧ s1.heap.objs.size ≤ i2 ∧
      ZipSep2 z TI TO i1 i2 [i1, a] [i2, b] ∧ a < s1.heap.objs.size ∧ b < s1.heap.objs.size ∧ Vals (ks.map kV) its ∧ Vals ys its2 ∧ ks.length = ys.length ∧ its.length ≤ sizeLine ∧
      (IsZip s2.heap z TI TO .none ∧ IsTupOf2 s2.heap TI (.ref i1) (.ref i2) ∧ (∃ a b, IsTupOf2 s2.heap TO a b) ∧ (s2.heap.IsListIter i1 a 0 ∧ s2.heap.IsList a its.toArray) ∧ (s2.heap.IsTupleIter i2 b 0 ∧ s2.heap.IsTuple b its2.toArray)) ∧
      (∀ p, H1 p = none → Q (.ref p) (upd H1 p (.dK (mergeK [] (ks.zip ys)))))) X.xe s := by
    refine Call_ (ld_blt I hg2 hm2 PyProof.Rows.boot_zip (PyProof.Rows.callWith_type1 (thn (ha.run pos2 pins s σ H _ I h) fun us s1 ⟨vs, H1, I1, r1, q1⟩ => ?_) hs hpl))
    obtain ⟨a, b, ks, ys, rfl, hqx, hqy, hl, q⟩ := q1
    obtain ⟨u1, u2, rfl, r, r'⟩ := r1.two
    cases r
    cases r'
    obtain ⟨its, rv, p1, hz1⟩ := I1.list hqx
    obtain ⟨its2, rv2, p2, _⟩ := I1.tuple hqy
    have lb : b < s1.heap.objs.size := by obtain ⟨_, q, _⟩ := p2; exact Heap.lt_size q
    have la : a < s1.heap.objs.size := p1.lt
    refine zip_begins2 (begins_list a its.toArray) (begins_tuple b its2.toArray) p1.isList p2 fun h' hz hTI hTO h1 h2 hsz hk => ?_
    refine ⟨_, _, _, _, _, a, b, ks, ys, its, its2, H1, s1, rfl, I1, rfl, hk, Nat.le_add_right _ _, Nat.le_add_right _ _, Nat.le_refl _, Nat.le_add_right _ _, sep_zip _ _ _ la lb, la, lb, rv, rv2, hl, by rw [← rv.length]; exact hz1, ⟨hz, hTI, ⟨_, _, hTO⟩, ⟨⟨_, h1, rfl, rfl⟩, Heap.IsList.at p1.isList fun o e => hk _ o e⟩, ⟨_, h2, rfl, rfl⟩, Heap.IsTuple.at p2 fun o e => hk _ o e⟩, q⟩
  refine Call_ (ld_blt I hg hm boot_dict (PyProof.Rows.callWith_type1 (args_cons (thn hzip fun x s2 h2 => args_nil ?_) na) na))
  obtain ⟨z, TI, TO, i1, i2, a, b, ks, ys, its, its2, H1, s1, rfl, I1, es, hk, g1, g2, g3, g4, S, la, lb, rv, rv2, hl, hz1, ok, q⟩ := h2
  have ne : ∀ {x y : Nat}, x < s1.heap.objs.size → s1.heap.objs.size ≤ y → x ≠ y := fun h1 h2 => by omega
  have lx : its.toArray.size = its2.toArray.size := by
    rw [List.size_toArray, List.size_toArray, ← rv.length, ← rv2.length, List.length_map, hl]
  have PA' := PairArg.zipLT (prog := X.prog) (w := X.w) z TI TO i1 i2 a b S (ne la g3) (ne lb g4) (ne la g1) (ne lb g1) (ne la g4) (ne lb g3) (ne la g2) (ne lb g2) its.toArray its2.toArray lx
  have hlen : ks.length = its.length := by rw [← rv.length, List.length_map]
  have hlen2 : ys.length = its2.length := rv2.length
  refine PySem.call_dict_pairs (knd := mixKind X.prog X.w) (kvs := ks.zip its2) PA' (I1.ok.hd hc) ok ⟨?_, fun i k v hr => ?_⟩ (by rw [List.size_toArray]; exact hz1) fun h' tk hd' hk' => ?_
  · rw [List.length_zip, List.size_toArray]; omega
  · obtain ⟨e1, e2⟩ := hr
    have e1 : its[i]? = some k := by simpa using e1
    have e2 : its2[i]? = some v := by simpa using e2
    have hi : i < ks.length := by rw [hlen]; exact (List.getElem?_eq_some_iff.mp e1).1
    refine ⟨ks[i], ?_, ?_⟩
    · rw [List.getElem?_zip_eq_some]
      exact ⟨List.getElem?_eq_getElem hi, e2⟩
    · obtain ⟨u, hu, ru⟩ := rv.get (i := i) (x := kV ks[i]) (by rw [List.getElem?_map, List.getElem?_eq_getElem hi]; rfl)
      rw [e1] at hu
      cases hu
      exact kV_is ru
  · rw [es] at hd' hk' ⊢
    have hlt : ∀ {c o}, s1.heap.get? c = some o → c < s1.heap.objs.size := fun e => Heap.lt_size e
    have kp : ∀ c o, s1.heap.get? c = some o → h'.get? c = some o := fun c o e => hk' c o (by
      have := hlt e
      simp only [List.mem_cons, List.not_mem_nil, or_false, not_or]
      exact ⟨ne this g1, ne this g2, ne this g3, ne this g4⟩) (hk c o e)
    have big : s1.heap.objs.size ≤ s2.heap.objs.size := by
      obtain ⟨hz, _⟩ := ok
      exact Nat.le_of_lt (Nat.lt_of_le_of_lt g1 (Heap.lt_size hz))
    have hsm : (s2.heap.objs.size == sysModules) = false := beq_eq_false_iff_ne.mpr (Nat.ne_of_gt (Nat.lt_of_lt_of_le I1.big big))
    refine ⟨.ref s2.heap.objs.size, upd H1 s2.heap.objs.size (.dK (mergeK [] (ks.zip ys))), I1.laid (t' := tk) kp big ?_, rfl, q _ (I1.hok.fresh big)⟩
    refine (show ObjOk X.prog X.w _ _ _ (.dK (mergeK [] (ks.zip ys))) from ⟨?_, hsm, merged [] (ks.zip its2), KV.merge (kv_zip rv rv2 hl) .nil, hd'⟩)
    have e1 := (KV.merge (kv_zip rv rv2 hl) .nil).length
    have e2 := PySem.merged_length ([] : List (Key × Value)) (ks.zip its2)
    rw [List.length_zip, List.length_nil] at e2
    omega
/-! tuple(d.values()) -/
section
variable {prog : Program} {w : World} {A : Around} {E : Value → Shared → Prop} {s : Shared} {r d : Addr} {n : Nat} {P : Nat → Value → Prop} {OK : Heap → Prop}
theorem code_tuple_new_vals {Q₁ : Value → Shared → Prop} (K : PySem.W.KdlSrc prog w "dict_values" r d n P OK) (hh : A.handled = none) (hok : OK s.heap) (hn : n ≤ sizeLine)
    (h : ∀ (h' : Heap) (tk : Nat) (acc : Array Value), (∀ b o, s.heap.get? b = some o → h'.get? b = some o) → ItemsOf P acc n →
      Q₁ (.ref h'.objs.size) { s with heap := h'.push { cls := .type "tuple", data := .seq acc }, toks := tk }) :
    codeAny (model prog w) A (.call (.builtin "tuple.__new__") ⟨[.type "tuple", .ref r], []⟩) (wants Q₁ E) s := by
  refine codeAny_of_tree ?_
  show wpAny _ A.in1 (do checkBuiltinCall "tuple.__new__" ⟨[.type "tuple", .ref r], []⟩; again (.builtin "tuple.__new__" ⟨[.type "tuple", .ref r], []⟩)) _ _ s
  refine wpAny_bind (wpAny_of_eq (F.newCall_tuple_1 _) (wpAny_pure ⟨plainId_quiet F.plain_tuple_new _, codeAny_builtin F.entry_tuple_new ?_⟩))
  rw [Around.under_plainId F.plain_tuple_new _]
  have hsub := sub_tuple_self
  have hinit := init_tuple_lookup
  have hmh := madeHere_tuple
  have hTI : s.TypeIs (.ref r) "dict_values" := K.type s hok
  have hh1 : A.in1.handled = none := hh
  wp_walk using wpAny_typeOf hTI, PySem.W.kdu_collect (A := A.in1) K hh1 hok hn
  intro h' tk acc hk hacc
  show wpAny _ _ (Builtin.Tuple.tupleExact acc.toList.toArray >>= fun v => ret v) _ _ _
  unfold Builtin.Tuple.tupleExact
  refine wpAny_bind (wpAny_newObj_type ?_ (by show acc.toList.toArray.size ≤ sizeLine; simp only [Array.toArray_toList]; rw [hacc.1]; exact hn))
  refine wpAny_pure ?_
  have e : acc.toList.toArray = acc := by simp
  rw [e]
  exact h h' tk acc hk hacc
theorem call_tuple_vals {Q : Value → Shared → Prop} (K : PySem.W.KdlSrc prog w "dict_values" r d n P OK) (hh : A.handled = none) (hok : OK s.heap) (hn : n ≤ sizeLine)
    (hQ : ∀ (h' : Heap) (tk : Nat) (acc : Array Value), (∀ b o, s.heap.get? b = some o → h'.get? b = some o) → ItemsOf P acc n →
      Q (.ref h'.objs.size) { s with heap := h'.push { cls := .type "tuple", data := .seq acc }, toks := tk }) :
    wpAny (model prog w) A (call (.type "tuple") [.ref r]) Q E s := by
  refine callType_codes (Q₁ := fun obj s₁ => s₁.TypeIs obj "tuple" ∧ Q obj s₁) F.called_tuple (F.typeCall_tuple_1 _) F.entry_object_init
    (code_tuple_new_vals (A := A.in1) K hh hok hn fun h' tk acc hk hacc => ⟨⟨_, Heap.get?_push_size _ rfl, rfl⟩, hQ h' tk acc hk hacc⟩) fun obj s₁ h₁ => ?_
  exact ⟨h₁.1, F.args_object_init_2 obj _, object_init_meets F.called_tuple.init.lookup F.called_tuple.made (by decide) prog w A.in1 _ s₁ ⟨h₁.1, rfl, h₁.2⟩⟩
end
def tTupVals (td : TE) : TE := fun σ H Q => td σ H fun x H1 => ∃ (d : Addr) (kvs : List (Key × V)), x = .ref d ∧ Rd H1 d (.dK kvs) ∧ ∀ p, H1 p = none → Q (.ref p) (upd H1 p (.tup (kvs.map (·.2))))
theorem pe_tupVals {X : Cx} {e : Expr} {td : TE} {p pos apos cpos : Pos} (hc : X.calm = true) (hg : Gl X "tuple") (hm : X.mg "tuple" = none) (he : PE X e td)
    (hbase : attributeBase e "values" X.env (eval e X.env) = eval e X.env := by rfl) (hline : (apos.endLine == cpos.line) = true := by rfl)
    (na : starEach [.Call (.Attribute e "values" apos) [] [] cpos] X.env = (false, eval (.Call (.Attribute e "values" apos) [] [] cpos) X.env) :: starEach [] X.env := by rfl) :
    PE X (.Call (.Name "tuple" p) [.Call (.Attribute e "values" apos) [] [] cpos] [] pos) (tTupVals td) := by
  refine ⟨fun pins s σ H Q I h => ?_⟩
  have hv : wpAny (model X.prog X.w) X.A (eval (.Call (.Attribute e "values" apos) [] [] cpos) X.env) (fun x s2 => ∃ (v d : Addr) (kvs : List (Key × V)) (H1 : Hp), x = .ref v ∧ Inv X pins σ H1 s2 ∧ s2.heap.get? v = some { cls := .type "dict_values", data := .fields #[.ref d] } ∧ Rd H1 d (.dK kvs) ∧ ∀ p, H1 p = none → Q (.ref p) (upd H1 p (.tup (kvs.map (·.2))))) X.xe s := by
    refine wpAny_Call_method (T := "dict") (id := "dict.values") hbase rfl hline F.plainAttrs_dict F.slot_dict_values F.type_dict_values (thn (he.run pins s σ H _ I h) fun u s1 ⟨x, H1, I1, rx, d, kvs, ex, hd, q⟩ => ?_)
    subst ex
    obtain rfl : u = Value.ref d := rx
    obtain ⟨z, hs, vs, rel, dd⟩ := dk_rd I1.hok hd
    refine ⟨dd.typeIs, dd.mapOf.noDict, ?_⟩
    have I2 : Inv X pins σ H1 { s1 with heap := s1.heap.push { cls := .type "dict_values", data := .fields #[.ref d] } } := I1.kept (t' := s1.toks) fun b ob q => Heap.get?_push_of_some _ q
    show wpAny _ _ (callWith cpos (.builtin "dict.values") [.ref d] [] []) _ X.xe s1
    exact method_meetsIn F.slot_dict_values F.entry_dict_values rfl (PySem.evalArgs_none ⟨rfl, dd.typeIs, F.args_dict_values_1 _, _, meets_dict_values (mixKind X.prog X.w) d hs, ⟨vs, dd⟩, ⟨s1.heap.objs.size, d, kvs, H1, rfl, I2, Heap.get?_push_size _ rfl, hd, q⟩⟩)
  refine Call_ (ld_blt I hg hm boot_tuple (PyProof.Rows.callWith_type1 (args_cons (thn hv fun x s2 h2 => args_nil ?_) na) na))
  obtain ⟨v, d, kvs, H1, rfl, I2, hv, hd, q⟩ := h2
  obtain ⟨z, hs, vs, rel, dd⟩ := dk_rd I2.hok hd
  obtain ⟨ep, hat⟩ := dd.dictAt
  have hl : kvs.length = vs.length := Paired.length rel
  refine call_tuple_vals (PySem.W.kdl_values (knd := mixKind X.prog X.w) (kvs := vs) (ep := ep)) (I2.ok.hd hc) ⟨⟨_, hv, rfl, rfl⟩, hat⟩ (by omega) fun h' tk acc hk hacc => ?_
  have ea : acc.toList = vs.map (·.2) := PySem.W.kdl_vals_eq acc.toList (by rw [Array.length_toList]; exact hacc.1) fun j u hu => hacc.2 j u (by rw [← hu, Array.getElem?_toList])
  have I3 : Inv X pins σ H1 { s2 with heap := h', toks := tk } := I2.kept hk
  refine ⟨.ref h'.objs.size, upd H1 h'.objs.size (.tup (kvs.map (·.2))), I3.laid (t' := tk) (fun c o e => Heap.get?_push_of_some _ e) (Nat.le_refl _) (show ObjOk X.prog X.w _ _ _ (.tup (kvs.map (·.2))) from ⟨?_, acc.toList, ?_, ?_⟩), rfl, q _ (I3.hok.fresh (Nat.le_refl _))⟩
  · rw [List.length_map]; exact z
  · rw [ea]
    clear ea hacc hat dd hd q hl z
    induction rel with
    | nil => exact .nil
    | cons h t ih => exact .cons h.2 (ih)
  · rw [Array.toArray_toList]; exact IsTup.new _ _
end TK

/-! dict(zip(tuple, tuple)); dict(t) of a tuple of pairs that is known to its object -/
namespace PySem
open Sem (wp)
/-- zip of two tuples, as the argument of dict() -/
theorem PairArg.zipTT {prog : Program} {w : World} (z TI TO i1 i2 l1 l2 : Addr) (S : ZipSep2 z TI TO i1 i2 [i1, l1] [i2, l2]) (n1 : l1 ≠ i1) (n2 : l2 ≠ i2) (m1 : l1 ≠ z) (m2 : l2 ≠ z) (m3 : l1 ≠ i2) (m4 : l2 ≠ i1) (m5 : l1 ≠ TO) (m6 : l2 ≠ TO) (xs ys : Array Value) (hxy : xs.size = ys.size) :
    PairArg prog w "zip" z [z, TI, TO, i1, i2, l1, l2] [z, TO, i1, i2] xs.size (fun i k v => xs[i]? = some k ∧ ys[i]? = some v)
      (fun h => IsZip h z TI TO .none ∧ IsTupOf2 h TI (.ref i1) (.ref i2) ∧ (∃ a b, IsTupOf2 h TO a b) ∧ (h.IsTupleIter i1 l1 0 ∧ h.IsTuple l1 xs) ∧ (h.IsTupleIter i2 l2 0 ∧ h.IsTuple l2 ys)) where
  type := fun s ok => ⟨_, ok.1, rfl⟩
  notDict := by decide
  keep := fun h h' ok hk => by
    obtain ⟨hz, hTI, ⟨a, b, hTO⟩, ⟨h1, hl1⟩, h2, hl2⟩ := ok
    exact ⟨hk _ _ hz, hk _ _ hTI, ⟨a, b, hk _ _ hTO⟩, ⟨h1.at fun o e => hk _ o e, hl1.at fun o e => hk _ o e⟩, h2.at fun o e => hk _ o e, hl2.at fun o e => hk _ o e⟩
  there := fun h ok b hb => by
    obtain ⟨hz, hTI, ⟨a, c, hTO⟩, ⟨⟨o1, h1, _⟩, ⟨o3, hl1, _⟩⟩, ⟨o2, h2, _⟩, ⟨o4, hl2, _⟩⟩ := ok
    simp only [List.mem_cons, List.not_mem_nil, or_false] at hb
    rcases hb with rfl | rfl | rfl | rfl | rfl | rfl | rfl
    all_goals first | exact ⟨_, hz⟩ | exact ⟨_, hTI⟩ | exact ⟨_, hTO⟩ | exact ⟨_, h1⟩ | exact ⟨_, h2⟩ | exact ⟨_, hl1⟩ | exact ⟨_, hl2⟩
  sub := fun b hb => by simp at hb ⊢; rcases hb with rfl | rfl | rfl | rfl <;> simp
  noKeys := fun A s Q E hA ok h => getAttrOr_miss_zip ok.1 rfl rfl rfl zip_no_keys (by decide +kernel) hA h
  iter := fun A s d Q E hA ok hd hdf h => by
    obtain ⟨hz, hTI, ⟨a, b, hTO⟩, h1, h2⟩ := ok
    simp only [List.mem_cons, List.not_mem_nil, or_false, not_or] at hdf
    obtain ⟨dz, dTI, dTO, di1, di2, dl1, dl2⟩ := hdf
    have D1 := Draws.tuple (prog := prog) (w := w) (A := A.in1) hA i1 l1 n1 xs
    have D2 := Draws.tuple (prog := prog) (w := w) (A := A.in1) hA i2 l2 n2 ys
    refine wpAny_pyIter_zip hz (h z [z, TO, i1, i2] (fun i h => IsTupOf2 h TI (.ref i1) (.ref i2) ∧ (h.IsTupleIter i1 l1 i ∧ h.IsTuple l1 xs) ∧ (h.IsTupleIter i2 l2 i ∧ h.IsTuple l2 ys) ∧
      ((IsZip h z TI TO .none ∧ ∃ a b, IsTupOf2 h TO a b) ∨ ∃ T f oT, IsZipHeld h z TI TO T f ∧ h.get? T = some oT ∧ T ≠ z ∧ T ≠ i1 ∧ T ≠ i2 ∧ T ≠ d)) s.heap s.toks ?_
      ⟨hTI, h1, h2, .inl ⟨hz, a, b, hTO⟩⟩ (fun _ _ e => e) fun b hb => .inl hb)
    exact {
      off := fun hm => by
        simp only [List.mem_cons, List.not_mem_nil, or_false] at hm
        rcases hm with e | e | e | e
        · exact dz e
        · exact dTO e
        · exact di1 e
        · exact di2 e
      frame := fun i h₁ h₂ st hk => by
        obtain ⟨hTI, ⟨h1, hl1⟩, ⟨h2, hl2⟩, hz⟩ := st
        refine ⟨hk _ _ (Ne.symm dTI) hTI, ⟨h1.at fun o e => hk _ o (Ne.symm di1) e, hl1.at fun o e => hk _ o (Ne.symm dl1) e⟩, ⟨h2.at fun o e => hk _ o (Ne.symm di2) e, hl2.at fun o e => hk _ o (Ne.symm dl2) e⟩, ?_⟩
        rcases hz with ⟨hz, a, b, hTO⟩ | ⟨T, f, oT, hz, hT, r1, r2, r3, r4⟩
        · exact .inl ⟨hk _ _ (Ne.symm dz) hz, a, b, hk _ _ (Ne.symm dTO) hTO⟩
        · exact .inr ⟨T, f, oT, hk _ _ (Ne.symm dz) hz, hk _ _ r4 hT, r1, r2, r3, r4⟩
      item := fun i s₁ Q₁ E₁ hi st hds hQ => by
        obtain ⟨hTI, h1, h2, hz⟩ := st
        have lt : ∀ {c o}, s₁.heap.get? c = some o → s₁.heap.objs.size ≠ c := fun e => Nat.ne_of_gt (Heap.lt_size e)
        have n1 : s₁.heap.objs.size ≠ i1 := let ⟨_, e, _⟩ := h1.1; lt e
        have n2 : s₁.heap.objs.size ≠ i2 := let ⟨_, e, _⟩ := h2.1; lt e
        rcases hz with ⟨hz, a, b, hTO⟩ | ⟨T, f, oT, hz, hT, r1, r2, r3, r4⟩
        · refine wpAny_pyNext_zipD2_item S D1 D2 hz hTI hTO h1 h2 hi (by omega) fun x1 x2 h' tk e1 e2 a1 a2 a3 a4 a5 a6 hk => ?_
          exact hQ s₁.heap.objs.size _ _ h' tk ⟨e1, e2⟩ (.inl ⟨_, a5, rfl, _, rfl⟩)
            ⟨hk _ _ S.TIz S.TITO S.TIi1 S.TIi2 hTI, a3, a4, .inr ⟨s₁.heap.objs.size, false, _, a1, a5, lt hz, n1, n2, Nat.ne_of_gt hds⟩⟩
            fun c o hc e => hk c o (fun x => hc (by simp [x])) (fun x => hc (by simp [x])) (fun x => hc (by simp [x])) (fun x => hc (by simp [x])) e
        · refine wpAny_pyNext_zipD2_item_held S D1 D2 hz hT hTI h1 h2 hi (by omega) fun x1 x2 h' tk e1 e2 a1 a3 a4 a5 a6 hk => ?_
          exact hQ s₁.heap.objs.size _ _ h' tk ⟨e1, e2⟩ (.inl ⟨_, a5, rfl, _, rfl⟩)
            ⟨hk _ _ S.TIz S.TIi1 S.TIi2 hTI, a3, a4, .inr ⟨T, true, oT, a1, hk _ _ r1 r2 r3 hT, r1, r2, r3, r4⟩⟩
            fun c o hc e => hk c o (fun x => hc (by simp [x])) (fun x => hc (by simp [x])) (fun x => hc (by simp [x])) e
      done := fun s₁ Q₁ E₁ st hQ => by
        obtain ⟨hTI, h1, h2, hz⟩ := st
        rcases hz with ⟨hz, a, b, hTO⟩ | ⟨T, f, oT, hz, hT, r1, r2, r3, r4⟩
        · exact wpAny_pyNext_zipD2_end S D1 D2 hz hTI hTO h1 h2 (Nat.le_refl _) (by omega) (.inl rfl) fun h' tk hk => hQ h' tk fun c o hc e => hk c o (fun x => hc (by simp [x])) (fun x => hc (by simp [x])) (fun x => hc (by simp [x])) (fun x => hc (by simp [x])) e
        · exact wpAny_pyNext_zipD2_end_held S D1 D2 hz hT hTI h1 h2 (Nat.le_refl _) (by omega) (.inl rfl) fun h' tk hk => hQ h' tk fun c o hc e => hk c o (fun x => hc (by simp [x])) (fun x => hc (by simp [x])) (fun x => hc (by simp [x])) e }
end PySem
namespace TK
open PySem PySem.Spec PyProof.Rows L2
def tDictZipT (K : PySem.W.Frag) (ta : TA) : TE := fun σ H Q => ta σ H fun vs H1 => ∃ (a b : Addr) (ks : List Key) (ys : List V), vs = [.ref a, .ref b] ∧ SqT K H1 a (ks.map kV) ∧ SqT K H1 b ys ∧ ks.length = ys.length ∧ ∀ p, H1 p = none → Q (.ref p) (upd H1 p (.dK (mergeK [] (ks.zip ys))))
theorem pe_dictZipT {X : Cx} {e e2 : Expr} {ta : TA} {p pos p2 pos2 : Pos} (hc : X.calm = true) (hg : Gl X "dict") (hm : X.mg "dict" = none) (hg2 : Gl X "zip") (hm2 : X.mg "zip" = none) (ha : PA X [e, e2] ta)
    (hs : starEach [e, e2] X.env = (false, eval e X.env) :: starEach [e2] X.env := by rfl) (hpl : (backTo pos2 (starEach [e2] X.env)).any (·.1) = false := by rfl)
    (na : starEach [.Call (.Name "zip" p2) [e, e2] [] pos2] X.env = (false, eval (.Call (.Name "zip" p2) [e, e2] [] pos2) X.env) :: starEach [] X.env := by rfl) :
    PE X (.Call (.Name "dict" p) [.Call (.Name "zip" p2) [e, e2] [] pos2] [] pos) (tDictZipT X.K ta) := by
  refine ⟨fun pins s σ H Q I h => ?_⟩
  have hzip : wpAny (model X.prog X.w) X.A (eval (.Call (.Name "zip" p2) [e, e2] [] pos2) X.env) (fun x s2 => ∃ (z TI TO i1 i2 a b : Addr) (ks : List Key) (ys : List V) (its its2 : List Value) (H1 : Hp) (s1 : Shared), x = .ref z ∧ Inv X pins σ H1 s1 ∧ s2 = { s1 with heap := s2.heap } ∧ (∀ c o, s1.heap.get? c = some o → s2.heap.get? c = some o) ∧ s1.heap.objs.size ≤ z ∧ s1.heap.objs.size ≤ TO ∧ s1.heap.objs.size ≤ i1 ∧ s1.heap.objs.size ≤ i2 ∧
      ZipSep2 z TI TO i1 i2 [i1, a] [i2, b] ∧ a < s1.heap.objs.size ∧ b < s1.heap.objs.size ∧ Vals (ks.map kV) its ∧ Vals ys its2 ∧ ks.length = ys.length ∧ its.length ≤ sizeLine ∧
      (IsZip s2.heap z TI TO .none ∧ IsTupOf2 s2.heap TI (.ref i1) (.ref i2) ∧ (∃ a b, IsTupOf2 s2.heap TO a b) ∧ (s2.heap.IsTupleIter i1 a 0 ∧ s2.heap.IsTuple a its.toArray) ∧ (s2.heap.IsTupleIter i2 b 0 ∧ s2.heap.IsTuple b its2.toArray)) ∧
      (∀ p, H1 p = none → Q (.ref p) (upd H1 p (.dK (mergeK [] (ks.zip ys)))))) X.xe s := by
    refine Call_ (ld_blt I hg2 hm2 PyProof.Rows.boot_zip (PyProof.Rows.callWith_type1 (thn (ha.run pos2 pins s σ H _ I h) fun us s1 ⟨vs, H1, I1, r1, q1⟩ => ?_) hs hpl))
    obtain ⟨a, b, ks, ys, rfl, hqx, hqy, hl, q⟩ := q1
    obtain ⟨u1, u2, rfl, r, r'⟩ := r1.two
    cases r
    cases r'
    obtain ⟨its, rv, p1, hz1⟩ := I1.tuple hqx
    obtain ⟨its2, rv2, p2, _⟩ := I1.tuple hqy
    rw [rv.length] at hz1
    have la : a < s1.heap.objs.size := by obtain ⟨_, q, _⟩ := p1; exact Heap.lt_size q
    have lb : b < s1.heap.objs.size := by obtain ⟨_, q, _⟩ := p2; exact Heap.lt_size q
    refine zip_begins2 (begins_tuple a its.toArray) (begins_tuple b its2.toArray) p1 p2 fun h' hz hTI hTO h1 h2 hsz hk => ?_
    exact ⟨_, _, _, _, _, a, b, ks, ys, its, its2, H1, s1, rfl, I1, rfl, hk, Nat.le_add_right _ _, Nat.le_add_right _ _, Nat.le_refl _, Nat.le_add_right _ _, sep_zip _ _ _ la lb, la, lb, rv, rv2, hl, hz1, ⟨hz, hTI, ⟨_, _, hTO⟩, ⟨⟨_, h1, rfl, rfl⟩, Heap.IsTuple.at p1 fun o e => hk _ _ e⟩, ⟨_, h2, rfl, rfl⟩, Heap.IsTuple.at p2 fun o e => hk _ _ e⟩, q⟩
  refine Call_ (ld_blt I hg hm boot_dict (PyProof.Rows.callWith_type1 (args_cons (thn hzip fun x s2 h2 => args_nil ?_) na) na))
  obtain ⟨z, TI, TO, i1, i2, a, b, ks, ys, its, its2, H1, s1, rfl, I1, es, hk, g1, g2, g3, g4, S, la, lb, rv, rv2, hl, hz1, ok, q⟩ := h2
  have ne : ∀ {x y : Nat}, x < s1.heap.objs.size → s1.heap.objs.size ≤ y → x ≠ y := fun h1 h2 => by omega
  have lx : its.toArray.size = its2.toArray.size := by
    rw [List.size_toArray, List.size_toArray, ← rv.length, ← rv2.length, List.length_map, hl]
  have PA' := PairArg.zipTT (prog := X.prog) (w := X.w) z TI TO i1 i2 a b S (ne la g3) (ne lb g4) (ne la g1) (ne lb g1) (ne la g4) (ne lb g3) (ne la g2) (ne lb g2) its.toArray its2.toArray lx
  have hlen : ks.length = its.length := by rw [← rv.length, List.length_map]
  have hlen2 : ys.length = its2.length := rv2.length
  refine PySem.call_dict_pairs (knd := mixKind X.prog X.w) (kvs := ks.zip its2) PA' (I1.ok.hd hc) ok ⟨?_, fun i k v hr => ?_⟩ (by rw [List.size_toArray]; exact hz1) fun h' tk hd' hk' => ?_
  · rw [List.length_zip, List.size_toArray]; omega
  · obtain ⟨e1, e2⟩ := hr
    have e1 : its[i]? = some k := by simpa using e1
    have e2 : its2[i]? = some v := by simpa using e2
    have hi : i < ks.length := by rw [hlen]; exact (List.getElem?_eq_some_iff.mp e1).1
    refine ⟨ks[i], ?_, ?_⟩
    · rw [List.getElem?_zip_eq_some]
      exact ⟨List.getElem?_eq_getElem hi, e2⟩
    · obtain ⟨u, hu, ru⟩ := rv.get (i := i) (x := kV ks[i]) (by rw [List.getElem?_map, List.getElem?_eq_getElem hi]; rfl)
      rw [e1] at hu
      cases hu
      exact kV_is ru
  · rw [es] at hd' hk' ⊢
    have hlt : ∀ {c o}, s1.heap.get? c = some o → c < s1.heap.objs.size := fun e => Heap.lt_size e
    have kp : ∀ c o, s1.heap.get? c = some o → h'.get? c = some o := fun c o e => hk' c o (by
      have := hlt e
      simp only [List.mem_cons, List.not_mem_nil, or_false, not_or]
      exact ⟨ne this g1, ne this g2, ne this g3, ne this g4⟩) (hk c o e)
    have big : s1.heap.objs.size ≤ s2.heap.objs.size := by
      obtain ⟨hz, _⟩ := ok
      exact Nat.le_of_lt (Nat.lt_of_le_of_lt g1 (Heap.lt_size hz))
    have hsm : (s2.heap.objs.size == sysModules) = false := beq_eq_false_iff_ne.mpr (Nat.ne_of_gt (Nat.lt_of_lt_of_le I1.big big))
    refine ⟨.ref s2.heap.objs.size, upd H1 s2.heap.objs.size (.dK (mergeK [] (ks.zip ys))), I1.laid (t' := tk) kp big ?_, rfl, q _ (I1.hok.fresh big)⟩
    refine (show ObjOk X.prog X.w _ _ _ (.dK (mergeK [] (ks.zip ys))) from ⟨?_, hsm, merged [] (ks.zip its2), KV.merge (kv_zip rv rv2 hl) .nil, hd'⟩)
    have e1 := (KV.merge (kv_zip rv rv2 hl) .nil).length
    have e2 := PySem.merged_length ([] : List (Key × Value)) (ks.zip its2)
    rw [List.length_zip, List.length_nil] at e2
    omega
/-! dict(t), t a tuple of pairs that is known to its object -/
section
variable {X : Cx}
theorem call_dictPT (hcalm : X.calm = true) : CallR X (.type "dict") (fun xs H Q => ∃ (a : Addr) (o : Obj) (ps : List Addr) (kvs : List (Key × V)), xs = [.ref a] ∧ H a = some (.frz o (.tup (ps.map V.ref))) ∧ o.cls = .type "tuple" ∧ o.dict = none ∧ Paired (fun p kv => SqT X.K H p [kV kv.1, kv.2]) ps kvs ∧
    ∀ p, H p = none → Q (.ref p) (upd H p (.dK (mergeK [] kvs)))) := by
  intro pins s σ H xs us Q I r q
  obtain ⟨a, o, ps, kvs, ex, hq, oc, od, hp, q⟩ := q
  subst ex
  obtain ⟨u, eu, rx⟩ := vals1 r
  subst eu
  cases rx
  obtain ⟨g0, z, its, rv, o2, g2, c2, n, hdat⟩ := (show ObjOk X.prog X.w H s.heap a (.frz o (.tup (ps.map V.ref))) from I.hok a _ hq)
  cases Option.some.inj (g0.symm.trans g2)
  have ei := refs_at rv
  subst ei
  rw [List.length_map] at z
  obtain ⟨prs, rel, hl, hpr⟩ := pairs_of I hp
  let Ts : Nat → Addr := fun j => ps.getD j 0
  have hTs : ∀ j (q' : Key × Value), prs[j]? = some q' → ∃ u, ps[j]? = some (Ts j) ∧ IsTup s.heap (Ts j) #[u, q'.2] ∧ keyIs q'.1 u = true := fun j q' e => by
    obtain ⟨b, u, e1, e2, e3⟩ := hpr j q' e
    have : Ts j = b := by show ps.getD j 0 = b; rw [List.getD_eq_getElem?_getD, e1]; rfl
    rw [this]
    exact ⟨u, e1, e2, e3⟩
  obtain ⟨qs, hqs, hrel⟩ : ∃ qs : List (Value × Value), qs.length = prs.length ∧ ∀ j k v, qs[j]? = some (k, v) → ∃ q' : Key × Value, prs[j]? = some q' ∧ q'.2 = v ∧ keyIs q'.1 k = true ∧ IsTup s.heap (Ts j) #[k, v] := by
    have : ∀ n, n ≤ prs.length → ∃ qs : List (Value × Value), qs.length = n ∧ ∀ j k v, qs[j]? = some (k, v) → ∃ q' : Key × Value, prs[j]? = some q' ∧ q'.2 = v ∧ keyIs q'.1 k = true ∧ IsTup s.heap (Ts j) #[k, v] := fun n => by
      induction n with
      | zero => exact fun _ => ⟨[], rfl, fun j k v e => by simp at e⟩
      | succ n ih =>
        intro hn
        obtain ⟨qs, l, h⟩ := ih (by omega)
        obtain ⟨u, e1, e2, e3⟩ := hTs n prs[n] (List.getElem?_eq_getElem (by omega))
        refine ⟨qs ++ [(u, prs[n].2)], by rw [List.length_append, l]; rfl, fun j k v e => ?_⟩
        by_cases hj : j < qs.length
        · rw [List.getElem?_append_left hj] at e
          exact h j k v e
        · rw [List.getElem?_append_right (by omega)] at e
          by_cases hj2 : j - qs.length = 0
          · rw [hj2] at e
            have e := Option.some.inj e
            cases e
            have : j = n := by omega
            subst this
            exact ⟨prs[j], List.getElem?_eq_getElem (by omega), rfl, e3, e2⟩
          · rw [List.getElem?_eq_none (by simp; omega)] at e
            cases e
    exact this _ (Nat.le_refl _)
  have PA' := PairArg.tuple (prog := X.prog) (w := X.w) a (ps.map Value.ref).toArray Ts qs
  have big : s.heap.objs.size ≠ sysModules := Nat.ne_of_gt I.big
  have hm : (s.heap.objs.size == sysModules) = false := beq_eq_false_iff_ne.mpr big
  refine PySem.call_dict_pairs (knd := mixKind X.prog X.w) (kvs := prs) PA' (I.ok.hd hcalm) ⟨⟨o, n, g0, oc, od, hdat⟩, ⟨by rw [List.size_toArray, List.length_map, hqs, hl], fun j k v e => ?_⟩⟩ ⟨by rw [hqs], fun i k v hr => ?_⟩ (by rw [hqs, hl]; exact z) fun h' tk hd' hk' => ?_
  · obtain ⟨q', e1, e2, e3, e4⟩ := hrel j k v e
    obtain ⟨u, f1, _⟩ := hTs j q' e1
    exact ⟨by simp [f1], .inl e4⟩
  · obtain ⟨q', e1, e2, e3, _⟩ := hrel i k v hr
    exact ⟨q'.1, by rw [e1, ← e2], e3⟩
  · have hlen : (mergeK [] kvs).length ≤ sizeLine := by
      refine Nat.le_trans (length_mergeK kvs []) ?_
      rw [List.length_nil, Nat.zero_add, rel.length, hl]
      exact z
    exact ⟨.ref s.heap.objs.size, upd H s.heap.objs.size (.dK (mergeK [] kvs)), I.laid (t' := tk) (fun c ob e => hk' c ob (by simp) e) (Nat.le_refl _) (show ObjOk X.prog X.w _ _ _ (.dK (mergeK [] kvs)) from ⟨hlen, hm, merged [] prs, KV.merge rel .nil, hd'⟩), rfl, q _ (I.hok.fresh (Nat.le_refl _))⟩
end
end TK

namespace PySem
open Sem (wp)
section
variable {prog : Program} {w : World} {K : Type} [DecidableEq K] {knd : KeyKind prog w K} {A : Around} {E : Value → Shared → Prop} {s : Shared}
theorem wpAny_dictPut_pairs {d : Addr} {kvs : List (K × Value)} {k : K} {key v : Value} {Q : Unit → Shared → Prop} (hkey : knd.is k key = true) (hm : s.heap.DictOf knd d kvs)
    (hQ : ∀ h', h'.DictOf knd d (stored kvs k v) → Heap.SameBut d s.heap h' → Q () { s with heap := h' })
    (hsz : kvs.length ≤ sizeLine := by size_fits) :
    wpAny (model prog w) A (dictPut d (knd.hash k) key v) Q E s := by
  obtain ⟨o, es, ep, ho, hc, hd, hk, hp, hn⟩ := hm
  have hes : es.size ≤ sizeLine := by have e1 := hp.length; have e2 : es.toList.length = es.size := by simp
                                      omega
  unfold dictPut
  refine wpAny_bind (wpAny_dictFind_of hkey ho hd hk ?_)
  have hidx : (es.findIdx? fun e => knd.is k e.key) = kvs.findIdx? fun kv => decide (kv.1 = k) := by
    rw [← hp.findIdx k]; obtain ⟨l⟩ := es; simp
  cases hi : es.findIdx? fun e => knd.is k e.key with
  | some i =>
    refine wpAny_updateDict ho hd (hQ _ ⟨_, _, ep, Heap.get?_update_self _ ho (Obj.isFreed_of_dict (Obj.data_mapDict hd _)),
      hc.mapDict _, Obj.data_mapDict hd _, hk.modify _ _, ?_, ?_⟩ (Heap.SameBut.update ..))
    · rw [stored, if_pos (any_of_findIdx_some (hidx ▸ hi))]
      have hl : (es.toList.findIdx? fun e => knd.is k e.key) = some i := by rw [← hi]; obtain ⟨l⟩ := es; simp
      have := hp.modify hn hl v
      obtain ⟨l⟩ := es
      simpa using this
    · rw [stored, if_pos (any_of_findIdx_some (hidx ▸ hi)), keys_map_store]; exact hn
  | none =>
    have hnot : k ∉ kvs.map (·.1) := not_mem_of_findIdx_none (hidx ▸ hi)
    have hany : ¬ (kvs.any fun kv => decide (kv.1 = k)) = true := by
      rw [List.any_eq_true]; rintro ⟨kv, hkv, he⟩
      exact hnot (List.mem_map.mpr ⟨kv, hkv, of_decide_eq_true he⟩)
    refine wpAny_updateDictKeys (hz := hes) ho hd (hQ _ ⟨_, _, ep + 1, Heap.get?_update_self _ ho (Obj.isFreed_of_dict (Obj.data_mapDictKeys hd _)),
      hc.mapDictKeys _, Obj.data_mapDictKeys hd _, hk.push hkey _, ?_, ?_⟩ (Heap.SameBut.update ..))
    · rw [stored, if_neg hany]
      have := hp.append hkey (knd.hash k) v
      obtain ⟨l⟩ := es
      simpa using this
    · rw [stored, if_neg hany, List.map_append, List.nodup_append]
      refine ⟨hn, by simp, ?_⟩
      intro a ha b hb
      simp only [List.map_cons, List.map_nil, List.mem_singleton] at hb
      subst hb
      exact fun e => hnot (e ▸ ha)


theorem wpAny_arr_skip {M : Model} {es : Array DictEntry} {f : DictEntry → PUnit → Sem (ForInStep PUnit)} {Q : PUnit → Shared → Prop} (h : ∀ e ∈ es.toList, f e PUnit.unit = pure (.yield PUnit.unit)) (q : Q PUnit.unit s) : wpAny M A (forIn es PUnit.unit f) Q E s := by
  rw [← Array.forIn_toList]
  generalize es.toList = l at h
  have : forIn l PUnit.unit f = (pure PUnit.unit : Sem PUnit) := by
    induction l with
    | nil => rfl
    | cons e l ih =>
      rw [List.forIn_cons, h e (List.mem_cons_self ..), pure_bind]
      exact ih fun x hx => h x (List.mem_cons_of_mem _ hx)
  rw [this]
  exact wpAny_pure q
theorem wpAny_mergeMapping {d o : Addr} {kvs more : List (K × Value)} {Q : Unit → Shared → Prop} (unique : Bool) (hnr : ∀ k a, knd.is k (.ref a) = false) (hdo : d ≠ o) (hoS : (o == sysModules) = false)
    (hd : s.heap.DictOf knd d kvs) (ho : s.heap.DictOf knd o more) (hu : unique = true → ((kvs ++ more).map (·.1)).Nodup)
    (hQ : ∀ h', h'.DictOf knd d (merged kvs more) → h'.DictOf knd o more → Heap.SameBut d s.heap h' → Q () { s with heap := h' })
    (hsz : kvs.length + more.length ≤ sizeLine) :
    wpAny (model prog w) A (mergeMapping d (.ref o) unique) Q E s := by
  obtain ⟨od, esd, epd, hod, hcd, hdd, hkd, hpd, hnd⟩ := id hd
  obtain ⟨oo, eso, epo, hoo, hco, hdo', hko, hpo, hno⟩ := id ho
  have hlen : more.length = eso.size := by rw [← hpo.length]; simp
  unfold mergeMapping
  refine wpAny_bind (wpAny_isInstance ho.typeIs isSubtype_dict_dict ?_)
  simp only [if_true]
  refine wpAny_bind (wpAny_specialOf ho.typeIs F.slot_dict_iter.lookup ?_)
  refine wpAny_bind (wpAny_pure ?_)
  simp only [beq_self_eq_true]
  rw [if_neg (by rw [hoS]; exact Bool.false_ne_true)]
  refine wpAny_bind (wpAny_dictEntries hod hdd ?_)
  have sk : ∀ (e : DictEntry), e ∈ eso.toList → ∀ a, e.key ≠ .ref a := fun e he a ek => by
    obtain ⟨k, hk, _⟩ := hko e (Array.mem_def.mpr he)
    rw [ek, hnr] at hk
    cases hk
  split
  refine wpAny_bind (wpAny_dictEntries hoo hdo' (wpAny_bind (wpAny_arr_skip (fun e he => (by
    have := sk e he
    cases ek : e.key with
    | ref a => exact absurd ek (this a)
    | _ => rfl)) ?_)))
  all_goals
    refine wpAny_bind (wpAny_dictEntries hoo hdo' ?_)
    refine wpAny_bind (wpAny_dictEpoch hoo hdo' ?_)
    refine wpAny_bind ?_
    rw [List.range_eq_range']
    refine wpAny_forIn_list _
      (fun rest _ s' => ∃ h' i, s' = { s with heap := h' } ∧ rest = List.range' i (eso.size - i) ∧ i ≤ eso.size ∧ h'.DictOf knd d (merged kvs (more.take i)) ∧ h'.get? o = some oo ∧ Heap.SameBut d s.heap h')
      _ ?_ ?_ _ _ ⟨s.heap, 0, rfl, by simp, Nat.zero_le _, by simpa [merged] using hd, hoo, Heap.SameBut.refl _ _⟩
    · rintro x rest b s' ⟨h', i, rfl, hr, hi, hd', hoo', hs'⟩
      have hlt : i < eso.size := by
        rcases Nat.lt_or_ge i eso.size with h | h
        · exact h
        · rw [Nat.sub_eq_zero_of_le h] at hr; simp at hr
      obtain ⟨rfl, hrest⟩ : x = i ∧ rest = List.range' (i + 1) (eso.size - (i + 1)) := by
        have e : eso.size - i = (eso.size - (i + 1)) + 1 := by omega
        rw [e, List.range'_succ] at hr
        injection hr with h1 h2
        exact ⟨h1, h2⟩
      refine wpAny_bind (wpAny_dictEntries hoo' hdo' ?_)
      rw [Array.getElem?_eq_getElem hlt]
      obtain ⟨kv, hkv⟩ : ∃ kv, more[x]? = some kv := ⟨more[x]'(by rw [hlen]; exact hlt), List.getElem?_eq_getElem _⟩
      obtain ⟨k, v⟩ := kv
      obtain ⟨hkey, hval⟩ := hpo.get? (e := eso[x]) (by simp [hlt]) hkv
      obtain ⟨k', hkey', hhash⟩ := hko eso[x] (Array.getElem_mem hlt)
      obtain rfl : k' = k := knd.inj _ _ _ hkey' hkey
      have hmx : (merged kvs (more.take x)).length ≤ sizeLine := by
        have e1 := merged_length_le kvs (more.take x)
        have e2 : (more.take x).length ≤ more.length := by rw [List.length_take]; omega
        omega
      have put : ∀ (Z : Unit → Shared → Prop), (∀ h'' : Heap, h''.DictOf knd d (stored (merged kvs (more.take x)) k' v) → Heap.SameBut d h' h'' → Z () { s with heap := h'' }) → wpAny (model prog w) A (dictPut d eso[x].hash eso[x].key eso[x].val) Z E { s with heap := h' } := fun Z hz => by
        rw [hhash, hval]
        exact wpAny_dictPut_pairs (hsz := hmx) hkey hd' hz
      have next : ∀ h'' : Heap, h''.DictOf knd d (stored (merged kvs (more.take x)) k' v) → Heap.SameBut d h' h'' → wpAny (model prog w) A (do
          let ep ← dictEpoch o
          if (ep != epo) = true then do
            (unsupported "dict.changed-during-merge" : Sem PUnit)
            pure (ForInStep.yield PUnit.unit)
          else pure (ForInStep.yield PUnit.unit)) (fun r s' => match r with
          | .yield b => ∃ h' i, s' = { s with heap := h' } ∧ rest = List.range' i (eso.size - i) ∧ i ≤ eso.size ∧ h'.DictOf knd d (merged kvs (more.take i)) ∧ h'.get? o = some oo ∧ Heap.SameBut d s.heap h'
          | .done b => False) E { s with heap := h'' } := fun h'' hd'' hs'' => by
        have hoo'' : h''.get? o = some oo := (hs''.2 o (Ne.symm hdo)).trans hoo'
        refine wpAny_bind (wpAny_dictEpoch hoo'' hdo' ?_)
        rw [if_neg (by simp)]
        exact wpAny_pure ⟨h'', x + 1, rfl, hrest, hlt, by rw [merged_take_succ kvs more x (k', v) hkv]; exact hd'', hoo'', hs'.trans hs''⟩
      have fin : wpAny (model prog w) A (dictPut d eso[x].hash eso[x].key eso[x].val) (fun _ s' => wpAny (model prog w) A (do
          let ep ← dictEpoch o
          if (ep != epo) = true then do
            (unsupported "dict.changed-during-merge" : Sem PUnit)
            pure (ForInStep.yield PUnit.unit)
          else pure (ForInStep.yield PUnit.unit)) (fun r s' => match r with
          | .yield b => ∃ h' i, s' = { s with heap := h' } ∧ rest = List.range' i (eso.size - i) ∧ i ≤ eso.size ∧ h'.DictOf knd d (merged kvs (more.take i)) ∧ h'.get? o = some oo ∧ Heap.SameBut d s.heap h'
          | .done b => wpAny (model prog w) A (pure ()) Q E s') E s') E { s with heap := h' } := put _ fun h'' a b => wpAny_mono (next h'' a b) (fun r s' q => by
            cases r with
            | yield b => exact q
            | done b => exact q.elim) fun _ _ e => e
      show wpAny _ _ (holding [eso[x].key, eso[x].val] (if unique = true then _ else _) >>= _) _ _ _
      refine wpAny_bind (wpAny_holding ?_)
      cases unique with
      | false =>
        rw [if_neg (by decide)]
        exact wpAny_mono fin (fun _ s' q => wpAny_mono q (fun r s2 q2 => by cases r <;> exact q2) fun _ _ e => e) fun _ _ e => e
      | true =>
        rw [if_pos rfl]
        obtain ⟨od', es', ep', hod', hcd', hdd', hkd', hpd', hnd'⟩ := id hd'
        rw [hhash] at fin ⊢
        refine wpAny_bind (wpAny_dictFind_of hkey hod' hdd' hkd' ?_)
        have hidx : (es'.findIdx? fun e => knd.is k' e.key) = (merged kvs (more.take x)).findIdx? fun kv => decide (kv.1 = k') := by
          rw [← hpd'.findIdx k']; obtain ⟨l⟩ := es'; simp
        have hno' : ((merged kvs (more.take x)).findIdx? fun kv => decide (kv.1 = k')) = none := by
          have nd := hu rfl
          have sub : ((kvs ++ more.take x).map (·.1)).Nodup := by
            refine List.Nodup.sublist ?_ nd
            exact ((List.Sublist.refl kvs).append (List.take_sublist x more)).map _
          rw [merged_append_of_fresh kvs (more.take x) sub, List.findIdx?_eq_none_iff]
          intro kv mkv
          rw [decide_eq_false_iff_not]
          intro e
          have spl : kvs ++ more = (kvs ++ more.take x) ++ (k', v) :: more.drop (x + 1) := by
            rw [List.append_assoc]
            congr 1
            have := List.take_append_drop x more
            rw [List.drop_eq_getElem_cons (by rw [hlen]; exact hlt)] at this
            have e2 : more[x]'(by rw [hlen]; exact hlt) = (k', v) := by
              have := List.getElem?_eq_getElem (l := more) (i := x) (by rw [hlen]; exact hlt)
              rw [hkv] at this
              exact (Option.some.inj this).symm
            rw [e2] at this
            exact this.symm
          rw [spl, List.map_append, List.map_cons, List.nodup_append] at nd
          exact nd.2.2 kv.1 (List.mem_map.mpr ⟨kv, mkv, rfl⟩) k' List.mem_cons_self e
        rw [hidx, hno', if_neg (by decide)]
        exact wpAny_mono fin (fun _ s' q => wpAny_mono q (fun r s2 q2 => by cases r <;> exact q2) fun _ _ e => e) fun _ _ e => e
    · rintro b s' ⟨h', i, rfl, hr, hi, hd', hoo', hs'⟩
      have hin : i = eso.size := by
        rcases Nat.lt_or_ge i eso.size with h | h
        · have e : eso.size - i = (eso.size - (i + 1)) + 1 := by omega
          rw [e, List.range'_succ] at hr; exact nomatch hr
        · exact Nat.le_antisymm hi h
      refine wpAny_pure (hQ h' ?_ ⟨oo, eso, epo, hoo', hco, hdo', hko, hpo, hno⟩ hs')
      rw [hin, ← hlen, List.take_length] at hd'; exact hd'
end
end PySem

/-! {**a, **b, **c} -/
namespace TK
open PySem PySem.Spec PyProof.Rows L2
section
variable {X : Cx}
theorem mix_nr {P : Program} {w : World} (k : Key) (a : Addr) : (mixKind P w).is k (.ref a) = false := by
  cases h : (mixKind P w).is k (.ref a) with
  | false => rfl
  | true => rcases keyIs_shape h with ⟨i, t, _, e⟩ | ⟨i, t, _, e⟩ <;> cases e
theorem star_step {pins : List (Addr × Obj)} {σ : L2.St} {H : Hp} {s : Shared} {E : Value → Shared → Prop} {Q : Unit → Shared → Prop} (I : Inv X pins σ H s) {p a : Addr} {kvs more : List (Key × V)} (hp : H p = some (.dK kvs)) (ha : H a = some (.dK more)) (ne : p ≠ a) (hl : kvs.length + more.length ≤ sizeLine)
    (q : ∀ s', Inv X pins σ (upd H p (.dK (mergeK kvs more))) s' → Q () s') : wpAny (model X.prog X.w) X.A (mergeMapping p (.ref a) false) Q E s := by
  obtain ⟨z, hd, vs, rel, dd⟩ := dk_of I.hok hp
  obtain ⟨z2, hd2, vs2, rel2, dd2⟩ := dk_of I.hok ha
  have l1 : kvs.length = vs.length := rel.length
  have l2 : more.length = vs2.length := rel2.length
  refine wpAny_mergeMapping (knd := mixKind X.prog X.w) false mix_nr ne hd2 dd dd2 (fun h => nomatch h) (fun h' dd' _ hs => q _ ?_) (by omega)
  have he : ∃ q, h'.get? p = some q := let ⟨q, _, _, hq, _⟩ := dd'; ⟨q, hq⟩
  have hz : (mergeK kvs more).length ≤ sizeLine := Nat.le_trans (length_mergeK more kvs) hl
  exact d_write I (by rw [hp]; exact True.intro) hs he (dk_new hz hd (rel2.merge rel) dd')
def tStar3 (t1 t2 t3 : TE) : TE := fun σ H Q => ∀ p, H p = none → t1 σ (upd H p (.dK [])) fun x1 H1 => ∃ a1 m1, x1 = .ref a1 ∧ p ≠ a1 ∧ H1 p = some (.dK []) ∧ H1 a1 = some (.dK m1) ∧ m1.length ≤ 100 ∧
  t2 σ (upd H1 p (.dK (mergeK [] m1))) fun x2 H2 => ∃ a2 k2 m2, x2 = .ref a2 ∧ p ≠ a2 ∧ H2 p = some (.dK k2) ∧ H2 a2 = some (.dK m2) ∧ k2.length ≤ 200 ∧ m2.length ≤ 100 ∧
  t3 σ (upd H2 p (.dK (mergeK k2 m2))) fun x3 H3 => ∃ a3 k3 m3, x3 = .ref a3 ∧ p ≠ a3 ∧ H3 p = some (.dK k3) ∧ H3 a3 = some (.dK m3) ∧ k3.length ≤ 400 ∧ m3.length ≤ 100 ∧ Q (.ref p) (upd H3 p (.dK (mergeK k3 m3)))
theorem pe_star3 {e1 e2 e3 : Expr} {pos : Pos} {t1 t2 t3 : TE} (h1 : PE X e1 t1) (h2 : PE X e2 t2) (h3 : PE X e3 t3) :
    PE X (.Dict [none, none, none] [e1, e2, e3] pos) (tStar3 t1 t2 t3) := by
  refine ⟨fun pins s σ H Q I q => ?_⟩
  rw [arm_eval_Dict]
  have sh : (evalEachOpt [none, none, none] X.env).zip ((evalEach [e1, e2, e3] X.env).map fun v => do let x ← v; standAt pos; pure x) = [(none, do let x ← eval e1 X.env; standAt pos; pure x), (none, do let x ← eval e2 X.env; standAt pos; pure x), (none, do let x ← eval e3 X.env; standAt pos; pure x)] := rfl
  rw [sh]
  unfold dictDisplay
  simp only [List.forIn_cons, List.forIn_nil, List.isEmpty_nil, if_true, pure_bind, bind_assoc]
  have hn := I.hok.fresh (Nat.le_refl s.heap.objs.size)
  have I1 := I.laid (a := s.heap.objs.size) (o := .dK []) (h' := s.heap.push { cls := .type "dict", data := .dict #[] }) (t' := s.toks) (fun _ _ q => Heap.get?_push_of_some _ q) (Nat.le_refl _) (dk_empty s.heap I.big)
  refine wpAny_bind (wpAny_standAt (wpAny_bind (wpAny_alloc ?_)))
  generalize hp : s.heap.objs.size = p at hn I1 ⊢
  have sz : (1000 : Nat) ≤ sizeLine := by decide
  refine wpAny_bind (wpAny_holding (wpAny_bind (thn (h1.run pins _ σ _ _ I1 (q p hn)) fun u1 s1 ⟨x1, H1, I2, r1, a1, m1, e1', n1, hp1, ha1, l1, q1⟩ => wpAny_bind (wpAny_standAt (wpAny_pure ?_)))))
  subst e1'
  obtain rfl : u1 = Value.ref a1 := r1
  refine wpAny_bind (wpAny_onRaise (wpAny_tryCatch (wpAny_onRaise (wpAny_holding (star_step I2 hp1 ha1 n1 (by simp only [List.length_nil]; omega) fun s2 I3 => ?_)))))
  refine wpAny_bind (wpAny_holding (wpAny_bind (thn (h2.run pins _ σ _ _ I3 q1) fun u2 s3 ⟨x2, H2, I4, r2, a2, k2, m2, e2', n2, hp2, ha2, l2, l2', q2⟩ => wpAny_bind (wpAny_standAt (wpAny_pure ?_)))))
  subst e2'
  obtain rfl : u2 = Value.ref a2 := r2
  refine wpAny_bind (wpAny_onRaise (wpAny_tryCatch (wpAny_onRaise (wpAny_holding (star_step I4 hp2 ha2 n2 (by omega) fun s4 I5 => ?_)))))
  refine wpAny_bind (wpAny_holding (wpAny_bind (thn (h3.run pins _ σ _ _ I5 q2) fun u3 s5 ⟨x3, H3, I6, r3, a3, k3, m3, e3', n3, hp3, ha3, l3, l3', q3⟩ => wpAny_bind (wpAny_standAt (wpAny_pure ?_)))))
  subst e3'
  obtain rfl : u3 = Value.ref a3 := r3
  refine wpAny_bind (wpAny_onRaise (wpAny_tryCatch (wpAny_onRaise (wpAny_holding (star_step I6 hp3 ha3 n3 (by omega) fun s6 I7 => ?_)))))
  exact wpAny_pure ⟨.ref p, _, I7, rfl, q3⟩
end
end TK

/-! a call with **d -/
namespace PySem
open Sem (wp)
namespace W
section
variable {M : Model} {A : Around} {E : Value → Shared → Prop} {s : Shared} {K : Frag}
theorem call_kws {f : Value} {first : List Value} {pos : Pos} {Q : Value → Shared → Prop} {P : Heap → Prop} {args : List (Bool × Sem Value)} {kws : List (Option Str × Sem Value)} (hst : (args.any (·.1) || kws.any (·.1.isNone)) = true)
    (hk : ∀ h, P h → ∃ k, (k = Keeper.frame ∨ k = Keeper.machine ∨ k = Keeper.boundFrame) ∧ Looks M h (keeperOf f) k)
    (h : wpAny M A (evalArgs f true args kws) (fun a s₁ => P s₁.heap ∧ wpAny M A (call f (first ++ a.pos) a.kw) Q E s₁) E s) : wpAny M A (callWith pos f first args kws) Q E s := by
  unfold callWith
  refine wpAny_bind (wpAny_holding (wpAny_mono h (fun a s₁ h₁ => wpAny_bind (wpAny_standAt ?_)) fun _ _ x => x))
  obtain ⟨k, hk', L⟩ := hk _ h₁.1
  simp only [hst]
  refine wpAny_bind (L.here ?_)
  have tail : ∀ {t : Sem Value}, wpAny M A t Q E s₁ → wpAny M A (t >>= fun r => holding [r] point >>= fun _ => pure r) Q E s₁ :=
    fun ht => wpAny_bind (wpAny_mono ht (fun r s₂ hr => wpAny_bind (wpAny_holding (wpAny_point (wpAny_pure hr)))) fun _ _ x => x)
  have marked (mk : Value) : wpAny M A (callMarked mk f (first ++ a.pos) a.kw) Q E s₁ := by unfold callMarked; exact Calls.wpAny_keep h₁.2
  rcases hk' with rfl | rfl | rfl <;> dsimp only <;> first | exact tail (marked _) | exact tail (wpAny_operating h₁.2)
end
section
variable {P : Program} {w : World} {A : Around} {E : Value → Shared → Prop} {s : Shared}
abbrev kwK (ks : List (Str × Value)) : List (L2.Key × Value) := ks.map fun kv => (.inr kv.1, kv.2)
theorem kw_collect (g : DictEntry → List (Str × Value) → Sem (ForInStep (List (Str × Value)))) (hg : ∀ (x : Str) (t : Tok) (h : Int) (v : Value) (acc : List (Str × Value)), g ⟨h, .str x t, v⟩ acc = pure (.yield (acc ++ [(x, v)]))) :
    ∀ {es : List DictEntry} {ks : List (Str × Value)} (acc : List (Str × Value)), Pairs (L2.mixKind P w) es (kwK ks) → forIn es acc g = (pure (acc ++ ks) : Sem (List (Str × Value)))
  | [], ks, acc, h => by
    cases ks with
    | nil => simp
    | cons k ks => cases h
  | e :: es, ks, acc, h => by
    cases ks with
    | nil => cases h
    | cons k ks =>
      cases h with
      | cons h1 h2 h3 =>
        obtain ⟨hh, key, val⟩ := e
        have h1 : L2.keyIs (.inr k.1) key = true := h1
        rcases L2.keyIs_shape h1 with ⟨i, t, ek, _⟩ | ⟨x, t, ek, ev⟩
        · cases ek
        · cases ek
          have ev : key = Value.str k.1 t := ev
          subst ev
          have h2 : val = k.2 := h2
          subst h2
          rw [List.forIn_cons, hg, pure_bind]
          have := kw_collect g hg (acc ++ [(k.1, k.2)]) h3
          simpa using this
theorem wpAny_keywordsIn {f : Value} {d : Addr} {ks : List (Str × Value)} {Q : List (Str × Value) → Shared → Prop} (dd : s.heap.DictOf (L2.mixKind P w) d (kwK ks)) (q : Q ks s) : wpAny (model P w) A (keywordsIn f d) Q E s := by
  obtain ⟨o, es, ep, ho, hc, hd, hk, hp, hn⟩ := dd
  unfold keywordsIn
  refine wpAny_bind (wpAny_dictEntries ho hd ?_)
  rw [← Array.forIn_toList, kw_collect (P := P) (w := w) _ (fun x t h v acc => rfl) [] hp, List.nil_append]
  exact wpAny_bind (wpAny_pure (wpAny_pure q))
end
end W
end PySem

namespace PySem
open Sem (wp)
namespace W
section
variable {P : Program} {w : World} {A : Around} {E : Value → Shared → Prop} {s : Shared}
theorem mix_nr {P : Program} {w : World} (k : L2.Key) (a : Addr) : (L2.mixKind P w).is k (.ref a) = false := by
  cases h : (L2.mixKind P w).is k (.ref a) with
  | false => rfl
  | true => rcases L2.keyIs_shape h with ⟨i, t, _, e⟩ | ⟨i, t, _, e⟩ <;> cases e
theorem wpAny_ifT {M : Model} {α : Type} {c : Bool} {x y : Sem α} {Q : α → Shared → Prop} (e : c = true) (h : wpAny M A x Q E s) : wpAny M A (if c = true then x else y) Q E s := by
  rw [if_pos e]; exact h
theorem wpAny_mergedKeywords {f : Value} {x : Sem Value} {Q : Addr → Shared → Prop}
    (h : wpAny (model P w) A x (fun m s2 => ∃ (a : Addr) (ks : List (Str × Value)), m = .ref a ∧ s.heap.objs.size ≠ a ∧ (a == sysModules) = false ∧ s2.heap.DictOf (L2.mixKind P w) s.heap.objs.size [] ∧ s2.heap.DictOf (L2.mixKind P w) a (kwK ks) ∧ ks.length ≤ 400 ∧
      ∀ h', h'.DictOf (L2.mixKind P w) s.heap.objs.size (kwK ks) → Heap.SameBut s.heap.objs.size s2.heap h' → Q s.heap.objs.size { s2 with heap := h' }) E { s with heap := s.heap.push { cls := .type "dict", data := .dict #[] } }) :
    wpAny (model P w) A (mergedKeywords f [(none, x)]) Q E s := by
  unfold mergedKeywords
  refine wpAny_bind (wpAny_alloc ?_)
  refine wpAny_bind (wpAny_holding ?_)
  refine wpAny_bind ?_
  rw [List.forIn_cons]
  refine wpAny_bind ?_
  refine wpAny_bind ?_
  refine wpAny_ifT rfl (wpAny_pure ?_)
  refine wpAny_bind (wpAny_mono h (fun m s2 q => ?_) fun _ _ e => e)
  obtain ⟨a, ks, rfl, ne, sm, d0, da, l4, q⟩ := q
  obtain ⟨_, _, _, _, _, _, _, _, hno⟩ := id da
  refine wpAny_bind (wpAny_onRaise (wpAny_holding (wpAny_tryCatch (wpAny_onRaise (wpAny_mergeMapping (knd := L2.mixKind P w) true mix_nr ne sm d0 da (fun _ => by simpa using hno) (fun h' dd' _ hs => ?_) ?_)))))
  · rw [merged_nil_of_nodup _ hno] at dd'
    refine wpAny_pure ?_
    show wpAny _ _ (forIn ([] : List (Option Str × Sem Value)) ([] : List (Str × Sem Value)) _) _ _ _
    rw [List.forIn_nil]
    refine wpAny_pure ?_
    exact wpAny_ifT rfl (wpAny_pure (wpAny_pure (q h' dd' hs)))
  · rw [List.length_nil, List.length_map, sizeLine_eq]; omega
theorem evalArgs_kws {f : Value} {rest : List (Bool × Sem Value)} {y x : Sem Value} {Q : Args → Shared → Prop}
    (h : wpAny (model P w) A (spliced ((false, y) :: rest)) (fun vs s1 => wpAny (model P w) A (mergedKeywords f [(none, x)]) (fun d s2 => ∃ ks, s2.heap.DictOf (L2.mixKind P w) d (kwK ks) ∧ Q ⟨vs, ks⟩ s2) E s1) E s) :
    wpAny (model P w) A (evalArgs f true ((false, y) :: rest) [(none, x)]) Q E s := by
  unfold evalArgs
  show wpAny _ A (spliced ((false, y) :: rest) >>= _) Q E s
  refine wpAny_bind (wpAny_mono h (fun vs s₁ h₁ => ?_) fun _ _ x => x)
  refine wpAny_holding ?_
  show wpAny _ _ (mergedKeywords f [(none, x)] >>= _) _ _ _
  refine wpAny_bind (wpAny_mono h₁ (fun d s₂ h₂ => ?_) fun _ _ x => x)
  obtain ⟨ks, dd, q⟩ := h₂
  refine wpAny_bind (wpAny_pure ?_)
  exact wpAny_bind (wpAny_holding (wpAny_keywordsIn dd (wpAny_pure q)))
end
end W
end PySem

namespace TK
open PySem PySem.Spec PyProof.Rows L2
/-- keywords as a dict -/
def kwV (ks : List Str) (zs : List V) : List (Key × V) := (ks.zip zs).map fun p => (.inr p.1, p.2)
theorem kw_back : ∀ {ks : List Str} {zs : List V} {vs : List (Key × Value)}, KV (kwV ks zs) vs → zs.length = ks.length → ∃ ws : List Value, vs = PySem.W.kwK (ks.zip ws) ∧ Vals zs ws ∧ ws.length = ks.length
  | [], zs, vs, h, l => by
    have : zs = [] := List.eq_nil_of_length_eq_zero l
    subst this
    cases h
    exact ⟨[], rfl, .nil, rfl⟩
  | k :: ks, [], vs, h, l => by cases l
  | k :: ks, z :: zs, vs, h, l => by
    cases h with
    | @cons a b as bs h1 h2 =>
      obtain ⟨ws, e, r, l2⟩ := kw_back (ks := ks) (zs := zs) h2 (Nat.succ.inj l)
      obtain ⟨b1, b2⟩ := b
      obtain ⟨e1, e2⟩ := h1
      have e1 : (.inr k : Key) = b1 := e1
      subst e1
      exact ⟨b2 :: ws, by rw [e]; rfl, .cons e2 r, congrArg Nat.succ l2⟩
def tMakeKS (C : Addr) (n : Nat) (ks : List Str) (sp : Sp) (gV : List V → List V → List V) (E : XK) (t : TA) (tk : TE) : TE := fun σ H Q => t σ H fun vs H1 => ∀ d, H1 d = none → tk σ (upd H1 d (.dK [])) fun y H2 => ∃ a zs, y = .ref a ∧ d ≠ a ∧ H2 d = some (.dK []) ∧ H2 a = some (.dK (kwV ks zs)) ∧ vs.length = n ∧ zs.length = ks.length ∧ zs.length ≤ 400 ∧
  ∀ H3, H3 = upd H2 d (.dK (kwV ks zs)) → ∀ x dx, H3 x = none → H3 dx = none → dx ≠ x → sp (gV (.ref x :: vs) zs) (upd (upd H3 dx (.own x)) x (.ins C dx [])) (fun v H4 => v = .non ∧ Q (.ref x) H4) E
section
variable {X : Cx} {CX : CXT} {k n : Nat} {f C : Addr} {fd : FuncData} {ps ks : List Str} {sp : Sp} {E : XK} {x : Str} {p pos kp : Pos} {e ek : Expr} {es : List Expr} {t : TA} {tk : TE} {g : List Value → List Value → List Value} {gV : List V → List V → List V}
/-- C(e, .., **d) -/
theorem pe_makeKS (M : Mk X.K C f) (F : FnOk X.prog X.w X.K X.mg X.base CX k f fd ps sp) (hr : Room (k + 1) X.A) (hg : Gl X x) (hm : X.mg x = some (.ref C)) (hb : KBn X.K fd ps (n + 1) ks g gV) (hx : Passes CX X E) (ha : PA X (e :: es) t) (hk : PE X ek tk)
    (hdb : (x == ("__debug__" : Str)) = false := by decide) (he : starEach (e :: es) X.env = (false, eval e X.env) :: starEach es X.env := by rfl) :
    PE X (.Call (.Name x p) (e :: es) [⟨none, ek, kp⟩] pos) (tMakeKS C n ks sp gV E t tk) := by
  refine ⟨fun pins s σ H Q I h => ?_⟩
  refine wpAny_Call_Name_kw (ld_glob I hg hm ?_ hdb)
  have hst : ((backTo pos (starEach (e :: es) X.env)).any (·.1) || (backToKw pos (keywordEach [⟨none, ek, kp⟩] X.env)).any (·.1.isNone)) = true := by
    rw [Bool.or_eq_true]; exact .inr rfl
  refine PySem.W.call_kws (P := X.K.In) hst (PySem.W.keeps_K M.kp) ?_
  have hs := ha.run pos pins s σ H _ I h
  rw [he] at hs ⊢
  show wpAny _ _ (evalArgs (.ref C) true ((false, eval e X.env) :: backTo pos (starEach es X.env)) [(none, do let v ← eval ek X.env; standAt pos; pure v)]) _ _ _
  refine PySem.W.evalArgs_kws (thn hs fun us s1 ⟨vs, H1, I1, r, q⟩ => ?_)
  have hn := I1.hok.fresh (Nat.le_refl s1.heap.objs.size)
  have I2 := I1.laid (a := s1.heap.objs.size) (o := .dK []) (h' := s1.heap.push { cls := .type "dict", data := .dict #[] }) (t' := s1.toks) (fun _ _ q => Heap.get?_push_of_some _ q) (Nat.le_refl _) (dk_empty s1.heap I1.big)
  refine PySem.W.wpAny_mergedKeywords (wpAny_bind (thn (hk.run pins _ σ _ _ I2 (q _ hn)) fun u s2 ⟨y, H2, I3, ry, a, zs, ey, ne, hd, hA, l1, l2, l4, q2⟩ => wpAny_bind (wpAny_standAt (wpAny_pure ?_))))
  subst ey
  obtain rfl : u = Value.ref a := ry
  obtain ⟨z0, hd0, vs0, r0, dd0⟩ := dk_of I3.hok hd
  cases r0
  obtain ⟨z1, hd1, vs1, r1, dd1⟩ := dk_of I3.hok hA
  obtain ⟨ws, ew, rz, lw⟩ := kw_back r1 l2
  subst ew
  refine ⟨a, ks.zip ws, rfl, ne, hd1, dd0, dd1, by rw [List.length_zip, lw]; omega, fun h' dd' hs' => ⟨ks.zip ws, dd', ?_⟩⟩
  have hex : ∃ q, h'.get? s1.heap.objs.size = some q := let ⟨q, _, _, hq, _⟩ := dd'; ⟨q, hq⟩
  have I4 := d_write (t' := s2.toks) I3 (by rw [hd]; exact True.intro) hs' hex (dk_new (kvs := kwV ks zs) z1 hd0 r1 dd')
  exact ⟨I4.kIn, run_makeK M F hr hb hx I4 r rz l1 l2 (q2 _ rfl)⟩
end
end TK

/-! def f(a, .., **d), called with one keyword that is no parameter's name -/
namespace PySem
open Sem (wp)
namespace W
section
variable {P : Program} {w : World} {A : Around} {E : Value → Shared → Prop} {s : Shared}
theorem wpAny_nsSet_new {d : Addr} {x : Str} {v : Value} {Q : Unit → Shared → Prop} (ho : s.heap.get? d = some { cls := .type "dict", data := .dict #[] })
    (h : ∀ h', h'.DictOf (L2.mixKind P w) d [(.inr x, v)] → Heap.SameBut d s.heap h' → Q () { s with heap := h', toks := s.toks + 1 }) : wpAny (model P w) A (nsSet d x v) Q E s := by
  unfold nsSet strHash
  refine wpAny_bind (wpAny_bind (wpAny_askSetting (wpAny_pure ?_)))
  refine wpAny_bind (wpAny_mkText ?_)
  refine wpAny_bind (wpAny_loadPart (s := { s with toks := s.toks + 1 }) ho ?_)
  dsimp only
  rw [if_neg (by rw [aRefKeyMayBeTheName_eq]; simp [aRefKeyMayBeTheNameByArray])]
  refine wpAny_updatePart (s := { s with toks := s.toks + 1 }) ho (h _ ?_ (Heap.SameBut.update ..))
  have e : ∀ (hh : Int) (key : Value), Obj.putName x hh key v { cls := .type "dict", data := .dict #[] } = { cls := .type "dict", data := .dict #[⟨hh, key, v⟩] 1 } := fun hh key => by
    rw [Obj.putName_eq]
    simp [Obj.putNameByArray]
  have g := Heap.get?_update_self (h := s.heap) (a := d) (Obj.putName x (if x.cps.isEmpty then 0 else reduceHash (w.params.strHash x.cps)) (.str x s.toks) v) ho (by rw [e]; rfl)
  rw [e] at g
  refine ⟨_, _, 1, g, ⟨rfl, rfl, rfl⟩, rfl, fun e he => ⟨.inr x, ?_, ?_⟩, .cons ?_ rfl .nil, by simp⟩
  · have he := List.mem_singleton.mp (Array.mem_def.mp he); subst he; exact L2.mixKind_str P w x s.toks
  · have he := List.mem_singleton.mp (Array.mem_def.mp he); subst he; rfl
  · exact L2.mixKind_str P w x s.toks
end
end W
end PySem

namespace TK
open PySem PySem.Spec PyProof.Rows L2 StX
section
variable {P : Program} {w : World} {K : PySem.W.Frag} {mg : Str → Option Value} {base : Heap} {A : Around} {outer : List Env} {s : Shared} {H : Hp}
theorem env0_new {h' : Heap} {u : HO} {t' : Nat} (e0 : Env0 P w K mg base A outer s H) (kp : ∀ b x, s.heap.get? b = some x → h'.get? b = some x) (sz : s.heap.objs.size ≤ h'.objs.size) (new : ObjOk P w (upd H s.heap.objs.size u) h' s.heap.objs.size u) :
    Env0 P w K mg base A outer { s with heap := h', toks := t' } (upd H s.heap.objs.size u) := by
  refine ⟨e0.frames, e0.mod, fun b x e => ⟨kp b x (e0.bs b x e).1, ?_⟩, Nat.le_trans e0.bsz sz, Heap.FunFrames.of_keeps (fun b x e _ => ⟨x, kp b x e, rfl⟩) e0.funs, fun b hb => ?_, e0.hok.laid kp (Nat.le_refl _) new, e0.bare⟩
  · rw [upd_ne (Nat.ne_of_lt (Heap.lt_size (e0.bs b x e).1))]
    exact (e0.bs b x e).2
  · obtain ⟨_, x, hx, _⟩ := e0.funs.mem hb
    rw [upd_ne (Nat.ne_of_lt (Heap.lt_size hx))]
    exact e0.frf b hb
end
/-- a promise of a def that is called with one keyword -/
def FnK1 (P : Program) (w : World) (K : PySem.W.Frag) (mg : Str → Option Value) (base : Heap) (CX : CXT) (k : Nat) (f : Addr) (kk : Str) (sp : List V → V → Hp → VK → XK → Prop) : Prop :=
  ∀ (A : Around) (outer : List Env) (s : Shared) (H : Hp) (us : List Value) (vs : List V) (z : Value) (zv : V) (Q : VK) (E : XK), Room k A → Env0 P w K mg base A outer s H → Vals vs us → RelV zv z → sp vs zv H Q E →
    codeAny (model P w) A (.call (.ref f) ⟨us, [(kk, z)]⟩) (CR CX outer P w H s Q E) s
section
variable {CX : CXT} {P : Program} {w : World} {K : PySem.W.Frag} {mg : Str → Option Value} {base : Heap} {k : Nat} {f : Addr} {name qual : Str} {params : Arguments} {body : List Stmt} {scope : Scope} {dV kV doc pm cdv ct oc : Value} {an od : Option Addr}
  {osl : Array (Option Value)} {N ps : List Str} {sp : Sp}
theorem fn_kw1 {pd kk : Str} (lk : K.lookup f = some ⟨oc, od, .func (PySem.W.fnOf name qual params body scope dV kV doc pm an cdv ct), osl⟩) (hcd : PySem.W.codeIn K cdv qual = true) (S : FnScope N (ps ++ [pd]) scope) (hCX : CXUp CX)
    (hb : ∀ (us : List Value) (z : Value), us.length = ps.length → bindArgs (PySem.W.fnOf name qual params body scope dV kV doc pm an cdv ct) ⟨us, [(kk, z)]⟩ =
      ((alloc ({ cls := .type "dict", data := .dict #[] } : Obj) : Sem Addr) >>= fun d => nsSet d kk z >>= fun _ => pure (ps.zip us ++ [(pd, Value.ref d)])))
    (hbody : ∀ (A : Around) (outer : List Env) (s : Shared) (H : Hp) (vs : List V) (Q : VK) (E : XK), Room k (A.deeper (envOfC qual scope s.heap.objs.size f cdv)) → sp vs H Q E →
      ∃ t, PSs (cxOf CX P w K mg base N qual scope f cdv A outer s H E) body t ∧ t { nx := fun _ H' => Q .non H', rt := Q } (start N vs) H) :
    FnK1 P w K mg base CX (k + 1) f kk (fun vs zv H Q E => vs.length = ps.length ∧ ∀ d, H d = Option.none → sp (vs ++ [V.ref d]) (upd H d (.dK [(.inr kk, zv)])) Q E) := by
  intro A outer s H us vs z zv Q E hr e0 r rz hsp
  obtain ⟨hl, hq⟩ := hsp
  have hn : H s.heap.objs.size = Option.none := e0.hok.fresh (Nat.le_refl _)
  have hlu : us.length = ps.length := by rw [← r.length]; exact hl
  refine run_bnd lk hcd S hr e0 (G := fun xs H2 => ∃ d, H d = Option.none ∧ xs = vs ++ [V.ref d] ∧ H2 = upd H d (.dK [(.inr kk, zv)])) (fun A' Ex Q' h => ?_) fun s2 H2 xs ⟨d, hd, ex, eH⟩ hr' => ?_
  · rw [hb us z hlu]
    refine wpAny_bind (wpAny_alloc (wpAny_bind ?_))
    have hp : ({ s with heap := s.heap.push { cls := .type "dict", data := .dict #[] } } : Shared).heap.get? s.heap.objs.size = some { cls := .type "dict", data := .dict #[] } := Heap.get?_push_size _ rfl
    refine PySem.W.wpAny_nsSet_new (P := P) (w := w) hp fun h' dd hs => wpAny_pure ?_
    have kp : ∀ b x, s.heap.get? b = some x → h'.get? b = some x := fun b x e => by
      rw [hs.2 b (Nat.ne_of_lt (Heap.lt_size e))]
      exact Heap.get?_push_of_some _ e
    have sz : s.heap.objs.size ≤ h'.objs.size := by
      rw [hs.1]
      show s.heap.objs.size ≤ (s.heap.push _).objs.size
      rw [Heap.size_push]; exact Nat.le_succ _
    have hsm : (s.heap.objs.size == sysModules) = false := beq_eq_false_iff_ne.mpr (Nat.ne_of_gt (env0_big e0))
    have new : ObjOk P w (upd H s.heap.objs.size (.dK [(.inr kk, zv)])) h' s.heap.objs.size (.dK [(.inr kk, zv)]) := ⟨(show (1 : Nat) ≤ sizeLine by decide), hsm, [(.inr kk, z)], .cons ⟨rfl, rz⟩ .nil, dd⟩
    have un : Un (frs outer) [] H (upd H s.heap.objs.size (.dK [(.inr kk, zv)])) s.heap h' := Un.laid kp (Nat.le_refl _) hn
    have z2 := h _ _ (vs ++ [V.ref s.heap.objs.size]) (us ++ [Value.ref s.heap.objs.size]) (env0_new (t' := s.toks + 1) e0 kp sz new) un rfl (fun e s' => hCX outer s H _ _ E e s' un kp rfl) (r.append (.cons rfl .nil))
      (by rw [List.length_append, List.length_append, hl]; rfl) ⟨_, hn, rfl, rfl⟩
    rw [List.zip_append hlu.symm] at z2
    exact z2
  · subst ex eH
    exact hbody A outer s2 _ _ Q E hr' (hq d hd)
end
end TK

namespace TK
open PySem PySem.Spec PyProof.Rows L2
section
variable {X : Cx} {CX : CXT} {k : Nat} {f C : Addr} {kk m : Str} {sp : List V → V → Hp → VK → XK → Prop} {E : XK} {o e : Expr} {apos pos kp : Pos} {ta te : TE}
theorem run_fnK1 {pins : List (Addr × Obj)} {σ : L2.St} {H : Hp} {s : Shared} {Q : VK} {us : List Value} {vs : List V} {z : Value} {zv : V} (F : FnK1 X.prog X.w X.K X.mg X.base CX k f kk sp) (hr : Room k X.A) (hx : Passes CX X E) (I : Inv X pins σ H s) (r : Vals vs us) (rz : RelV zv z) (h : sp vs zv H Q E) :
    codeAny (model X.prog X.w) X.A (.call (.ref f) ⟨us, [(kk, z)]⟩) (fun r s' => match r with | .ok (.ret v) => EP X pins σ Q v s' | .ok _ => False | .error e => X.xe e s') s := by
  refine codeAny_mono (F X.A X.stack s H us vs z zv Q E hr I.env0 r rz h) fun r s' hq => ?_
  cases r with
  | error e => exact hx pins σ H s e s' I hq
  | ok fl =>
    cases fl with
    | ret u => exact I.after hq
    | next => exact False.elim hq
    | brk => exact False.elim hq
    | cont => exact False.elim hq
/-- o.m(k = e), m with **d -/
theorem pe_meth1 {pl : Sem Bool} (he : PE X o ta) (c : Cls X.K C) (hm : Meth X.K C m f) (F : FnK1 X.prog X.w X.K X.mg X.base CX k f kk sp) (hr : Room k X.A) (hx : Passes CX X E) (hk : PE X e te)
    (ht : eval (.Call (.Attribute o m apos) [] [⟨some kk, e, kp⟩] pos) X.env = (do
      let ov ← eval o X.env
      standAt apos.atName
      let (f, first) ← holding [ov] (getMethod ov m pl)
      callWith pos f first (backTo pos (starEach [] X.env)) (backToKw pos (keywordEach [⟨some kk, e, kp⟩] X.env))) := by rfl) :
    PE X (.Call (.Attribute o m apos) [] [⟨some kk, e, kp⟩] pos) (fun σ H Q => ta σ H fun x H1 => ∃ a dx fs, x = .ref a ∧ H1 a = some (.ins C dx fs) ∧ fs.lookup m = none ∧ te σ H1 fun z H2 => sp [.ref a] z H2 Q E) := by
  refine ⟨fun pins s σ H Q I h => ?_⟩
  refine PySem.W.methodCall_KW (pl := pl) (thn (he.run pins s σ H _ I h) fun u s1 ⟨x, H1, I1, rx, a, dx, fs, ex, ea, l, q⟩ => ?_) ht
  subst ex
  obtain rfl : u = Value.ref a := rx
  refine getmeth_ok I1 ea c hm l ?_
  refine PySem.W.callWith_KW0 (first := [.ref a]) (h₀ := X.base) I.ok.mod.kin hm.kp rfl ?_ rfl
  show wpAny _ _ (evalAll [do let v ← eval e X.env; standAt pos; pure v]) _ _ s1
  refine wpAny_evalAll_cons (wpAny_bind (thn (hk.run pins s1 σ H1 _ I1 q) fun u s2 ⟨z, H2, I2, rz, q2⟩ => wpAny_bind (wpAny_standAt (wpAny_pure ?_))))
  exact wpAny_evalAll_nil ⟨I2.kIn, wpAny_call (run_fnK1 (us := [.ref a]) (vs := [.ref a]) F hr hx I2 (.cons rfl .nil) rz q2)⟩
end
end TK

namespace TK
open PySem PySem.Spec PyProof.Rows L2
def topS (i : Nat) : Stmt := PySem.Challenge.pw_turnsandkeys_k35_floor_and_few.main.body.getD i (.Pass ⟨0, 0, 0, 0⟩)
abbrev s_wall : Stmt := topS 1
theorem sc_wall : FnScope ["k"] ["k"] (defScope s_wall) := ⟨rfl, rfl, rfl, by decide +kernel, rfl, by decide +kernel, by decide +kernel⟩
abbrev s_is_name : Stmt := topS 13
theorem sc_is_name : FnScope ["word", "sign"] ["word"] (defScope s_is_name) := ⟨rfl, rfl, rfl, by decide +kernel, rfl, by decide +kernel, by decide +kernel⟩
abbrev s_check_size : Stmt := topS 14
theorem sc_check_size : FnScope ["size", "low", "high"] ["size", "low", "high"] (defScope s_check_size) := ⟨rfl, rfl, rfl, by decide +kernel, rfl, by decide +kernel, by decide +kernel⟩
abbrev s_check_range : Stmt := topS 15
theorem sc_check_range : FnScope ["number", "low", "high"] ["number", "low", "high"] (defScope s_check_range) := ⟨rfl, rfl, rfl, by decide +kernel, rfl, by decide +kernel, by decide +kernel⟩
abbrev s_check_names : Stmt := topS 16
theorem sc_check_names : FnScope ["names", "most", "hook", "at", "name"] ["names", "most", "hook"] (defScope s_check_names) := ⟨rfl, rfl, rfl, by decide +kernel, rfl, by decide +kernel, by decide +kernel⟩
abbrev s_check_known : Stmt := topS 17
theorem sc_check_known : FnScope ["names", "known", "name"] ["names", "known"] (defScope s_check_known) := ⟨rfl, rfl, rfl, by decide +kernel, rfl, by decide +kernel, by decide +kernel⟩
abbrev s_check_picks : Stmt := topS 18
theorem sc_check_picks : FnScope ["picks", "known", "at", "pick"] ["picks", "known"] (defScope s_check_picks) := ⟨rfl, rfl, rfl, by decide +kernel, rfl, by decide +kernel, by decide +kernel⟩
abbrev s_check_offers : Stmt := topS 20
theorem sc_check_offers : FnScope ["offers", "charge", "weight"] ["offers"] (defScope s_check_offers) := ⟨rfl, rfl, rfl, by decide +kernel, rfl, by decide +kernel, by decide +kernel⟩
abbrev s_plus : Stmt := topS 23
theorem sc_plus : FnScope ["price", "other"] ["price", "other"] (defScope s_plus) := ⟨rfl, rfl, rfl, by decide +kernel, rfl, by decide +kernel, by decide +kernel⟩
abbrev s_least : Stmt := topS 24
theorem sc_least : FnScope ["prices", "price"] ["prices"] (defScope s_least) := ⟨rfl, rfl, rfl, by decide +kernel, rfl, by decide +kernel, by decide +kernel⟩
abbrev s_check_entries : Stmt := topS 26
theorem sc_check_entries : FnScope ["names", "entries", "giver", "taker", "toll"] ["names", "entries"] (defScope s_check_entries) := ⟨rfl, rfl, rfl, by decide +kernel, rfl, by decide +kernel, by decide +kernel⟩
abbrev s_least_tolls : Stmt := topS 27
theorem sc_least_tolls : FnScope ["entries", "tolls", "giver", "taker", "toll"] ["entries"] (defScope s_least_tolls) := ⟨rfl, rfl, rfl, by decide +kernel, rfl, by decide +kernel, by decide +kernel⟩
abbrev s_check_links : Stmt := topS 32
theorem sc_check_links : FnScope ["names", "links", "giver", "taker", "toll"] ["names", "links"] (defScope s_check_links) := ⟨rfl, rfl, rfl, by decide +kernel, rfl, by decide +kernel, by decide +kernel⟩
abbrev s_hand_tolls : Stmt := topS 37
theorem sc_hand_tolls : FnScope ["links", "barred", "free", "link"] ["links", "barred"] (defScope s_hand_tolls) := ⟨rfl, rfl, rfl, by decide +kernel, rfl, by decide +kernel, by decide +kernel⟩
abbrev s_shared_parts : Stmt := topS 38
theorem sc_shared_parts : FnScope ["rule"] ["rule"] (defScope s_shared_parts) := ⟨rfl, rfl, rfl, by decide +kernel, rfl, by decide +kernel, by decide +kernel⟩
abbrev s_bid_parts : Stmt := topS 39
theorem sc_bid_parts : FnScope ["rule"] ["rule"] (defScope s_bid_parts) := ⟨rfl, rfl, rfl, by decide +kernel, rfl, by decide +kernel, by decide +kernel⟩
abbrev s_facts : Stmt := topS 40
theorem sc_facts : FnScope ["rule"] ["rule"] (defScope s_facts) := ⟨rfl, rfl, rfl, by decide +kernel, rfl, by decide +kernel, by decide +kernel⟩
abbrev s_L_cell : Stmt := topS 42
theorem sc_L_cell : FnScope ["_law_script", "_law_k", "_law_far_here", "_law_j"] ["_law_script", "_law_k"] (defScope s_L_cell) := ⟨rfl, rfl, rfl, by decide +kernel, rfl, by decide +kernel, by decide +kernel⟩
abbrev s_L_mixed : Stmt := topS 43
theorem sc_L_mixed : FnScope ["_law_cell_here", "_law_k", "_law_x"] ["_law_cell_here", "_law_k"] (defScope s_L_mixed) := ⟨rfl, rfl, rfl, by decide +kernel, rfl, by decide +kernel, by decide +kernel⟩
abbrev s_L_pool : Stmt := topS 44
theorem sc_L_pool : FnScope ["_law_cell_here", "_law_number", "_law_rest", "_law_deep", "_law_pool_here", "_law_k"] ["_law_cell_here", "_law_number"] (defScope s_L_pool) := ⟨rfl, rfl, rfl, by decide +kernel, rfl, by decide +kernel, by decide +kernel⟩
abbrev s_L_part : Stmt := topS 45
theorem sc_L_part : FnScope ["_law_pool_here", "_law_spot", "_law_under", "_law_size"] ["_law_pool_here", "_law_spot", "_law_under", "_law_size"] (defScope s_L_part) := ⟨rfl, rfl, rfl, by decide +kernel, rfl, by decide +kernel, by decide +kernel⟩
abbrev s_L_names : Stmt := topS 46
theorem sc_L_names : FnScope ["_law_pool_here", "_law_spot", "_law_number", "_law_letters", "_law_stem", "_law_k", "_law_turn", "_law_cut", "_law_first", "_law_short", "_law_tail", "_law_names_here", "_law_mark"] ["_law_pool_here", "_law_spot", "_law_number"] (defScope s_L_names) := ⟨rfl, rfl, rfl, by decide +kernel, rfl, by decide +kernel, by decide +kernel⟩
abbrev s_L_far : Stmt := topS 47
theorem sc_L_far : FnScope ["_law_pool_here", "_law_spot", "_law_number", "_law_far_here", "_law_k"] ["_law_pool_here", "_law_spot", "_law_number"] (defScope s_L_far) := ⟨rfl, rfl, rfl, by decide +kernel, rfl, by decide +kernel, by decide +kernel⟩
abbrev s_L_chosen : Stmt := topS 48
theorem sc_L_chosen : FnScope ["_law_pool_here", "_law_spot", "_law_under", "_law_small", "_law_crest", "_law_whole", "_law_way", "_law_near"] ["_law_pool_here", "_law_spot", "_law_under", "_law_small", "_law_crest", "_law_whole"] (defScope s_L_chosen) := ⟨rfl, rfl, rfl, by decide +kernel, rfl, by decide +kernel, by decide +kernel⟩
abbrev s_L_goods : Stmt := topS 49
theorem sc_L_goods : FnScope ["_law_pool_here", "_law_spot", "_law_number", "_law_calm", "_law_goods_here", "_law_k", "_law_place", "_law_charge", "_law_weight"] ["_law_pool_here", "_law_spot", "_law_number", "_law_calm"] (defScope s_L_goods) := ⟨rfl, rfl, rfl, by decide +kernel, rfl, by decide +kernel, by decide +kernel⟩
abbrev s_L_beside : Stmt := topS 50
theorem sc_L_beside : FnScope ["_law_pool_here", "_law_spot"] ["_law_pool_here", "_law_spot"] (defScope s_L_beside) := ⟨rfl, rfl, rfl, by decide +kernel, rfl, by decide +kernel, by decide +kernel⟩
abbrev s_L_few : Stmt := topS 51
theorem sc_L_few : FnScope ["_law_pool_here", "_law_spot", "_law_number"] ["_law_pool_here", "_law_spot"] (defScope s_L_few) := ⟨rfl, rfl, rfl, by decide +kernel, rfl, by decide +kernel, by decide +kernel⟩
abbrev s_L_lowest : Stmt := topS 52
theorem sc_L_lowest : FnScope ["_law_above", "_law_below", "_law_one", "_law_two", "_law_turn"] ["_law_above", "_law_below"] (defScope s_L_lowest) := ⟨rfl, rfl, rfl, by decide +kernel, rfl, by decide +kernel, by decide +kernel⟩
abbrev s_L_lots : Stmt := topS 53
theorem sc_L_lots : FnScope ["_law_number", "_law_lots_here", "_law_k", "_law_lot"] ["_law_number"] (defScope s_L_lots) := ⟨rfl, rfl, rfl, by decide +kernel, rfl, by decide +kernel, by decide +kernel⟩
abbrev s_L_tops : Stmt := topS 54
theorem sc_L_tops : FnScope ["_law_goods_here", "_law_beside_here", "_law_tops_here", "_law_lot", "_law_one", "_law_two", "_law_size", "_law_k"] ["_law_goods_here", "_law_beside_here"] (defScope s_L_tops) := ⟨rfl, rfl, rfl, by decide +kernel, rfl, by decide +kernel, by decide +kernel⟩
abbrev s_L_floor_of : Stmt := topS 55
theorem sc_L_floor_of : FnScope ["_law_got", "_law_rate"] ["_law_got", "_law_rate"] (defScope s_L_floor_of) := ⟨rfl, rfl, rfl, by decide +kernel, rfl, by decide +kernel, by decide +kernel⟩
abbrev s_L_integer : Stmt := topS 56
theorem sc_L_integer : FnScope ["_law_got"] ["_law_got"] (defScope s_L_integer) := ⟨rfl, rfl, rfl, by decide +kernel, rfl, by decide +kernel, by decide +kernel⟩
abbrev s_L_same : Stmt := topS 57
theorem sc_L_same : FnScope ["_law_got", "_law_wanted", "_law_k"] ["_law_got", "_law_wanted"] (defScope s_L_same) := ⟨rfl, rfl, rfl, by decide +kernel, rfl, by decide +kernel, by decide +kernel⟩
abbrev s_law : Stmt := topS 58
theorem sc_law : FnScope ["_law_script", "_law_rest", "_law_goods_here", "_law_beside_here", "_law_crowd", "_law_tops_here", "_law_before", "_law_k", "_law_got", "_law_other", "_law_pool_here", "_law_names_here", "_law_loads", "_law_rule", "_law_bare"] ["_law_script"] (defScope s_law) := ⟨rfl, rfl, rfl, by decide +kernel, rfl, by decide +kernel, by decide +kernel⟩
end TK

namespace TK
open PySem PySem.Spec PyProof.Rows L2
section
variable {P : Program} {w : World} {K : PySem.W.Frag} {mg : Str → Option Value} {base : Heap}
/-! check_size, check_range -/
theorem pz {n : Nat} : (0 : Int) < ((n + 1 : Nat) : Int) := by omega
theorem mb {a : Int} {n : Nat} (h : n + 1 ≤ 2 ^ 63) : -(2 ^ 64) < a % ((n + 1 : Nat) : Int) ∧ a % ((n + 1 : Nat) : Int) < 2 ^ 64 := by
  have h1 := Int.emod_nonneg a (b := ((n + 1 : Nat) : Int)) (by omega)
  have h2 := Int.emod_lt_of_pos a (b := ((n + 1 : Nat) : Int)) (by omega)
  omega
/-! _law_part -/
def partOf (ns : List Int) (s u z : Int) : Int := ns.getD s.toNat 0 / u % z
def spPart (K : PySem.W.Frag) : Sp := fun vs H Q _ => ∃ (a : Addr) (ns : List Int) (s u z : Int), vs = [.ref a, .int s, .int u, .int z] ∧ SqL K H a (ns.map V.int) ∧ 0 ≤ s ∧ s < ns.length ∧ 0 < u ∧ u < 1000000 ∧ 0 < z ∧ Q (.int (partOf ns s u z)) H
theorem get_int {ns : List Int} {s : Int} (h0 : 0 ≤ s) (h : s < ns.length) : atI (ns.map V.int) s = some (.int (ns.getD s.toNat 0)) := by
  have h1 : s.toNat < ns.length := by omega
  refine atI_in h0 ?_
  rw [List.getElem?_map, List.getElem?_eq_getElem h1, List.getD_eq_getElem?_getD, List.getElem?_eq_getElem h1]
  rfl
theorem ok_L_part {f : Addr} {fd : FuncData} (F : Fun K "_law_part" "_law_part" s_L_part f fd) (m_int : mg "int" = none) : FnOk P w K mg base CX0 1 f fd ["_law_pool_here", "_law_spot", "_law_under", "_law_size"] (spPart K) := by
  refine F.ok sc_L_part (fun vs H Q E h => ?_) (fun cdv A outer s H vs Q E hr h => ?_)
  · obtain ⟨a, ns, s, u, z, rfl, _⟩ := h
    rfl
  · obtain ⟨a, ns, s, u, z, rfl, hS, h0, h1, h2, h3, h4, q⟩ := h
    refine ⟨_, (pss_one (ps_ret (pe_op op_mod (pe_op op_fdiv (pe_callTy call_int1 (by rfl) m_int (by decide +kernel) (pa_cons (pe_ix ix_list (pv 0) (pv 1) (fun _ _ => rfl)) pa_nil)) (pv 2)) (pv 3)))), ?_⟩
    refine ⟨_, rfl, _, rfl, _, _, _, _, rfl, rfl, hS, get_int h0 h1, .inl ⟨_, rfl, _, rfl, _, _, rfl, rfl, ⟨h2, by omega⟩, _, rfl, _, _, rfl, rfl, h4, ?_⟩⟩
    exact q
theorem part_lo {ns : List Int} {s u z : Int} (h : 0 < z) : 0 ≤ partOf ns s u z := Int.emod_nonneg _ (by omega)
theorem part_hi {ns : List Int} {s u z : Int} (h : 0 < z) : partOf ns s u z < z := Int.emod_lt_of_pos _ h
/-! _law_mixed -/
def spMixed : Sp := fun vs H Q _ => ∃ c k : Int, vs = [.int c, .int k] ∧ 0 ≤ k ∧ k < 1000000 ∧ ∀ r : Int, 0 ≤ r → Q (.int r) H
theorem ok_L_mixed {f : Addr} {fd : FuncData} (F : Fun K "_law_mixed" "_law_mixed" s_L_mixed f fd) (m_abs : mg "abs" = none) : FnOk P w K mg base CX0 1 f fd ["_law_cell_here", "_law_k"] spMixed := by
  refine F.ok sc_L_mixed (fun vs H Q E h => ?_) (fun cdv A outer s H vs Q E hr h => ?_)
  · obtain ⟨c, k, rfl, _⟩ := h
    rfl
  · obtain ⟨c, k, rfl, h0, h1, q⟩ := h
    refine ⟨_, (pss_cons (ps_set (i := 2) sc_L_mixed.nd rfl (.inl rfl) (pe_op op_mod (pe_op op_add (pe_op op_mul (pe_op op_mod (pe_callB call_abs (by rfl) m_abs (by decide +kernel) (pa_cons (pv 0) pa_nil)) pe_int) pe_int) (pe_op op_mul (pe_op op_add (pv 1) pe_int) pe_int)) pe_int))
  (pss_cons (ps_set (i := 2) sc_L_mixed.nd rfl (.inl rfl) (pe_op op_mod (pe_op op_add (pe_op op_mul (pv 2) (pe_op op_add (pe_op op_mod (pv 2) pe_int) pe_int)) (pe_op op_mul (pe_op op_add (pv 1) pe_int) pe_int)) pe_int))
  (pss_cons (ps_set (i := 2) sc_L_mixed.nd rfl (.inl rfl) (pe_op op_mod (pe_op op_mul (pv 2) (pe_op op_add (pe_op op_mod (pv 2) pe_int) pe_int)) pe_int))
  (pss_one (ps_ret (pe_op op_fdiv (pv 2) pe_int)))))), ?_⟩
    refine ⟨_, rfl, _, rfl, _, _, rfl, rfl, pz, _, _, rfl, rfl, .inr (by decide), _, rfl, _, _, rfl, rfl, _, _, rfl, rfl, .inr (by decide), _, _, rfl, rfl, _, _, rfl, rfl, pz, ?_⟩
    refine ⟨_, rfl, _, rfl, _, _, rfl, rfl, pz, _, _, rfl, rfl, _, _, rfl, rfl, .inl (mb (by decide)), _, rfl, _, _, rfl, rfl, _, _, rfl, rfl, .inr (by decide), _, _, rfl, rfl, _, _, rfl, rfl, pz, ?_⟩
    refine ⟨_, rfl, _, rfl, _, _, rfl, rfl, pz, _, _, rfl, rfl, _, _, rfl, rfl, .inl (mb (by decide)), _, _, rfl, rfl, pz, _, rfl, _, _, rfl, rfl, ⟨by decide, by decide⟩, ?_⟩
    exact q _ (Int.ediv_nonneg (Int.emod_nonneg _ (by decide)) (by decide))
/-! _law_cell -/
def spCellA (K : PySem.W.Frag) : Sp := fun vs H Q _ => ∃ (a : Addr) (ns : List Int) (k : Int), vs = [.ref a, .int k] ∧ SqL K H a (ns.map V.int) ∧ 0 ≤ k ∧ k < 1000 ∧ ns.length ≤ 1000 ∧ ∀ r : Int, Q (.int r) H
theorem ok_L_cell {f : Addr} {fd : FuncData} (F : Fun K "_law_cell" "_law_cell" s_L_cell f fd) (m_len : mg "len" = none) (m_range : mg "range" = none) (m_abs : mg "abs" = none) : FnOk P w K mg base CX0 1 f fd ["_law_script", "_law_k"] (spCellA K) := by
  refine F.ok sc_L_cell (fun vs H Q E h => ?_) (fun cdv A outer s H vs Q E hr h => ?_)
  · obtain ⟨a, ns, k, rfl, _⟩ := h
    rfl
  · obtain ⟨a, ns, k, rfl, hS, h0, h1, h2, q⟩ := h
    refine ⟨_, (pss_cons (ps_if (pt_cmpR op_lt (pv 1) (pe_callB call_len_seq (by rfl) m_len (by decide +kernel) (pa_cons (pv 0) pa_nil)) (nomark _)) (pss_one (ps_ret (pe_ix ix_list (pv 0) (pv 1) (fun _ _ => rfl)))) pss_nil)
  (pss_cons (ps_set (i := 2) sc_L_cell.nd rfl (.inl rfl) (pe_op op_mul pe_int (pe_op op_add (pv 1) pe_int)))
  (pss_cons (ps_for PassesOwn.never rfl (pi_range1 (by rfl) m_range (pa_cons (pe_callB call_len_seq (by rfl) m_len (by decide +kernel) (pa_cons (pv 0) pa_nil)) pa_nil)) (pg_name (i := 3) sc_L_cell.nd rfl (.inl rfl))
    (pss_one (ps_set (i := 2) sc_L_cell.nd rfl (.inl rfl) (pe_op op_mod (pe_op op_add (pv 2) (pe_op op_mul (pe_op op_mul (pe_op op_add (pv 3) pe_int) (pe_op op_mod (pe_callB call_abs (by rfl) m_abs (by decide +kernel) (pa_cons (pe_ix ix_list (pv 0) (pv 3) (fun _ _ => rfl)) pa_nil)) pe_int)) pe_int)) pe_int))))
  (pss_one (ps_ret (pv 2)))))), ?_⟩
    refine ⟨_, rfl, _, rfl, _, _, rfl, .inl hS, _, _, rfl, rfl, _, rfl, ite2 (fun e => ?_) (fun e => ?_)⟩
    · have e1 : k < ((ns.map V.int).length : Nat) := of_decide_eq_true e
      rw [List.length_map] at e1
      exact ⟨_, rfl, _, rfl, _, _, _, _, rfl, rfl, hS, get_int h0 e1, q _⟩
    · refine ⟨_, rfl, _, _, rfl, rfl, _, _, rfl, rfl, .inl (by decide), ?_⟩
      refine ⟨_, rfl, _, _, rfl, .inl hS, _, rfl, by omega, by rw [List.length_map]; omega, for_range (fun i σ H' => H' = H ∧ ∃ (r : Int) (y : Option V), σ = [some (.ref a), some (.int k), some (.int r), y]) ⟨rfl, _, _, rfl⟩ ?_ ?_⟩
      · rintro i σ H' hi ⟨rfl, r, y, rfl⟩
        rw [List.length_map] at hi
        have hi' : i < ns.length := by omega
        refine ⟨_, rfl, _, rfl, _, _, rfl, rfl, _, rfl, _, rfl, _, _, _, _, rfl, rfl, hS, get_int (by omega) (by omega), _, rfl, _, _, rfl, rfl, pz, _, _, rfl, rfl, .inr (mb (by decide)), _, _, rfl, rfl, .inr (by decide), _, _, rfl, rfl, _, _, rfl, rfl, pz, rfl, _, _, rfl⟩
      · rintro σ H' ⟨rfl, r, y, rfl⟩
        exact ⟨_, rfl, q _⟩
end
end TK

namespace TK
open PySem PySem.Spec PyProof.Rows L2
theorem upd_twice {H : Hp} {p : Addr} {a b : HO} : upd (upd H p a) p b = upd H p b := by
  funext x
  unfold upd
  by_cases e : x = p
  · rw [if_pos e, if_pos e]
  · rw [if_neg e, if_neg e, if_neg e]
section
variable {P : Program} {w : World} {K : PySem.W.Frag} {mg : Str → Option Value} {base : Heap}
/-! _law_pool -/
def spPool : Sp := fun vs H Q _ => ∃ (c n : Int), vs = [.int c, .int n] ∧ 0 ≤ n ∧ n ≤ 1000 ∧ ∀ (p : Addr) (ns : List Int), H p = none → (ns.length : Int) = n → (∀ x ∈ ns, 0 ≤ x) → Q (.ref p) (upd H p (.lst (ns.map V.int)))
theorem ok_L_pool {f : Addr} {fd : FuncData} (F : Fun K "_law_pool" "_law_pool" s_L_pool f fd) (m_range : mg "range" = none) (m_abs : mg "abs" = none) (d_L_mixed : Def P w K mg base "_law_mixed" 1 ["_law_cell_here", "_law_k"] spMixed) : FnOk P w K mg base CX0 2 f fd ["_law_cell_here", "_law_number"] spPool := by
  refine F.ok sc_L_pool (fun vs H Q E h => ?_) (fun cdv A outer s H vs Q E hr h => ?_)
  · obtain ⟨c, n, rfl, _⟩ := h
    rfl
  · obtain ⟨c, n, rfl, h0, h1, q⟩ := h
    refine ⟨_, (pss_cons (ps_set (i := 2) sc_L_pool.nd rfl (.inl rfl) (pe_callB call_abs (by rfl) m_abs (by decide +kernel) (pa_cons (pv 0) pa_nil)))
  (pss_cons (ps_set (i := 3) sc_L_pool.nd rfl (.inl rfl) (pe_cmpR op_ge (pv 2) (pe_op op_pow pe_int pe_int) (nomark _)))
  (pss_cons (ps_set (i := 4) sc_L_pool.nd rfl (.inl rfl) (pe_lst pa_nil))
  (pss_cons (ps_for PassesOwn.never rfl (pi_range1 (by rfl) m_range (pa_cons (pv 1) pa_nil)) (pg_name (i := 5) sc_L_pool.nd rfl (.inl rfl))
    (pss_one (ps_if (PW.pt (pw_and (pt_val (pv 3)) (pw_and1 (pt_cmpR op_gt (pv 2) pe_int (nomark _))))) (pss_cons (ps_expr (pe_bm PySem.F.plainAttrs_list PySem.F.slot_list_append PySem.F.type_list_append mt_append (pv 4) (pa_cons (pe_op op_mod (pv 2) pe_int) pa_nil)))
  (pss_one (ps_set (i := 2) sc_L_pool.nd rfl (.inl rfl) (pe_op op_fdiv (pv 2) pe_int)))) (pss_one (ps_expr (pe_bm PySem.F.plainAttrs_list PySem.F.slot_list_append PySem.F.type_list_append mt_append (pv 4) (pa_cons (pe_callD d_L_mixed (hr.mono (by decide)) (by rfl) (pa_cons (pv 0) (pa_cons (pv 5) pa_nil))) pa_nil)))))))
  (pss_one (ps_ret (pv 4))))))), ?_⟩
    have ha : 0 ≤ (if c < 0 then -c else c) := by split <;> omega
    refine ⟨_, rfl, _, rfl, _, rfl, _, _, rfl, rfl, ⟨by decide, by decide, by decide⟩, _, _, rfl, rfl, ?_⟩
    refine ⟨Nat.zero_le _, fun p np => ?_⟩
    refine ⟨_, rfl, _, rfl, by omega, by omega, for_range (fun i σ H' => ∃ (r : Int) (b : Bool) (ns : List Int) (y : Option V), σ = [some (.int c), some (.int n), some (.int r), some (.bl b), some (.ref p), y] ∧ 0 ≤ r ∧ ns.length = i ∧ (∀ x ∈ ns, 0 ≤ x) ∧ H' = upd H p (.lst (ns.map V.int))) ⟨_, _, [], _, rfl, ha, rfl, (fun x hx => nomatch hx), rfl⟩ ?_ ?_⟩
    · rintro i σ H' hi ⟨r, b, ns, y, rfl, r0, hl, hx, rfl⟩
      have hz : (ns.map V.int).length < sizeLine := by rw [List.length_map]; exact small1000 (by omega)
      refine ⟨_, rfl, _, rfl, ite2 (fun e => ?_) (fun e => ?_)⟩
      · refine ⟨_, rfl, _, _, rfl, rfl, _, rfl, ite2 (fun e => ?_) (fun e => ?_)⟩
        · refine ⟨_, rfl, .inl ⟨rfl, _, lstAt upd_same⟩, _, rfl, _, _, rfl, rfl, pz, _, _, _, rfl, rfl, upd_same, hz, ?_⟩
          refine ⟨_, rfl, _, _, rfl, rfl, ⟨by decide, by decide⟩, ?_⟩
          refine ⟨_, b, ns ++ [r % 5040], _, rfl, Int.ediv_nonneg r0 (by decide), by rw [List.length_append, hl]; rfl, ?_, ?_⟩
          · intro x h
            rcases List.mem_append.mp h with h | h
            · exact hx x h
            · cases List.mem_singleton.mp h; exact Int.emod_nonneg _ (by decide)
          · rw [upd_twice, List.map_append]; rfl
        · refine ⟨_, rfl, .inl ⟨rfl, _, lstAt upd_same⟩, _, rfl, _, rfl, _, _, rfl, by omega, by omega, fun z z0 => ⟨_, _, _, rfl, rfl, upd_same, hz, r, b, ns ++ [z], _, rfl, r0, by rw [List.length_append, hl]; rfl, ?_, ?_⟩⟩
          · intro x h
            rcases List.mem_append.mp h with h | h
            · exact hx x h
            · cases List.mem_singleton.mp h; exact z0
          · rw [upd_twice, List.map_append]; rfl
      · refine iteF ?_
        refine ⟨_, rfl, .inl ⟨rfl, _, lstAt upd_same⟩, _, rfl, _, rfl, _, _, rfl, by omega, by omega, fun z z0 => ⟨_, _, _, rfl, rfl, upd_same, hz, r, b, ns ++ [z], _, rfl, r0, by rw [List.length_append, hl]; rfl, ?_, ?_⟩⟩
        · intro x h
          rcases List.mem_append.mp h with h | h
          · exact hx x h
          · cases List.mem_singleton.mp h; exact z0
        · rw [upd_twice, List.map_append]; rfl
    · rintro σ H' ⟨r, b, ns, y, rfl, r0, hl, hx, rfl⟩
      exact ⟨_, rfl, q p ns np (by omega) hx⟩
/-! _law_far -/
/-! _law_chosen: from 0 to the crest -/
end
end TK

namespace TK
open PySem PySem.Spec PyProof.Rows L2
/-! ### texts as lists of codes -/
def sOf (l : List Nat) : Str := ⟨l.toArray⟩
theorem sOf_codes (l : List Nat) : (sOf l).cps.toList = l := rfl
theorem sOf_len (l : List Nat) : (sOf l).length = l.length := by simp [sOf, Str.length]
theorem sOf_app (a b : List Nat) : sOf a ++ sOf b = sOf (a ++ b) := by
  show (⟨a.toArray ++ b.toArray⟩ : Str) = ⟨(a ++ b).toArray⟩
  simp
theorem sOf_inj {a b : List Nat} (h : sOf a = sOf b) : a = b := by
  have := congrArg (fun z : Str => z.cps.toList) h
  exact this
theorem sOf_one (c : Nat) : (⟨#[c]⟩ : Str) = sOf [c] := rfl
theorem cut_to (l : List Nat) {m : Int} (h : 0 ≤ m) : cutS (sOf l) none (some m) = sOf (l.take m.toNat) := by
  obtain ⟨k, rfl⟩ : ∃ k : Nat, m = (k : Int) := ⟨m.toNat, by omega⟩
  unfold cutS
  rw [HT.sIx_none, HT.sIx_nat, sOf_len, sOf_codes, List.drop_zero, Nat.sub_zero, Int.toNat_natCast]
  show sOf _ = sOf _
  congr 1
  by_cases hk : k ≤ l.length
  · rw [Nat.min_eq_left hk]
  · rw [Nat.min_eq_right (by omega), List.take_of_length_le (by omega), List.take_of_length_le (by omega)]
theorem cut_from (l : List Nat) {m : Int} (h : 0 ≤ m) : cutS (sOf l) (some m) none = sOf (l.drop m.toNat) := by
  obtain ⟨k, rfl⟩ : ∃ k : Nat, m = (k : Int) := ⟨m.toNat, by omega⟩
  unfold cutS
  rw [HT.sIx_none, HT.sIx_nat, sOf_len, sOf_codes, Int.toNat_natCast]
  show sOf _ = sOf _
  congr 1
  by_cases hk : k ≤ l.length
  · rw [Nat.min_eq_left hk, List.take_of_length_le (by rw [List.length_drop]; omega)]
  · rw [Nat.min_eq_right (by omega), List.drop_of_length_le (by omega), List.drop_of_length_le (by omega), List.take_nil]
def lettersZ : Str := Str.ofString "abcdefghijklmnopqrstuvwxyz"
theorem letters_codes : lettersZ.cps.toList = (List.range 26).map (97 + ·) := by decide +kernel
theorem letters_len : lettersZ.length = 26 := by decide +kernel
theorem letter_at {i : Int} (h0 : 0 ≤ i) (h1 : i < 26) : atI lettersZ.cps.toList i = some (97 + i.toNat) := by
  refine atI_in h0 ?_
  rw [letters_codes, List.getElem?_map, List.getElem?_range (by omega)]
  rfl
def Let (l : List Nat) : Prop := ∀ c ∈ l, 97 ≤ c ∧ c ≤ 122
theorem Let.app {a b : List Nat} (h : Let a) (k : Let b) : Let (a ++ b) := fun c hc => by
  rcases List.mem_append.mp hc with e | e
  · exact h c e
  · exact k c e
theorem Let.one {n : Nat} (h : n < 26) : Let [97 + n] := fun c hc => by
  cases List.mem_singleton.mp hc
  omega
theorem Let.take {a : List Nat} (h : Let a) (n : Nat) : Let (a.take n) := fun c hc => h c (List.mem_of_mem_take hc)
theorem Let.drop {a : List Nat} (h : Let a) (n : Nat) : Let (a.drop n) := fun c hc => h c (List.mem_of_mem_drop hc)
/-- a name: 1 to 8 letters -/
def Nm (l : List Nat) : Prop := 1 ≤ l.length ∧ l.length ≤ 8 ∧ Let l
def nameF (b : Bool) (stem short tail : List Nat) (cut first turn : Nat) (k : Nat) : List Nat :=
  if b = true then short.take cut ++ [97 + (first + 7 * ((k + turn) % 6)) % 26] ++ short.drop cut ++ tail else stem.take ((k + turn) % 6 + 1)
theorem nameF_nm {b : Bool} {stem short tail : List Nat} {cut first turn k : Nat} (hs : stem.length = 6) (hsh : short.length ≤ 6) (ht : tail.length ≤ 1) (l1 : Let stem) (l2 : Let short) (l3 : Let tail) : Nm (nameF b stem short tail cut first turn k) := by
  unfold nameF
  cases b with
  | true =>
    rw [if_pos rfl]
    have e : (short.take cut).length + (short.drop cut).length = short.length := by rw [← List.length_append, List.take_append_drop]
    refine ⟨?_, ?_, (((l2.take _).app (.one (Nat.mod_lt _ (by decide)))).app (l2.drop _)).app l3⟩
    · simp only [List.length_append, List.length_cons, List.length_nil]; omega
    · simp only [List.length_append, List.length_cons, List.length_nil]; omega
  | false =>
    rw [if_neg (by decide)]
    have := Nat.mod_lt (k + turn) (show 6 > 0 by decide)
    exact ⟨by rw [List.length_take]; omega, by rw [List.length_take]; omega, l1.take _⟩
theorem nameF_inj {b : Bool} {stem short tail : List Nat} {cut first turn k j : Nat} (hs : stem.length = 6) (hk : k < 6) (hj : j < 6) (h : nameF b stem short tail cut first turn k = nameF b stem short tail cut first turn j) : k = j := by
  unfold nameF at h
  cases b with
  | true =>
    rw [if_pos rfl, if_pos rfl] at h
    simp only [List.append_assoc, List.append_cancel_left_eq, List.cons_append, List.nil_append, List.cons.injEq] at h
    have := h.1
    omega
  | false =>
    rw [if_neg (by decide), if_neg (by decide)] at h
    have e := congrArg List.length h
    rw [List.length_take, List.length_take, hs] at e
    omega
theorem nodup_range {f : Nat → List Nat} : ∀ {n : Nat}, (∀ k j, k < n → j < n → f k = f j → k = j) → ((List.range n).map f).Nodup := by
  intro n h
  rw [List.nodup_iff_pairwise_ne, List.pairwise_map]
  refine List.Pairwise.imp_of_mem ?_ (List.nodup_iff_pairwise_ne.mp List.nodup_range)
  intro a b ha hb hne e
  exact hne (h a b (List.mem_range.mp ha) (List.mem_range.mp hb) e)
def vN (l : List Nat) : V := .str (sOf l)
section
variable {P : Program} {w : World} {K : PySem.W.Frag} {mg : Str → Option Value} {base : Heap}
/-! _law_names -/
def spNames (K : PySem.W.Frag) : Sp := fun vs H Q _ => ∃ (a : Addr) (ns : List Int) (s n : Int), vs = [.ref a, .int s, .int n] ∧ SqL K H a (ns.map V.int) ∧ 0 ≤ s ∧ s + 5 ≤ ns.length ∧ 0 ≤ n ∧ n ≤ 6 ∧
  ∀ (p : Addr) (zs : List (List Nat)), H p = none → (zs.length : Int) = n → (∀ z ∈ zs, Nm z) → zs.Nodup → Q (.ref p) (upd H p (.lst (zs.map vN)))
theorem small_len {l : List Nat} (h : l.length ≤ 1000) : (sOf l).length ≤ sizeLine := by rw [sOf_len]; exact Nat.le_of_lt (small1000 h)
theorem ok_L_names {f : Addr} {fd : FuncData} (F : Fun K "_law_names" "_law_names" s_L_names f fd) (m_range : mg "range" = none) (m_int : mg "int" = none) (d_L_part : Def P w K mg base "_law_part" 1 ["_law_pool_here", "_law_spot", "_law_under", "_law_size"] (spPart K)) : FnOk P w K mg base CX0 2 f fd ["_law_pool_here", "_law_spot", "_law_number"] (spNames K) := by
  refine F.ok sc_L_names (fun vs H Q E h => ?_) (fun cdv A outer s H vs Q E hr h => ?_)
  · obtain ⟨a, ns, s, n, rfl, _⟩ := h
    rfl
  · obtain ⟨a, ns, s, n, rfl, hS, h0, h1, h2, h3, q⟩ := h
    refine ⟨_, (pss_cons (ps_set (i := 3) sc_L_names.nd rfl (.inl rfl) pe_str)
  (pss_cons (ps_set (i := 4) sc_L_names.nd rfl (.inl rfl) pe_str)
  (pss_cons (ps_for PassesOwn.never rfl (pi_range1 (by rfl) m_range (pa_cons pe_int pa_nil)) (pg_name (i := 5) sc_L_names.nd rfl (.inl rfl))
    (pss_one (ps_set (i := 4) sc_L_names.nd rfl (.inl rfl) (pe_op op_add_str (pe_op op_add_str (pv 4) (pe_ix ix_str (pv 3) (pe_callD d_L_part (hr.mono (by decide)) (by rfl) (pa_cons (pv 0) (pa_cons (pe_op op_add (pv 1) (pv 5)) (pa_cons pe_int (pa_cons pe_int pa_nil))))) (fun _ _ => rfl))) (pe_ix ix_str (pv 3) (pe_callD d_L_part (hr.mono (by decide)) (by rfl) (pa_cons (pv 0) (pa_cons (pe_op op_add (pv 1) (pv 5)) (pa_cons pe_int (pa_cons pe_int pa_nil))))) (fun _ _ => rfl))))))
  (pss_cons (ps_set (i := 6) sc_L_names.nd rfl (.inl rfl) (pe_callD d_L_part (hr.mono (by decide)) (by rfl) (pa_cons (pv 0) (pa_cons (pe_op op_add (pv 1) pe_int) (pa_cons pe_int (pa_cons pe_int pa_nil))))))
  (pss_cons (ps_set (i := 7) sc_L_names.nd rfl (.inl rfl) (pe_callD d_L_part (hr.mono (by decide)) (by rfl) (pa_cons (pv 0) (pa_cons (pe_op op_add (pv 1) pe_int) (pa_cons pe_int (pa_cons pe_int pa_nil))))))
  (pss_cons (ps_set (i := 8) sc_L_names.nd rfl (.inl rfl) (pe_callD d_L_part (hr.mono (by decide)) (by rfl) (pa_cons (pv 0) (pa_cons (pe_op op_add (pv 1) pe_int) (pa_cons pe_int (pa_cons pe_int pa_nil))))))
  (pss_cons (ps_set (i := 9) sc_L_names.nd rfl (.inl rfl) (pe_slice sl_str (pv 4) po_none (po_some (pe_callD d_L_part (hr.mono (by decide)) (by rfl) (pa_cons (pv 0) (pa_cons (pe_op op_add (pv 1) pe_int) (pa_cons pe_int (pa_cons pe_int pa_nil))))))))
  (pss_cons (ps_set (i := 10) sc_L_names.nd rfl (.inl rfl) (pe_slice sl_str (pv 4) po_none (po_some (pe_callD d_L_part (hr.mono (by decide)) (by rfl) (pa_cons (pv 0) (pa_cons (pe_op op_add (pv 1) pe_int) (pa_cons pe_int (pa_cons pe_int pa_nil))))))))
  (pss_cons (ps_set (i := 11) sc_L_names.nd rfl (.inl rfl) (pe_lst pa_nil))
  (pss_cons (ps_for PassesOwn.never rfl (pi_range1 (by rfl) m_range (pa_cons (pv 2) pa_nil)) (pg_name (i := 5) sc_L_names.nd rfl (.inl rfl))
    (pss_cons (ps_set (i := 12) sc_L_names.nd rfl (.inl rfl) (pe_op op_mod (pe_callTy call_int1 (by rfl) m_int (by decide +kernel) (pa_cons (pe_op op_add (pv 5) (pv 6)) pa_nil)) pe_int))
  (pss_one (ps_if (pt_cmpR op_eq (pe_callD d_L_part (hr.mono (by decide)) (by rfl) (pa_cons (pv 0) (pa_cons (pe_op op_add (pv 1) pe_int) (pa_cons pe_int (pa_cons pe_int pa_nil))))) pe_int (nomark _)) (pss_one (ps_expr (pe_bm PySem.F.plainAttrs_list PySem.F.slot_list_append PySem.F.type_list_append mt_append (pv 11) (pa_cons (pe_op op_add_str (pe_op op_add_str (pe_op op_add_str (pe_slice sl_str (pv 9) po_none (po_some (pv 7))) (pe_ix ix_str (pv 3) (pe_op op_mod (pe_callTy call_int1 (by rfl) m_int (by decide +kernel) (pa_cons (pe_op op_add (pv 8) (pe_op op_mul pe_int (pv 12))) pa_nil)) pe_int) (fun _ _ => rfl))) (pe_slice sl_str (pv 9) (po_some (pv 7)) po_none)) (pv 10)) pa_nil)))) (pss_one (ps_expr (pe_bm PySem.F.plainAttrs_list PySem.F.slot_list_append PySem.F.type_list_append mt_append (pv 11) (pa_cons (pe_slice sl_str (pv 4) po_none (po_some (pe_op op_add (pv 12) pe_int))) pa_nil))))))))
  (pss_one (ps_ret (pv 11))))))))))))), ?_⟩
    refine ⟨_, rfl, by decide, by decide, for_range (fun i σ H' => H' = H ∧ ∃ (st : List Nat) (y : Option V), σ = [some (.ref a), some (.int s), some (.int n), some (.str lettersZ), some (vN st), y, none, none, none, none, none, none, none] ∧ st.length = 2 * i ∧ Let st) ⟨rfl, [], _, rfl, rfl, fun c hc => nomatch hc⟩ ?_ ?_⟩
    · rintro i σ H' hi ⟨rfl, st, y, rfl, hl, le⟩
      have hi3 : i < 3 := hi
      have b1 := part_lo (ns := ns) (s := s + (0 + (i : Int))) (u := 1) (z := 26) (by decide)
      have b2 := part_hi (ns := ns) (s := s + (0 + (i : Int))) (u := 1) (z := 26) (by decide)
      have c1 := part_lo (ns := ns) (s := s + (0 + (i : Int))) (u := 26) (z := 26) (by decide)
      have c2 := part_hi (ns := ns) (s := s + (0 + (i : Int))) (u := 26) (z := 26) (by decide)
      refine ⟨_, rfl, _, rfl, _, rfl, _, rfl, _, rfl, _, _, rfl, rfl, _, _, _, _, _, rfl, hS, by omega, by omega, by decide, by decide, by decide, ?_⟩
      refine ⟨_, _, _, rfl, rfl, by rw [letters_len]; decide, letter_at b1 b2, _, _, rfl, rfl, ?_, ?_⟩
      · rw [sOf_len, sOf_one, sOf_len]; exact Nat.le_of_lt (small1000 (by simp only [List.length_cons, List.length_nil]; omega))
      refine ⟨_, rfl, _, rfl, _, rfl, _, rfl, _, _, rfl, rfl, _, _, _, _, _, rfl, hS, by omega, by omega, by decide, by decide, by decide, ?_⟩
      refine ⟨_, _, _, rfl, rfl, by rw [letters_len]; decide, letter_at c1 c2, _, _, rfl, rfl, ?_, ?_⟩
      · rw [sOf_one, sOf_one, sOf_app, sOf_len, sOf_len]; exact Nat.le_of_lt (small1000 (by simp only [List.length_append, List.length_cons, List.length_nil]; omega))
      refine ⟨rfl, (st ++ [97 + (partOf ns (s + (0 + (i : Int))) 1 26).toNat]) ++ [97 + (partOf ns (s + (0 + (i : Int))) 26 26).toNat], some (.int (0 + (i : Int))), ?_, ?_, ?_⟩
      · rw [sOf_one, sOf_one, sOf_app, sOf_app]; rfl
      · simp only [List.length_append, List.length_cons, List.length_nil]; omega
      · exact (le.app (.one (by omega))).app (.one (by omega))
    · rintro σ H' ⟨rfl, st, y, rfl, hl, le⟩
      have hl : st.length = 6 := hl
      have t1 := part_lo (ns := ns) (s := s + 3) (u := 1) (z := 6) (by decide)
      have t2 := part_hi (ns := ns) (s := s + 3) (u := 1) (z := 6) (by decide)
      have u1 := part_lo (ns := ns) (s := s + 3) (u := 6) (z := 7) (by decide)
      have u2 := part_hi (ns := ns) (s := s + 3) (u := 6) (z := 7) (by decide)
      have v1 := part_lo (ns := ns) (s := s + 3) (u := 42) (z := 26) (by decide)
      have v2 := part_hi (ns := ns) (s := s + 3) (u := 42) (z := 26) (by decide)
      have w1 := part_lo (ns := ns) (s := s + 4) (u := 4) (z := 7) (by decide)
      have w2 := part_hi (ns := ns) (s := s + 4) (u := 4) (z := 7) (by decide)
      have x1 := part_lo (ns := ns) (s := s + 4) (u := 2) (z := 2) (by decide)
      have x2 := part_hi (ns := ns) (s := s + 4) (u := 2) (z := 2) (by decide)
      refine ⟨_, rfl, _, rfl, _, _, rfl, rfl, _, _, _, _, _, rfl, hS, by omega, by omega, by decide, by decide, by decide, ?_⟩
      refine ⟨_, rfl, _, rfl, _, _, rfl, rfl, _, _, _, _, _, rfl, hS, by omega, by omega, by decide, by decide, by decide, ?_⟩
      refine ⟨_, rfl, _, rfl, _, _, rfl, rfl, _, _, _, _, _, rfl, hS, by omega, by omega, by decide, by decide, by decide, ?_⟩
      refine ⟨_, rfl, _, rfl, _, rfl, _, _, rfl, rfl, _, _, _, _, _, rfl, hS, by omega, by omega, by decide, by decide, by decide, _, rfl, _, rfl, small_len (by omega), ?_⟩
      refine ⟨_, rfl, _, rfl, _, rfl, _, _, rfl, rfl, _, _, _, _, _, rfl, hS, by omega, by omega, by decide, by decide, by decide, _, rfl, _, rfl, small_len (by omega), ?_⟩
      rw [cut_to st w1, cut_to st x1]
      refine ⟨Nat.zero_le _, fun p np => ?_⟩
      have hS2 : ∀ o, SqL K (upd H' p o) a (ns.map V.int) := fun o => (same_upd np).seq hS
      let nf := nameF (decide (partOf ns (s + 4) 1 2 = 0)) st (st.take (partOf ns (s + 4) 4 7).toNat) (st.take (partOf ns (s + 4) 2 2).toNat) (partOf ns (s + 3) 6 7).toNat (partOf ns (s + 3) 42 26).toNat (partOf ns (s + 3) 1 6).toNat
      refine ⟨_, rfl, _, rfl, by omega, by omega, for_range (fun i σ H2 => H2 = upd H' p (.lst (((List.range i).map nf).map vN)) ∧ ∃ (y m : Option V), σ = [some (.ref a), some (.int s), some (.int n), some (.str lettersZ), some (vN st), y, some (.int (partOf ns (s + 3) 1 6)), some (.int (partOf ns (s + 3) 6 7)), some (.int (partOf ns (s + 3) 42 26)), some (vN (st.take (partOf ns (s + 4) 4 7).toNat)), some (vN (st.take (partOf ns (s + 4) 2 2).toNat)), some (.ref p), m]) ⟨rfl, _, _, rfl⟩ ?_ ?_⟩
      · rintro i σ H2 hi ⟨rfl, y, m, rfl⟩
        have hz : (((List.range i).map nf).map vN).length < sizeLine := by rw [List.length_map, List.length_map, List.length_range]; exact small1000 (by omega)
        have mk : (0 + (i : Int) + partOf ns (s + 3) 1 6) % 6 = (((i + (partOf ns (s + 3) 1 6).toNat) % 6 : Nat) : Int) := by omega
        have next : ∀ (l : List Nat), l = nf i → ((List.range i).map nf).map vN ++ [vN l] = ((List.range (i + 1)).map nf).map vN := by
          intro l e
          rw [List.range_succ, List.map_append, List.map_append, e]
          rfl
        refine ⟨_, rfl, _, rfl, _, _, rfl, rfl, .inl ⟨_, rfl, _, _, rfl, rfl, pz, ?_⟩⟩
        refine ⟨_, rfl, _, rfl, _, _, rfl, rfl, _, _, _, _, _, rfl, hS2 _, by omega, by omega, by decide, by decide, by decide, rfl, _, rfl, ite2 (fun e => ?_) (fun e => ?_)⟩
        · have e1 : decide (partOf ns (s + 4) 1 2 = 0) = true := by
            have := V.int.inj (of_decide_eq_true e)
            exact decide_eq_true this
          have f1 : 0 ≤ (partOf ns (s + 3) 42 26 + 7 * ((0 + (i : Int) + partOf ns (s + 3) 1 6) % 6)) % 26 := by omega
          have f2 : (partOf ns (s + 3) 42 26 + 7 * ((0 + (i : Int) + partOf ns (s + 3) 1 6) % 6)) % 26 < 26 := by omega
          refine ⟨_, rfl, .inl ⟨rfl, _, lstAt upd_same⟩, ?_⟩
          refine ⟨_, rfl, _, rfl, _, rfl, _, rfl, small_len (by rw [List.length_take]; omega), ?_⟩
          refine ⟨_, rfl, _, rfl, _, rfl, _, _, rfl, rfl, .inl (by decide), _, _, rfl, rfl, .inl ⟨_, rfl, _, _, rfl, rfl, pz, _, _, _, rfl, rfl, by rw [letters_len]; decide, letter_at f1 f2, ?_⟩⟩
          rw [cut_to _ u1]
          refine ⟨_, _, rfl, rfl, ?_, ?_⟩
          · rw [sOf_one, sOf_len, sOf_len]
            exact Nat.le_of_lt (small1000 (by rw [List.length_take, List.length_take]; simp only [List.length_cons, List.length_nil]; omega))
          refine ⟨_, rfl, _, rfl, _, rfl, _, rfl, small_len (by rw [List.length_take]; omega), ?_⟩
          rw [cut_from _ u1, sOf_one, sOf_app]
          refine ⟨_, _, rfl, rfl, ?_, ?_⟩
          · rw [sOf_len, sOf_len]
            exact Nat.le_of_lt (small1000 (by rw [List.length_append, List.length_take, List.length_take, List.length_drop, List.length_take]; simp only [List.length_cons, List.length_nil]; omega))
          refine ⟨_, rfl, _, _, rfl, rfl, ?_, ?_⟩
          · rw [sOf_app, sOf_len, sOf_len]
            exact Nat.le_of_lt (small1000 (by rw [List.length_append, List.length_append, List.length_take, List.length_take, List.length_drop, List.length_take, List.length_take]; simp only [List.length_cons, List.length_nil]; omega))
          rw [sOf_app, sOf_app]
          refine ⟨_, _, _, rfl, rfl, upd_same, hz, ?_, _, _, rfl⟩
          rw [upd_twice]
          congr 2
          refine next _ ?_
          show _ = nameF _ _ _ _ _ _ _ _
          unfold nameF
          rw [if_pos e1]
          congr 5
          omega
        · have e1 : ¬ decide (partOf ns (s + 4) 1 2 = 0) = true := by
            intro z
            have := of_decide_eq_true z
            exact e (decide_eq_true (congrArg V.int this))
          refine ⟨_, rfl, .inl ⟨rfl, _, lstAt upd_same⟩, ?_⟩
          refine ⟨_, rfl, _, rfl, _, _, rfl, rfl, _, rfl, _, rfl, small_len (by omega), ?_⟩
          rw [cut_to _ (show (0 : Int) ≤ (0 + (i : Int) + partOf ns (s + 3) 1 6) % 6 + 1 by omega)]
          refine ⟨_, _, _, rfl, rfl, upd_same, hz, ?_, _, _, rfl⟩
          rw [upd_twice]
          congr 2
          refine next _ ?_
          show _ = nameF _ _ _ _ _ _ _ _
          unfold nameF
          rw [if_neg e1]
          congr 1
          omega
      · rintro σ H2 ⟨rfl, y, m, rfl⟩
        refine ⟨_, rfl, q p ((List.range n.toNat).map nf) np ?_ ?_ ?_⟩
        · rw [List.length_map, List.length_range]; omega
        · intro z hz
          obtain ⟨k, hk, rfl⟩ := List.mem_map.mp hz
          exact nameF_nm hl (by rw [List.length_take]; omega) (by rw [List.length_take]; omega) le (le.take _) (le.take _)
        · refine nodup_range fun k j hk hj e => ?_
          exact nameF_inj hl (by omega) (by omega) e
end
end TK

namespace TK
open PySem PySem.Spec PyProof.Rows L2
section
variable {P : Program} {w : World} {K : PySem.W.Frag} {mg : Str → Option Value} {base : Heap}
/-! _law_integer: of an int -/
def spInteger : Sp := fun vs H Q _ => ∃ i : Int, vs = [.int i] ∧ Q (.bl true) H
theorem ok_L_integer {f : Addr} {fd : FuncData} (F : Fun K "_law_integer" "_law_integer" s_L_integer f fd) (m_isinstance : mg "isinstance" = none) (m_int : mg "int" = none) (m_bool : mg "bool" = none) :
    FnOk P w K mg base CX0 1 f fd ["_law_got"] spInteger := by
  refine F.ok sc_L_integer (fun vs H Q E h => ?_) (fun cdv A outer s H vs Q E hr h => ?_)
  · obtain ⟨i, rfl, _⟩ := h
    rfl
  · obtain ⟨i, rfl, q⟩ := h
    refine ⟨_, (pss_one (ps_ret (pe_and (pe_callB call_isi (by rfl) m_isinstance (by decide +kernel) (pa_cons (pv 0) (pa_cons (pe_bltn (v := .ty "int") (u := .type "int") (by rfl) m_int (by decide +kernel) rfl) pa_nil))) (pe_one (pe_not (pe_callB call_isi (by rfl) m_isinstance (by decide +kernel) (pa_cons (pv 0) (pa_cons (pe_bltn (v := .ty "bool") (u := .type "bool") (by rfl) m_bool (by decide +kernel) rfl) pa_nil)))))))), ?_⟩
    refine ⟨_, rfl, _, _, _, _, true, rfl, .ty "int", .base (.int i), rfl, _, rfl, iteT ?_⟩
    refine ⟨_, rfl, _, _, _, _, false, rfl, .ty "bool", .base (.int i), rfl, _, rfl, ?_⟩
    exact q
end
end TK

namespace TK
open PySem PySem.Spec PyProof.Rows L2
/-! ### the same data, down to a depth -/
def flat1 : V → Bool
  | .non => true | .bl _ => true | .int _ => true | .str _ => true | _ => false
/-- a tuple, known to the object or not -/
def TL (H : Hp) (a : Addr) (xs : List V) : Prop := H a = some (.tup xs) ∨ ∃ o, H a = some (.frz o (.tup xs))
theorem TL.ty {K : PySem.W.Frag} {H : Hp} {a : Addr} {xs : List V} (h : TL H a xs) : TyX K H (.ref a) (.type "tuple") := by
  rcases h with h | ⟨o, h⟩
  · exact .base (.tup h)
  · exact .fTuple h
theorem TL.sq {K : PySem.W.Frag} {H : Hp} {a : Addr} {xs : List V} (h : TL H a xs) : SqT K H a xs := .inl (h.elim .inl .inr)
def Eq2 (H : Hp) : Nat → V → V → Prop
  | 0, x, y => x = y ∧ flat1 x = true
  | n + 1, x, y => (x = y ∧ flat1 x = true) ∨ ∃ (a b : Addr) (xs ys : List V), x = .ref a ∧ y = .ref b ∧ ((H a = some (.lst xs) ∧ H b = some (.lst ys)) ∨ (TL H a xs ∧ TL H b ys)) ∧ xs.length = ys.length ∧ xs.length < 2 ^ 40 ∧
      ∀ (i : Nat) (x y : V), xs[i]? = some x → ys[i]? = some y → Eq2 H n x y
theorem bint {z : V} {H : Hp} {Q : VK} (h : z = .bl true) (q : Q (.bl true) H) : Q z H := h ▸ q
section
variable {P : Program} {w : World} {K : PySem.W.Frag} {mg : Str → Option Value} {base : Heap}
def spSame (n : Nat) : Sp := fun vs H Q _ => ∃ x y, vs = [x, y] ∧ Eq2 H n x y ∧ Q (.bl true) H
theorem same_tail {x y : V} {H : Hp} (ex : x = y) (fx : flat1 x = true) : (x = .non ∧ y = .non) ∨ (∃ b, x = .bl b ∧ y = .bl b) ∨ (∃ i, x = .int i ∧ y = .int i) ∨ ∃ z, x = .str z ∧ y = .str z := by
  subst ex
  cases x with
  | non => exact .inl ⟨rfl, rfl⟩
  | bl b => exact .inr (.inl ⟨b, rfl, rfl⟩)
  | int i => exact .inr (.inr (.inl ⟨i, rfl, rfl⟩))
  | str z => exact .inr (.inr (.inr ⟨z, rfl, rfl⟩))
  | byt _ => cases fx
  | flt _ => cases fx
  | ref _ => cases fx
  | ty _ => cases fx
structure SameTx (K : PySem.W.Frag) (mg : Str → Option Value) : Prop where
  m_isinstance : mg "isinstance" = none
  m_int : mg "int" = none
  m_bool : mg "bool" = none
  m_str : mg "str" = none
  m_tuple : mg "tuple" = none
  m_list : mg "list" = none
  m_len : mg "len" = none
  m_range : mg "range" = none
theorem ok_L_same {f : Addr} {fd : FuncData} (F : Fun K "_law_same" "_law_same" s_L_same f fd) (g : mg "_law_same" = some (.ref f)) (b : Binds K fd ["_law_got", "_law_wanted"] []) (T : SameTx K mg) (d_L_integer : Def P w K mg base "_law_integer" 1 ["_law_got"] spInteger) :
    ∀ n : Nat, n ≤ 10 → FnOk P w K mg base CX0 (n + 2) f fd ["_law_got", "_law_wanted"] (spSame n) := by
  obtain ⟨m_isinstance, m_int, m_bool, m_str, m_tuple, m_list, m_len, m_range⟩ := T
  intro n
  induction n with
  | zero =>
    intro _
    refine F.ok sc_L_same (fun vs H Q E h => ?_) (fun cdv A outer s H vs Q E hr h => ?_)
    · obtain ⟨x, y, rfl, _⟩ := h
      rfl
    · obtain ⟨x, y, rfl, ⟨ex, fx⟩, q⟩ := h
      refine ⟨_, (pss_cons (ps_if (pt_cmpR op_isN (pv 1) pe_non (nomark _)) (pss_one (ps_ret (pe_cmpR op_isN (pv 0) pe_non (nomark _)))) pss_nil)
  (pss_cons (ps_if (pt_cmpR op_isT (pv 1) pe_bl (nomark _)) (pss_one (ps_ret (pe_cmpR op_isT (pv 0) pe_bl (nomark _)))) pss_nil)
  (pss_cons (ps_if (pt_cmpR op_isT (pv 1) pe_bl (nomark _)) (pss_one (ps_ret (pe_cmpR op_isT (pv 0) pe_bl (nomark _)))) pss_nil)
  (pss_cons (ps_if (pt_val (pe_callB call_isi (by rfl) m_isinstance (by decide +kernel) (pa_cons (pv 1) (pa_cons (pe_bltn (v := .ty "int") (u := .type "int") (by rfl) m_int (by decide +kernel) rfl) pa_nil)))) (pss_one (ps_ret (pe_and (pe_callD d_L_integer (hr.mono (by omega)) (by rfl) (pa_cons (pv 0) pa_nil)) (pe_one (pe_cmpR op_eq (pv 0) (pv 1) (nomark _)))))) pss_nil)
  (pss_cons (ps_if (pt_val (pe_callB call_isi (by rfl) m_isinstance (by decide +kernel) (pa_cons (pv 1) (pa_cons (pe_bltn (v := .ty "str") (u := .type "str") (by rfl) m_str (by decide +kernel) rfl) pa_nil)))) (pss_one (ps_ret (pe_and (pe_callB call_isi (by rfl) m_isinstance (by decide +kernel) (pa_cons (pv 0) (pa_cons (pe_bltn (v := .ty "str") (u := .type "str") (by rfl) m_str (by decide +kernel) rfl) pa_nil))) (pe_one (pe_cmpR op_eq (pv 0) (pv 1) (nomark _)))))) pss_nil)
  (pss_cons (ps_if (PW.pt (pw_and (pt_val (pe_callB call_isi (by rfl) m_isinstance (by decide +kernel) (pa_cons (pv 1) (pa_cons (pe_bltn (v := .ty "tuple") (u := .type "tuple") (by rfl) m_tuple (by decide +kernel) rfl) pa_nil)))) (pw_and1 (pt_not (pt_val (pe_callB call_isi (by rfl) m_isinstance (by decide +kernel) (pa_cons (pv 0) (pa_cons (pe_bltn (v := .ty "tuple") (u := .type "tuple") (by rfl) m_tuple (by decide +kernel) rfl) pa_nil)))))))) (pss_one (ps_ret pe_bl)) pss_nil)
  (pss_cons (ps_if (PW.pt (pw_and (pt_val (pe_callB call_isi (by rfl) m_isinstance (by decide +kernel) (pa_cons (pv 1) (pa_cons (pe_bltn (v := .ty "list") (u := .type "list") (by rfl) m_list (by decide +kernel) rfl) pa_nil)))) (pw_and1 (pt_not (pt_val (pe_callB call_isi (by rfl) m_isinstance (by decide +kernel) (pa_cons (pv 0) (pa_cons (pe_bltn (v := .ty "list") (u := .type "list") (by rfl) m_list (by decide +kernel) rfl) pa_nil)))))))) (pss_one (ps_ret pe_bl)) pss_nil)
  (pss_cons (ps_if (pt_cmpR op_ne (pe_callB call_len_seq (by rfl) m_len (by decide +kernel) (pa_cons (pv 0) pa_nil)) (pe_callB call_len_seq (by rfl) m_len (by decide +kernel) (pa_cons (pv 1) pa_nil)) (nomark _)) (pss_one (ps_ret pe_bl)) pss_nil)
  (pss_cons ps_never (pss_one ps_never)))))))))), ?_⟩
      rcases same_tail (H := H) ex fx with ⟨rfl, rfl⟩ | ⟨b, rfl, rfl⟩ | ⟨i, rfl, rfl⟩ | ⟨z, rfl, rfl⟩
      · exact ⟨_, rfl, rfl, _, rfl, iteT ⟨_, rfl, rfl, q⟩⟩
      · refine ⟨_, rfl, rfl, _, rfl, iteF ⟨_, rfl, _, rfl, _, rfl, ?_⟩⟩
        cases b with
        | true => exact iteT ⟨_, rfl, _, rfl, q⟩
        | false => exact iteF ⟨_, rfl, _, rfl, _, rfl, iteT ⟨_, rfl, _, rfl, q⟩⟩
      · refine ⟨_, rfl, rfl, _, rfl, iteF ⟨_, rfl, _, rfl, _, rfl, iteF ⟨_, rfl, _, rfl, _, rfl, iteF ?_⟩⟩⟩
        refine ⟨_, rfl, _, _, _, _, true, rfl, .ty "int", .base (.int i), rfl, _, rfl, iteT ?_⟩
        refine ⟨_, rfl, i, rfl, _, rfl, iteT ⟨_, rfl, _, rfl, rfl, ?_⟩⟩
        exact bint (congrArg V.bl (decide_eq_true rfl)) q
      · refine ⟨_, rfl, rfl, _, rfl, iteF ⟨_, rfl, _, rfl, _, rfl, iteF ⟨_, rfl, _, rfl, _, rfl, iteF ?_⟩⟩⟩
        refine ⟨_, rfl, _, _, _, _, false, rfl, .ty "int", .base (.str z), rfl, _, rfl, iteF ?_⟩
        refine ⟨_, rfl, _, _, _, _, true, rfl, .ty "str", .base (.str z), rfl, _, rfl, iteT ?_⟩
        refine ⟨_, rfl, _, _, _, _, true, rfl, .ty "str", .base (.str z), rfl, _, rfl, iteT ⟨_, rfl, _, rfl, rfl, ?_⟩⟩
        exact bint (congrArg V.bl (decide_eq_true rfl)) q
  | succ n ih =>
    intro hn
    have d_L_same : Def P w K mg base "_law_same" (n + 2) ["_law_got", "_law_wanted"] (spSame n) := ⟨_, _, ih (by omega), g, F.kp, b⟩
    refine F.ok sc_L_same (fun vs H Q E h => ?_) (fun cdv A outer s H vs Q E hr h => ?_)
    · obtain ⟨x, y, rfl, _⟩ := h
      rfl
    · obtain ⟨x, y, rfl, hE, q⟩ := h
      rcases hE with ⟨ex, fx⟩ | ⟨a, c, xs, ys, rfl, rfl, hk, hl, hz, hi⟩
      · refine ⟨_, (pss_cons (ps_if (pt_cmpR op_isN (pv 1) pe_non (nomark _)) (pss_one (ps_ret (pe_cmpR op_isN (pv 0) pe_non (nomark _)))) pss_nil)
  (pss_cons (ps_if (pt_cmpR op_isT (pv 1) pe_bl (nomark _)) (pss_one (ps_ret (pe_cmpR op_isT (pv 0) pe_bl (nomark _)))) pss_nil)
  (pss_cons (ps_if (pt_cmpR op_isT (pv 1) pe_bl (nomark _)) (pss_one (ps_ret (pe_cmpR op_isT (pv 0) pe_bl (nomark _)))) pss_nil)
  (pss_cons (ps_if (pt_val (pe_callB call_isi (by rfl) m_isinstance (by decide +kernel) (pa_cons (pv 1) (pa_cons (pe_bltn (v := .ty "int") (u := .type "int") (by rfl) m_int (by decide +kernel) rfl) pa_nil)))) (pss_one (ps_ret (pe_and (pe_callD d_L_integer (hr.mono (by omega)) (by rfl) (pa_cons (pv 0) pa_nil)) (pe_one (pe_cmpR op_eq (pv 0) (pv 1) (nomark _)))))) pss_nil)
  (pss_cons (ps_if (pt_val (pe_callB call_isi (by rfl) m_isinstance (by decide +kernel) (pa_cons (pv 1) (pa_cons (pe_bltn (v := .ty "str") (u := .type "str") (by rfl) m_str (by decide +kernel) rfl) pa_nil)))) (pss_one (ps_ret (pe_and (pe_callB call_isi (by rfl) m_isinstance (by decide +kernel) (pa_cons (pv 0) (pa_cons (pe_bltn (v := .ty "str") (u := .type "str") (by rfl) m_str (by decide +kernel) rfl) pa_nil))) (pe_one (pe_cmpR op_eq (pv 0) (pv 1) (nomark _)))))) pss_nil)
  (pss_cons (ps_if (PW.pt (pw_and (pt_val (pe_callB call_isi (by rfl) m_isinstance (by decide +kernel) (pa_cons (pv 1) (pa_cons (pe_bltn (v := .ty "tuple") (u := .type "tuple") (by rfl) m_tuple (by decide +kernel) rfl) pa_nil)))) (pw_and1 (pt_not (pt_val (pe_callB call_isi (by rfl) m_isinstance (by decide +kernel) (pa_cons (pv 0) (pa_cons (pe_bltn (v := .ty "tuple") (u := .type "tuple") (by rfl) m_tuple (by decide +kernel) rfl) pa_nil)))))))) (pss_one (ps_ret pe_bl)) pss_nil)
  (pss_cons (ps_if (PW.pt (pw_and (pt_val (pe_callB call_isi (by rfl) m_isinstance (by decide +kernel) (pa_cons (pv 1) (pa_cons (pe_bltn (v := .ty "list") (u := .type "list") (by rfl) m_list (by decide +kernel) rfl) pa_nil)))) (pw_and1 (pt_not (pt_val (pe_callB call_isi (by rfl) m_isinstance (by decide +kernel) (pa_cons (pv 0) (pa_cons (pe_bltn (v := .ty "list") (u := .type "list") (by rfl) m_list (by decide +kernel) rfl) pa_nil)))))))) (pss_one (ps_ret pe_bl)) pss_nil)
  (pss_cons (ps_if (pt_cmpR op_ne (pe_callB call_len_seq (by rfl) m_len (by decide +kernel) (pa_cons (pv 0) pa_nil)) (pe_callB call_len_seq (by rfl) m_len (by decide +kernel) (pa_cons (pv 1) pa_nil)) (nomark _)) (pss_one (ps_ret pe_bl)) pss_nil)
  (pss_cons ps_never (pss_one ps_never)))))))))), ?_⟩
        rcases same_tail (H := H) ex fx with ⟨rfl, rfl⟩ | ⟨b, rfl, rfl⟩ | ⟨i, rfl, rfl⟩ | ⟨z, rfl, rfl⟩
        · exact ⟨_, rfl, rfl, _, rfl, iteT ⟨_, rfl, rfl, q⟩⟩
        · refine ⟨_, rfl, rfl, _, rfl, iteF ⟨_, rfl, _, rfl, _, rfl, ?_⟩⟩
          cases b with
          | true => exact iteT ⟨_, rfl, _, rfl, q⟩
          | false => exact iteF ⟨_, rfl, _, rfl, _, rfl, iteT ⟨_, rfl, _, rfl, q⟩⟩
        · refine ⟨_, rfl, rfl, _, rfl, iteF ⟨_, rfl, _, rfl, _, rfl, iteF ⟨_, rfl, _, rfl, _, rfl, iteF ?_⟩⟩⟩
          refine ⟨_, rfl, _, _, _, _, true, rfl, .ty "int", .base (.int i), rfl, _, rfl, iteT ?_⟩
          refine ⟨_, rfl, i, rfl, _, rfl, iteT ⟨_, rfl, _, rfl, rfl, ?_⟩⟩
          exact bint (congrArg V.bl (decide_eq_true rfl)) q
        · refine ⟨_, rfl, rfl, _, rfl, iteF ⟨_, rfl, _, rfl, _, rfl, iteF ⟨_, rfl, _, rfl, _, rfl, iteF ?_⟩⟩⟩
          refine ⟨_, rfl, _, _, _, _, false, rfl, .ty "int", .base (.str z), rfl, _, rfl, iteF ?_⟩
          refine ⟨_, rfl, _, _, _, _, true, rfl, .ty "str", .base (.str z), rfl, _, rfl, iteT ?_⟩
          refine ⟨_, rfl, _, _, _, _, true, rfl, .ty "str", .base (.str z), rfl, _, rfl, iteT ⟨_, rfl, _, rfl, rfl, ?_⟩⟩
          exact bint (congrArg V.bl (decide_eq_true rfl)) q
      · have step : ∀ (i : Nat) (hi1 : i < ys.length), ∃ x y, atI xs (0 + (i : Int)) = some x ∧ atI ys (0 + (i : Int)) = some y ∧ Eq2 H n x y := by
          intro i h1
          have h2 : i < xs.length := by omega
          refine ⟨xs[i], ys[i], ?_, ?_, hi i _ _ (List.getElem?_eq_getElem h2) (List.getElem?_eq_getElem h1)⟩
          · exact atI_in (by omega) (by rw [show (0 + (i : Int)).toNat = i by omega]; exact List.getElem?_eq_getElem h2)
          · exact atI_in (by omega) (by rw [show (0 + (i : Int)).toNat = i by omega]; exact List.getElem?_eq_getElem h1)
        rcases hk with ⟨ha, hc⟩ | ⟨ha, hc⟩
        · refine ⟨_, (pss_cons (ps_if (pt_cmpR op_isN (pv 1) pe_non (nomark _)) (pss_one (ps_ret (pe_cmpR op_isN (pv 0) pe_non (nomark _)))) pss_nil)
  (pss_cons (ps_if (pt_cmpR op_isT (pv 1) pe_bl (nomark _)) (pss_one (ps_ret (pe_cmpR op_isT (pv 0) pe_bl (nomark _)))) pss_nil)
  (pss_cons (ps_if (pt_cmpR op_isT (pv 1) pe_bl (nomark _)) (pss_one (ps_ret (pe_cmpR op_isT (pv 0) pe_bl (nomark _)))) pss_nil)
  (pss_cons (ps_if (pt_val (pe_callB call_isi (by rfl) m_isinstance (by decide +kernel) (pa_cons (pv 1) (pa_cons (pe_bltn (v := .ty "int") (u := .type "int") (by rfl) m_int (by decide +kernel) rfl) pa_nil)))) (pss_one (ps_ret (pe_and (pe_callD d_L_integer (hr.mono (by omega)) (by rfl) (pa_cons (pv 0) pa_nil)) (pe_one (pe_cmpR op_eq (pv 0) (pv 1) (nomark _)))))) pss_nil)
  (pss_cons (ps_if (pt_val (pe_callB call_isi (by rfl) m_isinstance (by decide +kernel) (pa_cons (pv 1) (pa_cons (pe_bltn (v := .ty "str") (u := .type "str") (by rfl) m_str (by decide +kernel) rfl) pa_nil)))) (pss_one (ps_ret (pe_and (pe_callB call_isi (by rfl) m_isinstance (by decide +kernel) (pa_cons (pv 0) (pa_cons (pe_bltn (v := .ty "str") (u := .type "str") (by rfl) m_str (by decide +kernel) rfl) pa_nil))) (pe_one (pe_cmpR op_eq (pv 0) (pv 1) (nomark _)))))) pss_nil)
  (pss_cons (ps_if (PW.pt (pw_and (pt_val (pe_callB call_isi (by rfl) m_isinstance (by decide +kernel) (pa_cons (pv 1) (pa_cons (pe_bltn (v := .ty "tuple") (u := .type "tuple") (by rfl) m_tuple (by decide +kernel) rfl) pa_nil)))) (pw_and1 (pt_not (pt_val (pe_callB call_isi (by rfl) m_isinstance (by decide +kernel) (pa_cons (pv 0) (pa_cons (pe_bltn (v := .ty "tuple") (u := .type "tuple") (by rfl) m_tuple (by decide +kernel) rfl) pa_nil)))))))) (pss_one (ps_ret pe_bl)) pss_nil)
  (pss_cons (ps_if (PW.pt (pw_and (pt_val (pe_callB call_isi (by rfl) m_isinstance (by decide +kernel) (pa_cons (pv 1) (pa_cons (pe_bltn (v := .ty "list") (u := .type "list") (by rfl) m_list (by decide +kernel) rfl) pa_nil)))) (pw_and1 (pt_not (pt_val (pe_callB call_isi (by rfl) m_isinstance (by decide +kernel) (pa_cons (pv 0) (pa_cons (pe_bltn (v := .ty "list") (u := .type "list") (by rfl) m_list (by decide +kernel) rfl) pa_nil)))))))) (pss_one (ps_ret pe_bl)) pss_nil)
  (pss_cons (ps_if (pt_cmpR op_ne (pe_callB call_len_seq (by rfl) m_len (by decide +kernel) (pa_cons (pv 0) pa_nil)) (pe_callB call_len_seq (by rfl) m_len (by decide +kernel) (pa_cons (pv 1) pa_nil)) (nomark _)) (pss_one (ps_ret pe_bl)) pss_nil)
  (pss_cons (ps_for PassesOwn.never rfl (pi_range1 (by rfl) m_range (pa_cons (pe_callB call_len_seq (by rfl) m_len (by decide +kernel) (pa_cons (pv 1) pa_nil)) pa_nil)) (pg_name (i := 2) sc_L_same.nd rfl (.inl rfl))
    (pss_one (ps_if (pt_not (pt_val (pe_callD d_L_same (hr.mono (by omega)) (by rfl) (pa_cons (pe_ix ix_list (pv 0) (pv 2) (fun _ _ => rfl)) (pa_cons (pe_ix ix_list (pv 1) (pv 2) (fun _ _ => rfl)) pa_nil))))) (pss_one (ps_ret pe_bl)) pss_nil)))
  (pss_one (ps_ret pe_bl))))))))))), ?_⟩
          refine ⟨_, rfl, rfl, _, rfl, iteF ⟨_, rfl, _, rfl, _, rfl, iteF ⟨_, rfl, _, rfl, _, rfl, iteF ?_⟩⟩⟩
          refine ⟨_, rfl, _, _, _, _, false, rfl, .ty "int", .base (.lst hc), rfl, _, rfl, iteF ?_⟩
          refine ⟨_, rfl, _, _, _, _, false, rfl, .ty "str", .base (.lst hc), rfl, _, rfl, iteF ?_⟩
          refine ⟨_, rfl, _, _, _, _, false, rfl, .ty "tuple", .base (.lst hc), rfl, _, rfl, iteF (iteF ?_)⟩
          refine ⟨_, rfl, _, _, _, _, true, rfl, .ty "list", .base (.lst hc), rfl, _, rfl, iteT ⟨_, rfl, _, _, _, _, true, rfl, .ty "list", .base (.lst ha), rfl, _, rfl, iteF ?_⟩⟩
          refine ⟨_, rfl, _, _, rfl, .inl (lstAt ha), _, rfl, _, _, rfl, .inl (lstAt hc), rfl, _, rfl, ?_⟩
          refine iteNS (congrArg (fun k : Nat => V.int (k : Int)) hl) ?_
          refine ⟨_, rfl, _, _, rfl, .inl (lstAt hc), _, rfl, by omega, by omega, for_range (fun i σ H' => H' = H ∧ ∃ y : Option V, σ = [some (.ref a), some (.ref c), y]) ⟨rfl, _, rfl⟩ ?_ ?_⟩
          · rintro i σ H' hlt ⟨rfl, y, rfl⟩
            obtain ⟨x1, y1, e1, e2, e3⟩ := step i (by omega)
            refine ⟨_, rfl, _, rfl, _, _, _, _, rfl, rfl, lstAt ha, e1, _, rfl, _, rfl, _, _, _, _, rfl, rfl, lstAt hc, e2, x1, y1, rfl, e3, _, rfl, iteF ⟨rfl, _, rfl⟩⟩
          · rintro σ H' ⟨rfl, y, rfl⟩
            exact q
        · refine ⟨_, (pss_cons (ps_if (pt_cmpR op_isN (pv 1) pe_non (nomark _)) (pss_one (ps_ret (pe_cmpR op_isN (pv 0) pe_non (nomark _)))) pss_nil)
  (pss_cons (ps_if (pt_cmpR op_isT (pv 1) pe_bl (nomark _)) (pss_one (ps_ret (pe_cmpR op_isT (pv 0) pe_bl (nomark _)))) pss_nil)
  (pss_cons (ps_if (pt_cmpR op_isT (pv 1) pe_bl (nomark _)) (pss_one (ps_ret (pe_cmpR op_isT (pv 0) pe_bl (nomark _)))) pss_nil)
  (pss_cons (ps_if (pt_val (pe_callB call_isi (by rfl) m_isinstance (by decide +kernel) (pa_cons (pv 1) (pa_cons (pe_bltn (v := .ty "int") (u := .type "int") (by rfl) m_int (by decide +kernel) rfl) pa_nil)))) (pss_one (ps_ret (pe_and (pe_callD d_L_integer (hr.mono (by omega)) (by rfl) (pa_cons (pv 0) pa_nil)) (pe_one (pe_cmpR op_eq (pv 0) (pv 1) (nomark _)))))) pss_nil)
  (pss_cons (ps_if (pt_val (pe_callB call_isi (by rfl) m_isinstance (by decide +kernel) (pa_cons (pv 1) (pa_cons (pe_bltn (v := .ty "str") (u := .type "str") (by rfl) m_str (by decide +kernel) rfl) pa_nil)))) (pss_one (ps_ret (pe_and (pe_callB call_isi (by rfl) m_isinstance (by decide +kernel) (pa_cons (pv 0) (pa_cons (pe_bltn (v := .ty "str") (u := .type "str") (by rfl) m_str (by decide +kernel) rfl) pa_nil))) (pe_one (pe_cmpR op_eq (pv 0) (pv 1) (nomark _)))))) pss_nil)
  (pss_cons (ps_if (PW.pt (pw_and (pt_val (pe_callB call_isi (by rfl) m_isinstance (by decide +kernel) (pa_cons (pv 1) (pa_cons (pe_bltn (v := .ty "tuple") (u := .type "tuple") (by rfl) m_tuple (by decide +kernel) rfl) pa_nil)))) (pw_and1 (pt_not (pt_val (pe_callB call_isi (by rfl) m_isinstance (by decide +kernel) (pa_cons (pv 0) (pa_cons (pe_bltn (v := .ty "tuple") (u := .type "tuple") (by rfl) m_tuple (by decide +kernel) rfl) pa_nil)))))))) (pss_one (ps_ret pe_bl)) pss_nil)
  (pss_cons (ps_if (PW.pt (pw_and (pt_val (pe_callB call_isi (by rfl) m_isinstance (by decide +kernel) (pa_cons (pv 1) (pa_cons (pe_bltn (v := .ty "list") (u := .type "list") (by rfl) m_list (by decide +kernel) rfl) pa_nil)))) (pw_and1 (pt_not (pt_val (pe_callB call_isi (by rfl) m_isinstance (by decide +kernel) (pa_cons (pv 0) (pa_cons (pe_bltn (v := .ty "list") (u := .type "list") (by rfl) m_list (by decide +kernel) rfl) pa_nil)))))))) (pss_one (ps_ret pe_bl)) pss_nil)
  (pss_cons (ps_if (pt_cmpR op_ne (pe_callB call_len_seq (by rfl) m_len (by decide +kernel) (pa_cons (pv 0) pa_nil)) (pe_callB call_len_seq (by rfl) m_len (by decide +kernel) (pa_cons (pv 1) pa_nil)) (nomark _)) (pss_one (ps_ret pe_bl)) pss_nil)
  (pss_cons (ps_for PassesOwn.never rfl (pi_range1 (by rfl) m_range (pa_cons (pe_callB call_len_seq (by rfl) m_len (by decide +kernel) (pa_cons (pv 1) pa_nil)) pa_nil)) (pg_name (i := 2) sc_L_same.nd rfl (.inl rfl))
    (pss_one (ps_if (pt_not (pt_val (pe_callD d_L_same (hr.mono (by omega)) (by rfl) (pa_cons (pe_ix ix_tup (pv 0) (pv 2) (fun _ _ => rfl)) (pa_cons (pe_ix ix_tup (pv 1) (pv 2) (fun _ _ => rfl)) pa_nil))))) (pss_one (ps_ret pe_bl)) pss_nil)))
  (pss_one (ps_ret pe_bl))))))))))), ?_⟩
          refine ⟨_, rfl, rfl, _, rfl, iteF ⟨_, rfl, _, rfl, _, rfl, iteF ⟨_, rfl, _, rfl, _, rfl, iteF ?_⟩⟩⟩
          refine ⟨_, rfl, _, _, _, _, false, rfl, .ty "int", hc.ty, rfl, _, rfl, iteF ?_⟩
          refine ⟨_, rfl, _, _, _, _, false, rfl, .ty "str", hc.ty, rfl, _, rfl, iteF ?_⟩
          refine ⟨_, rfl, _, _, _, _, true, rfl, .ty "tuple", hc.ty, rfl, _, rfl, iteT ⟨_, rfl, _, _, _, _, true, rfl, .ty "tuple", ha.ty, rfl, _, rfl, iteF ?_⟩⟩
          refine ⟨_, rfl, _, _, _, _, false, rfl, .ty "list", hc.ty, rfl, _, rfl, iteF (iteF ?_)⟩
          refine ⟨_, rfl, _, _, rfl, .inr (ha.sq), _, rfl, _, _, rfl, .inr (hc.sq), rfl, _, rfl, ?_⟩
          refine iteNS (congrArg (fun k : Nat => V.int (k : Int)) hl) ?_
          refine ⟨_, rfl, _, _, rfl, .inr (hc.sq), _, rfl, by omega, by omega, for_range (fun i σ H' => H' = H ∧ ∃ y : Option V, σ = [some (.ref a), some (.ref c), y]) ⟨rfl, _, rfl⟩ ?_ ?_⟩
          · rintro i σ H' hlt ⟨rfl, y, rfl⟩
            obtain ⟨x1, y1, e1, e2, e3⟩ := step i (by omega)
            refine ⟨_, rfl, _, rfl, _, _, _, _, rfl, rfl, ha.sq, e1, _, rfl, _, rfl, _, _, _, _, rfl, rfl, hc.sq, e2, x1, y1, rfl, e3, _, rfl, iteF ⟨rfl, _, rfl⟩⟩
          · rintro σ H' ⟨rfl, y, rfl⟩
            exact q
end
end TK

namespace TK
open PySem PySem.Spec PyProof.Rows L2
/-- o.m(k = v, ..) of an instance of the class at C -/
def tMethK (C : Addr) (m : Str) (n : Nat) (sp : Sp) (gV : List V → List V → List V) (E : XK) (ta : TE) (tk : TA) : TE := fun σ H Q => ta σ H fun x H1 => ∃ a dx fs, x = .ref a ∧ H1 a = some (.ins C dx fs) ∧ fs.lookup m = none ∧
  tk σ H1 fun zs H2 => zs.length = n ∧ sp (gV [x] zs) H2 Q E
section
variable {X : Cx} {CX : CXT} {k : Nat} {f C : Addr} {fd : FuncData} {ps ks : List Str} {sp : Sp} {E : XK} {m : Str} {pos apos : Pos} {o : Expr} {kws : List Keyword} {ta : TE} {tk : TA} {g : List Value → List Value → List Value} {gV : List V → List V → List V}
theorem run_kb {pins : List (Addr × Obj)} {σ : L2.St} {H : Hp} {s : Shared} {Q : VK} {n : Nat} {us ws : List Value} {vs zs : List V} (F : FnOk X.prog X.w X.K X.mg X.base CX k f fd ps sp) (hr : Room k X.A) (hb : KBn X.K fd ps n ks g gV) (hx : Passes CX X E)
    (I : Inv X pins σ H s) (r : Vals vs us) (rz : Vals zs ws) (l1 : us.length = n) (l2 : ws.length = ks.length) (h : sp (gV vs zs) H Q E) : wpAny (model X.prog X.w) X.A (call (.ref f) us (ks.zip ws)) (EP X pins σ Q) X.xe s := by
  refine wpAny_call (codeAny_mono (F.run X.A X.stack s H ⟨us, ks.zip ws⟩ (g us ws) (gV vs zs) Q E hr I.env0 (hb.to s us ws I.kIn l1 l2) (hb.rel r rz) h) fun r s' hq => ?_)
  cases r with
  | error e => exact hx pins σ H s e s' I hq
  | ok fl =>
    cases fl with
    | ret u => exact I.after hq
    | next => exact False.elim hq
    | brk => exact False.elim hq
    | cont => exact False.elim hq
theorem pe_methK0 {pl : Sem Bool} (he : PE X o ta) (c : Cls X.K C) (hm : Meth X.K C m f) (F : FnOk X.prog X.w X.K X.mg X.base CX k f fd ps sp) (hr : Room k X.A) (hb : KBn X.K fd ps 1 ks g gV) (hx : Passes CX X E) (hkw : PK X kws tk)
    (hall : (backToKw pos (keywordEach kws X.env)).all (·.1.isSome) = true := by rfl) (hks : (backToKw pos (keywordEach kws X.env)).filterMap (·.1) = ks := by rfl)
    (hpl : ((backTo pos (starEach [] X.env)).any (·.1) || (backToKw pos (keywordEach kws X.env)).any (·.1.isNone)) = false := by rfl)
    (ht : eval (.Call (.Attribute o m apos) [] kws pos) X.env = (do
      let ov ← eval o X.env
      standAt apos.atName
      let (f, first) ← holding [ov] (getMethod ov m pl)
      callWith pos f first (backTo pos (starEach [] X.env)) (backToKw pos (keywordEach kws X.env))) := by rfl) :
    PE X (.Call (.Attribute o m apos) [] kws pos) (tMethK C m ks.length sp gV E ta tk) := by
  refine ⟨fun pins s σ H Q I h => ?_⟩
  refine PySem.W.methodCall_KW (pl := pl) (thn (he.run pins s σ H _ I h) fun u s1 ⟨x, H1, I1, rx, a, dx, fs, ex, ea, l, q⟩ => ?_) ht
  subst ex
  obtain rfl : u = Value.ref a := rx
  refine getmeth_ok I1 ea c hm l ?_
  refine PySem.W.callWith_KW0 (first := [.ref a]) (h₀ := X.base) I.ok.mod.kin hm.kp hall ?_ hpl
  refine thn (hkw.run pos pins s1 σ H1 _ I1 q) fun ws s2 ⟨zs, H2, I2, rz, l1, q2⟩ => ⟨I2.kIn, ?_⟩
  rw [hks]
  exact run_kb (us := [.ref a]) (vs := [.ref a]) F hr hb hx I2 (.cons rfl .nil) rz rfl (rz.length.symm.trans l1) q2
end
section
variable {X : Cx} {K : PySem.W.Frag}
theorem call_tuple_ofK (h : X.K = K) : CallR X (.type "tuple") (fun xs H Q => ∃ p ys, xs = [.ref p] ∧ ((SqL K H p ys ∧ ∀ l, H l = none → Q (.ref l) (upd H l (.tup ys))) ∨ (SqT K H p ys ∧ Q (.ref p) H))) := h ▸ call_tuple_of
theorem call_list_ofK (h : X.K = K) : CallR X (.type "list") (fun xs H Q => ∃ p ys, xs = [.ref p] ∧ (SqL K H p ys ∨ SqT K H p ys) ∧ ∀ l, H l = none → Q (.ref l) (upd H l (.lst ys))) := h ▸ call_list_of
end
/-- what is no instance of the class, nor of one below it -/
inductive Odd (K : PySem.W.Frag) (C : Addr) (H : Hp) : V → Prop where
  | non (h : PySem.W.notFirst K C (.type "NoneType") = true) : Odd K C H .non
  | str (z : Str) (h : PySem.W.notFirst K C (.type "str") = true) : Odd K C H (.str z)
  | tup {a : Addr} {xs : List V} (e : H a = some (.tup xs)) (h : PySem.W.notFirst K C (.type "tuple") = true) : Odd K C H (.ref a)
section
variable {X : Cx} {K : PySem.W.Frag} {CX : CXT} {C g : Addr} {n : Nat} {fd : FuncData} {ps : List Str} {sp : Sp} {E : XK} {pins : List (Addr × Obj)} {σ : L2.St} {H : Hp} {s : Shared}
/-- o == y: y of one's own class, or of another kind -/
def rOwnA (K : PySem.W.Frag) (C : Addr) (sp : Sp) (E : XK) : R2 := fun x y H Q => IsIn H x C ∧ (IsIn H y C ∨ Odd K C H y) ∧ sp [x, y] H Q E
theorem odd_looks {x : V} {u : Value} (I : Inv X pins σ H s) (rx : RelV x u) (o : Odd X.K C H x) : ∃ tb, PySem.W.Looks (model X.prog X.w) s.heap (typeOf u) tb ∧ PySem.W.notFirst X.K C tb = true := by
  cases o with
  | non h => cases (show u = Value.none from rx); exact ⟨_, .now, h⟩
  | str z h => obtain ⟨t, q⟩ := (show ∃ t, u = Value.str z t from rx); cases q; exact ⟨_, .now, h⟩
  | @tup a xs ea h =>
    cases (show u = Value.ref a from rx)
    obtain ⟨_, _, _, o, h1, h2, _⟩ := (show ObjOk X.prog X.w H s.heap a (.tup xs) from I.hok a _ ea)
    exact ⟨_, h2 ▸ (PySem.W.Looks.ld h1).andThen .now, h⟩
theorem op_ownEqA {op : CmpOp} (hK : X.K = K) (hop : ∀ a b, compareOp op a b = richCompare op a b) (c : Own X.K C (cmpInfo op).2.1 g) (F : FnOk X.prog X.w X.K X.mg X.base CX n g fd ps sp) (hr : Room n X.A) (hb : Binds X.K fd ps []) (hx : Passes CX X E) :
    OpR X (compareOp op) (rOwnA K C sp E) := by
  subst hK
  intro pins s σ H x y v u Q I rx ry h
  obtain ⟨⟨a, dx, fs, rfl, ha⟩, hy, q⟩ := h
  cases rx
  obtain ⟨ox, od, J⟩ := own_at I ha
  obtain ⟨m, hF⟩ := I.fr
  rw [hop]
  have key : ∃ tb, PySem.W.Looks (model X.prog X.w) s.heap (typeOf u) tb ∧ PySem.W.notFirst X.K C tb = true := by
    rcases hy with ⟨b, dy, gs, rfl, hb'⟩ | o
    · cases ry
      obtain ⟨ox', od', J'⟩ := own_at I hb'
      exact ⟨_, J'.type, by simp [PySem.W.notFirst]⟩
    · exact odd_looks I ry o
  obtain ⟨tb, L, nf⟩ := key
  refine PySem.W.cmp_K (op := op) (tb := tb) hr.units0 hF I.ok.mod.kin J L nf c.at_ c.fn (wpAny_mono (run_own F hr I.env0 hb hx I (vs := [.ref a, y]) (.cons rfl (.cons ry .nil)) q) (fun w s' z => ?_) fun _ _ x => x)
  obtain ⟨z', H', I', rz, qz⟩ := z
  exact SlX.cmpback rz ⟨z', H', I', rz, qz⟩
end
end TK

namespace TK
open PySem PySem.Spec PyProof.Rows L2
theorem eqv_nm {a b : List Nat} : eqV (vN a) (vN b) = decide (a = b) := by
  show (sOf a == sOf b) = _
  by_cases h : a = b
  · subst h; simp
  · rw [decide_eq_false h]
    exact beq_eq_false_iff_ne.mpr fun z => h (sOf_inj z)
theorem nms_flat (zs : List (List Nat)) : (zs.map vN).all flatV = true := by
  rw [List.all_eq_true]
  intro x hx
  obtain ⟨c, _, rfl⟩ := List.mem_map.mp hx
  rfl
theorem inV_nm {z : List Nat} {zs : List (List Nat)} : inV (vN z) (zs.map vN) = decide (z ∈ zs) := by
  unfold inV
  rw [List.any_map]
  by_cases h : z ∈ zs
  · rw [decide_eq_true h]
    exact List.any_eq_true.mpr ⟨z, h, by show eqV (vN z) (vN z) = true; rw [eqv_nm]; exact decide_eq_true rfl⟩
  · rw [decide_eq_false h]
    exact List.any_eq_false.mpr fun x hx => by
      show ¬ eqV (vN x) (vN z) = true
      rw [eqv_nm]
      intro e
      have := of_decide_eq_true e
      subst this
      exact h hx
theorem in_nm {z : List Nat} {zs : List (List Nat)} : (if false = true then !inV (vN z) (zs.map vN) else inV (vN z) (zs.map vN)) = decide (z ∈ zs) := by
  rw [if_neg (by decide), inV_nm]
theorem notin_nm {z : List Nat} {zs : List (List Nat)} : (if true = true then !inV (vN z) (zs.map vN) else inV (vN z) (zs.map vN)) = !decide (z ∈ zs) := by
  rw [if_pos rfl, inV_nm]
theorem eq_nm {a b : List Nat} : decide (vN a = vN b) = decide (a = b) := by
  by_cases h : a = b
  · subst h; simp
  · rw [decide_eq_false h]
    exact decide_eq_false fun z => h (sOf_inj (V.str.inj z))
theorem vN_at {zs : List (List Nat)} {i : Nat} {x : V} (h : (zs.map vN)[i]? = some x) : ∃ z, zs[i]? = some z ∧ x = vN z := by
  rw [List.getElem?_map] at h
  cases e : zs[i]? with
  | none => rw [e] at h; cases h
  | some z => rw [e] at h; exact ⟨z, rfl, (Option.some.inj h).symm⟩
theorem int_at {zs : List Int} {i : Nat} {x : V} (h : (zs.map V.int)[i]? = some x) : ∃ z, zs[i]? = some z ∧ x = .int z := by
  rw [List.getElem?_map] at h
  cases e : zs[i]? with
  | none => rw [e] at h; cases h
  | some z => rw [e] at h; exact ⟨z, rfl, (Option.some.inj h).symm⟩
section
variable {X : Cx} {K : PySem.W.Frag}
theorem mt_tup_indexK (h : X.K = K) : MtR X "tuple.index" (fun x xs H Q => ∃ p, ∃ ys : List Str, ∃ z j, x = .ref p ∧ xs = [.str z] ∧ SqT K H p (ys.map V.str) ∧ ys[j]? = some z ∧ (∀ m, m < j → ys[m]? ≠ some z) ∧ Q (.int (j : Nat)) H) := h ▸ L2.mt_tup_index
end
theorem vN_strs (zs : List (List Nat)) : zs.map vN = (zs.map sOf).map V.str := by rw [List.map_map]; rfl
theorem idx_first {zs : List (List Nat)} {z : List Nat} (h : z ∈ zs) (nd : zs.Nodup) : ∃ j : Nat, zs[j]? = some z ∧ (∀ m, m < j → zs[m]? ≠ some z) := by
  obtain ⟨j, hj⟩ := List.getElem?_of_mem h
  refine ⟨j, hj, fun m hm e => ?_⟩
  have hjl := (List.getElem?_eq_some_iff.mp hj).1
  have := (List.getElem?_inj hjl nd).mp (hj.trans e.symm)
  omega
theorem str_first {zs : List (List Nat)} {z : List Nat} {j : Nat} (h : zs[j]? = some z) (f : ∀ m, m < j → zs[m]? ≠ some z) : (zs.map sOf)[j]? = some (sOf z) ∧ ∀ m, m < j → (zs.map sOf)[m]? ≠ some (sOf z) := by
  refine ⟨by rw [List.getElem?_map, h]; rfl, fun m hm e => f m hm ?_⟩
  rw [List.getElem?_map] at e
  cases e1 : zs[m]? with
  | none => rw [e1] at e; cases e
  | some y => rw [e1] at e; exact congrArg some (sOf_inj (Option.some.inj e))
theorem take_map_succ {α β : Type} (f : α → β) {xs : List α} {i : Nat} {x : α} (h : xs[i]? = some x) : (xs.map f).take (i + 1) = (xs.map f).take i ++ [f x] := by
  rw [List.take_add_one, List.getElem?_map, h]; rfl
theorem take_all {α : Type} {xs : List α} {n : Nat} (h : xs.length = n) : xs.take n = xs := by rw [← h, List.take_length]
end TK

namespace TK
open PySem PySem.Spec PyProof.Rows L2
def SqS (K : PySem.W.Frag) (H : Hp) (a : Addr) (xs : List V) : Prop := SqL K H a xs ∨ SqT K H a xs
theorem SqS.same {K : PySem.W.Frag} {H H' : Hp} {a : Addr} {xs : List V} (h : SqS K H a xs) (s : Same H H') : SqS K H' a xs := by
  rcases h with h | h
  · exact .inl (s.seq h)
  · exact .inr (same_tup s h)
def spRange : Sp := fun vs H Q _ => ∃ a lo hi : Int, vs = [.int a, .int lo, .int hi] ∧ lo ≤ a ∧ a ≤ hi ∧ Q .non H
theorem cut_names (ws : List (List Nat)) (i : Nat) : cutV (ws.map vN) none (some ((i : Nat) : Int)) = (ws.take i).map vN := by
  unfold cutV
  rw [HT.sIx_none, HT.sIx_nat, List.drop_zero, Nat.sub_zero, List.map_take]
  by_cases h : i ≤ (ws.map vN).length
  · rw [Nat.min_eq_left h]
  · rw [Nat.min_eq_right (by omega), List.take_length, List.take_of_length_le (by omega)]
theorem not_before {zs : List (List Nat)} {i : Nat} {z : List Nat} (nd : zs.Nodup) (h : zs[i]? = some z) : z ∉ zs.take i := by
  intro m
  obtain ⟨j, hj⟩ := List.getElem?_of_mem m
  rw [List.getElem?_take] at hj
  split at hj
  · rename_i hji
    have hl := (List.getElem?_eq_some_iff.mp hj).1
    have := (List.getElem?_inj hl nd).mp (hj.trans h.symm)
    omega
  · cases hj
def capV : Option Int → V
  | none => .non
  | some x => .int x
section
variable {P : Program} {w : World} {K : PySem.W.Frag} {mg : Str → Option Value} {base : Heap}
theorem ok_check_size {f : Addr} {fd : FuncData} (F : Fun K "check_size" "check_size" s_check_size f fd) : FnOk P w K mg base CX0 1 f fd ["size", "low", "high"] spRange := by
  refine F.ok sc_check_size (fun vs H Q E h => ?_) (fun cdv A outer s H vs Q E hr h => ?_)
  · obtain ⟨a, lo, hi, rfl, _⟩ := h
    rfl
  · obtain ⟨a, lo, hi, rfl, h1, h2, q⟩ := h
    refine ⟨_, (pss_one (ps_if (pt_not (pt_chain op_le op_le (pv 1) (pv 0) (pv 2))) (pss_one ps_never) pss_nil)), ?_⟩
    refine ⟨_, rfl, _, rfl, _, _, rfl, rfl, _, rfl, ?_⟩
    rw [decide_eq_true h1]
    refine iteT ⟨_, rfl, _, _, rfl, rfl, _, rfl, ?_⟩
    rw [decide_eq_true h2]
    exact iteF q
/-! is_name, of a name or of the empty text -/
def nz (l : List Nat) : Bool := !l.isEmpty
theorem nz_nm {l : List Nat} (h : Nm l) : nz l = true := by
  obtain ⟨h1, _⟩ := h
  cases l with
  | nil => exact absurd h1 (by decide)
  | cons a l => rfl
def NmH (l : List Nat) : Prop := Nm l ∨ l = []
def spIsNameH : Sp := fun vs H Q _ => ∃ l : List Nat, vs = [vN l] ∧ NmH l ∧ ∀ H', Same H H' → Q (.bl (nz l)) H'
theorem all_true {n : Nat} : (List.replicate n true).all id = true := by
  induction n with
  | zero => rfl
  | succ n ih => rw [List.replicate_succ, List.all_cons, ih]; rfl
theorem ok_is_nameH {f : Addr} {fd : FuncData} (F : Fun K "is_name" "is_name" s_is_name f fd) (m_len : mg "len" = none) (m_all : mg "all" = none) {tk : Tok} (g_LETTERS : mg "LETTERS" = some (.str lettersZ tk)) : FnOk P w K mg base CX0 1 f fd ["word"] spIsNameH := by
  refine F.ok sc_is_name (fun vs H Q E h => ?_) (fun cdv A outer s H vs Q E hr h => ?_)
  · obtain ⟨l, rfl, _⟩ := h
    rfl
  · obtain ⟨l, rfl, hn, q⟩ := h
    refine ⟨_, (pss_one (ps_ret (pe_and (pe_chain op_le op_le pe_int (pe_callB call_len_str (by rfl) m_len (by decide +kernel) (pa_cons (pv 0) pa_nil)) pe_int) (pe_one (pe_callB (cr_all rfl) (by rfl) m_all (by decide +kernel) (pa_cons (pe_lc (own := [("sign", 1)]) (by rfl) sc_is_name.nd (pi_str (pv 0)) (blkOk_by (N := ["word", "sign"]) (sc := defScope s_is_name) (by decide +kernel)) (fun _ _ _ _ _ => (pg_name (i := 1) sc_is_name.nd rfl (.inl rfl))) (fun _ _ _ _ _ => pts_nil) (fun _ _ _ _ _ => (pe_cmpR op_in_sign (pv 1) (pe_glob (v := .str lettersZ) (by rfl) g_LETTERS ⟨_, rfl⟩) (by rfl)))) pa_nil)))))), ?_⟩
    rcases hn with hN | rfl
    · rw [nz_nm hN] at q
      obtain ⟨h1, h2, h3⟩ := hN
      refine ⟨_, rfl, _, rfl, small_len (by omega), _, _, rfl, rfl, _, rfl, ?_⟩
      rw [decide_eq_true (show (1 : Int) ≤ ((sOf l).length : Nat) by rw [sOf_len]; omega)]
      refine iteT ⟨_, _, rfl, rfl, _, rfl, ?_⟩
      rw [decide_eq_true (show (((sOf l).length : Nat) : Int) ≤ 8 by rw [sOf_len]; omega)]
      refine iteT ⟨_, rfl, _, rfl, fun D nD => ?_⟩
      refine lc_it walk_str (fun i H' => H' = upd H D (.lst ((List.replicate i true).map V.bl))) rfl (fun _ _ _ _ => True.intro) (fun i x H1 H2 hi hp hy => ?_) (fun H' hp => ?_)
      · subst hp
        obtain ⟨rfl, c, hc, rfl⟩ := hy
        have hcl : c ∈ l := by
          have : (sOf l).cps.toList[i]? = some c := by rw [Array.getElem?_toList]; exact hc
          exact List.mem_of_getElem? this
        have hin : c ∈ lettersZ.cps.toList := by
          rw [letters_codes]
          have := h3 c hcl
          exact List.mem_map.mpr ⟨c - 97, List.mem_range.mpr (by omega), by omega⟩
        have hil : i < l.length := by
          have : (sOf l).cps.size = l.length := sOf_len l
          omega
        refine ⟨rfl, yesT ⟨_, rfl, _, _, rfl, rfl, _, upd_same, ?_, ?_⟩⟩
        · rw [List.length_map, List.length_replicate]; exact small1000 (by omega)
        · rw [upd_twice, decide_eq_true hin, List.replicate_succ', List.map_append]
          rfl
      · subst hp
        refine ⟨_, _, rfl, lstAt upd_same, ?_⟩
        rw [all_true]
        exact q _ (same_upd nD)
    · refine ⟨_, rfl, _, rfl, small_len (by decide), _, _, rfl, rfl, _, rfl, iteF ⟨_, rfl, iteF (q H (Same.refl H))⟩⟩
/-! check_names, with the hook -/
def spCheckH (K : PySem.W.Frag) : Sp := fun vs H Q _ => ∃ (a : Addr) (m : Int) (zs : List (List Nat)), vs = [.ref a, .int m, .bl true] ∧ SqS K H a (zs.map vN) ∧ 1 ≤ zs.length ∧ (zs.length : Int) ≤ m ∧ zs.length ≤ 6 ∧ (∀ z ∈ zs, NmH z) ∧ zs.Nodup ∧ ∀ H', Same H H' → Q .non H'
theorem empty_nm : vN [] = V.str (Str.ofString "") := rfl
theorem ok_check_namesH {f : Addr} {fd : FuncData} {dvs : List V} {kws : List (Str × V)} (F : FunD K "check_names" "check_names" (defArgs s_check_names) (defBody s_check_names) (defScope s_check_names) dvs kws f fd) (m_len : mg "len" = none) (m_enumerate : mg "enumerate" = none)
    (d_check_size : Def P w K mg base "check_size" 1 ["size", "low", "high"] spRange) (d_is_name : Def P w K mg base "is_name" 1 ["word"] spIsNameH) : FnOk P w K mg base CX0 2 f fd ["names", "most", "hook"] (spCheckH K) := by
  refine F.ok (CX := CX0) sc_check_names (fun vs H Q E h => ?_) (fun cdv A outer s H vs Q E hr h => ?_)
  · obtain ⟨a, m, zs, rfl, _⟩ := h
    rfl
  · obtain ⟨a, m, zs, rfl, hS, l1, l2, l6, nm, nd, q⟩ := h
    have hp : ∀ (i : Nat) (x : V) (H2 : Hp), Same H H2 → (zs.map vN)[i]? = some x → ∃ z, zs[i]? = some z ∧ x = vN z ∧ NmH z := fun i x H2 _ hx => by
      obtain ⟨z, ez, rfl⟩ := vN_at hx
      exact ⟨z, ez, rfl, nm z (List.mem_of_getElem? ez)⟩
    rcases hS with hS | hS
    · refine ⟨_, PSs.nox (pss_cons (ps_expr (pe_callD d_check_size (hr.mono (by decide)) (by rfl) (pa_cons (pe_callB call_len_seq (by rfl) m_len (by decide +kernel) (pa_cons (pv 0) pa_nil)) (pa_cons pe_int (pa_cons (pv 1) pa_nil)))))
  (pss_one (ps_for PassesOwn.never rfl (pi_enum (by rfl) m_enumerate (pa_cons (pv 0) pa_nil)) (pg_tup (by rfl) (pgs_cons (pg_name (i := 3) sc_check_names.nd rfl (.inl rfl)) (pgs_cons (pg_name (i := 4) sc_check_names.nd rfl (.inl rfl)) pgs_nil)))
    (pss_cons (ps_if (PW.pt (pw_and (pt_not (pt_val (pe_callD d_is_name (hr.mono (by decide)) (by rfl) (pa_cons (pv 4) pa_nil)))) (pw_and1 (pt_not (PW.pt (pw_and (pt_val (pv 2)) (pw_and1 (pt_cmpR op_eq (pv 4) pe_str (nomark _))))))))) (pss_one ps_never) pss_nil)
  (pss_one (ps_if (pt_cmpR op_in_seq (pv 4) (pe_slice sl_list (pv 0) po_none (po_some (pv 3))) (by rfl)) (pss_one ps_never) pss_nil)))))), ?_⟩
      refine ⟨_, rfl, _, _, rfl, .inl hS, _, rfl, _, _, _, rfl, by rw [List.length_map]; omega, by rw [List.length_map]; omega, ?_⟩
      refine ⟨_, rfl, _, _, rfl, hS, for_it walk_enum (fun i σ H2 => Same H H2 ∧ ∃ y1 y2 : Option V, σ = [some (.ref a), some (.int m), some (.bl true), y1, y2]) ⟨Same.refl H, _, _, rfl⟩ (fun i σ H2 _ hp => hp.1.seq hS) ?_ ?_⟩
      · rintro i x σ H2 H3 hi ⟨sm, y1, y2, rfl⟩ ⟨T, v1, v2, rfl, nT, rfl, e1, e2⟩
        cases e1
        obtain ⟨z, ez, rfl, hz⟩ := hp i _ H2 sm e2
        have sm3 := sm.trans (same_upd (o := .tup [.int (i : Nat), vN z]) nT)
        refine ⟨_, _, rfl, tupAt upd_same, rfl, _, _, rfl, _, _, rfl, rfl, ?_⟩
        refine ⟨_, rfl, z, rfl, hz, fun H4 s4 => ⟨_, rfl, ?_⟩⟩
        have sm4 := sm3.trans s4
        rcases hz with hz | rfl
        · rw [nz_nm hz]
          refine iteF (iteF ?_)
          refine ⟨_, rfl, _, rfl, _, rfl, _, rfl, _, _, rfl, sm4.seq hS, fun p np => ?_⟩
          rw [cut_names]
          have sp := same_upd (o := .lst ((zs.take i).map vN)) np
          refine ⟨p, _, rfl, .inl (lstAt upd_same), rfl, nms_flat _, _, rfl, ?_⟩
          rw [in_nm, decide_eq_false (not_before nd ez)]
          exact iteF ⟨sm4.trans sp, _, _, rfl⟩
        · refine iteT ⟨_, rfl, _, rfl, iteT ⟨_, rfl, rfl, _, rfl, ?_⟩⟩
          rw [decide_eq_true empty_nm]
          refine iteF ?_
          refine ⟨_, rfl, _, rfl, _, rfl, _, rfl, _, _, rfl, sm4.seq hS, fun p np => ?_⟩
          rw [cut_names]
          have sp := same_upd (o := .lst ((zs.take i).map vN)) np
          refine ⟨p, _, rfl, .inl (lstAt upd_same), rfl, nms_flat _, _, rfl, ?_⟩
          rw [in_nm, decide_eq_false (not_before nd ez)]
          exact iteF ⟨sm4.trans sp, _, _, rfl⟩
      · rintro σ H2 ⟨sm, y1, y2, rfl⟩
        exact q _ sm
    · refine ⟨_, PSs.nox (pss_cons (ps_expr (pe_callD d_check_size (hr.mono (by decide)) (by rfl) (pa_cons (pe_callB call_len_seq (by rfl) m_len (by decide +kernel) (pa_cons (pv 0) pa_nil)) (pa_cons pe_int (pa_cons (pv 1) pa_nil)))))
  (pss_one (ps_for PassesOwn.never rfl (pi_enumT (by rfl) m_enumerate (pa_cons (pv 0) pa_nil)) (pg_tup (by rfl) (pgs_cons (pg_name (i := 3) sc_check_names.nd rfl (.inl rfl)) (pgs_cons (pg_name (i := 4) sc_check_names.nd rfl (.inl rfl)) pgs_nil)))
    (pss_cons (ps_if (PW.pt (pw_and (pt_not (pt_val (pe_callD d_is_name (hr.mono (by decide)) (by rfl) (pa_cons (pv 4) pa_nil)))) (pw_and1 (pt_not (PW.pt (pw_and (pt_val (pv 2)) (pw_and1 (pt_cmpR op_eq (pv 4) pe_str (nomark _))))))))) (pss_one ps_never) pss_nil)
  (pss_one (ps_if (pt_cmpR op_in_seq (pv 4) (pe_slice sl_tup (pv 0) po_none (po_some (pv 3))) (by rfl)) (pss_one ps_never) pss_nil)))))), ?_⟩
      refine ⟨_, rfl, _, _, rfl, .inr hS, _, rfl, _, _, _, rfl, by rw [List.length_map]; omega, by rw [List.length_map]; omega, ?_⟩
      refine ⟨_, rfl, _, _, rfl, hS, for_it walk_enumT (fun i σ H2 => Same H H2 ∧ ∃ y1 y2 : Option V, σ = [some (.ref a), some (.int m), some (.bl true), y1, y2]) ⟨Same.refl H, _, _, rfl⟩ (fun i σ H2 _ hp => same_tup (hp.1) hS) ?_ ?_⟩
      · rintro i x σ H2 H3 hi ⟨sm, y1, y2, rfl⟩ ⟨T, v1, v2, rfl, nT, rfl, e1, e2⟩
        cases e1
        obtain ⟨z, ez, rfl, hz⟩ := hp i _ H2 sm e2
        have sm3 := sm.trans (same_upd (o := .tup [.int (i : Nat), vN z]) nT)
        refine ⟨_, _, rfl, tupAt upd_same, rfl, _, _, rfl, _, _, rfl, rfl, ?_⟩
        refine ⟨_, rfl, z, rfl, hz, fun H4 s4 => ⟨_, rfl, ?_⟩⟩
        have sm4 := sm3.trans s4
        rcases hz with hz | rfl
        · rw [nz_nm hz]
          refine iteF (iteF ?_)
          refine ⟨_, rfl, _, rfl, _, rfl, _, rfl, _, _, rfl, same_tup (sm4) hS, (by rintro ⟨_, hw⟩; rw [HT.sIx_nat] at hw; have hi' : i < (zs.map vN).length := hi; omega), fun p np => ?_⟩
          rw [cut_names]
          have sp := same_upd (o := .tup ((zs.take i).map vN)) np
          refine ⟨p, _, rfl, .inr (tupAt upd_same), rfl, nms_flat _, _, rfl, ?_⟩
          rw [in_nm, decide_eq_false (not_before nd ez)]
          exact iteF ⟨sm4.trans sp, _, _, rfl⟩
        · refine iteT ⟨_, rfl, _, rfl, iteT ⟨_, rfl, rfl, _, rfl, ?_⟩⟩
          rw [decide_eq_true empty_nm]
          refine iteF ?_
          refine ⟨_, rfl, _, rfl, _, rfl, _, rfl, _, _, rfl, same_tup (sm4) hS, (by rintro ⟨_, hw⟩; rw [HT.sIx_nat] at hw; have hi' : i < (zs.map vN).length := hi; omega), fun p np => ?_⟩
          rw [cut_names]
          have sp := same_upd (o := .tup ((zs.take i).map vN)) np
          refine ⟨p, _, rfl, .inr (tupAt upd_same), rfl, nms_flat _, _, rfl, ?_⟩
          rw [in_nm, decide_eq_false (not_before nd ez)]
          exact iteF ⟨sm4.trans sp, _, _, rfl⟩
      · rintro σ H2 ⟨sm, y1, y2, rfl⟩
        exact q _ sm
/-! check_known -/
def spKnown (K : PySem.W.Frag) : Sp := fun vs H Q _ => ∃ (a b : Addr) (zs ks : List (List Nat)), vs = [.ref a, .ref b] ∧ SqS K H a (zs.map vN) ∧ SqS K H b (ks.map vN) ∧ (∀ z ∈ zs, z ∈ ks) ∧ Q .non H
theorem ok_check_known {f : Addr} {fd : FuncData} (F : Fun K "check_known" "check_known" s_check_known f fd) : FnOk P w K mg base CX0 1 f fd ["names", "known"] (spKnown K) := by
  refine F.ok sc_check_known (fun vs H Q E h => ?_) (fun cdv A outer s H vs Q E hr h => ?_)
  · obtain ⟨a, b, zs, ks, rfl, _⟩ := h
    rfl
  · obtain ⟨a, b, zs, ks, rfl, hA, hB, sub, q⟩ := h
    refine ⟨_, (pss_one (ps_for PassesOwn.never rfl (pi_or (pi_list (pv 0)) (pi_tup (pv 0))) (pg_name (i := 2) sc_check_known.nd rfl (.inl rfl))
    (pss_one (ps_if (pt_cmpR op_notIn_seq (pv 2) (pv 1) (by rfl)) (pss_one ps_never) pss_nil)))), ?_⟩
    have one : ∀ (i : Nat) (x : V) (σ : L2.St) (H2 : Hp), (zs.map vN)[i]? = some x → ∃ z, z ∈ ks ∧ x = vN z := fun i x σ H2 hx => by
      obtain ⟨z, ez, rfl⟩ := vN_at hx
      exact ⟨z, sub z (List.mem_of_getElem? ez), rfl⟩
    rcases hA with hA | hA
    · refine .inl ⟨_, rfl, a, rfl, ⟨_, hA⟩, for_list (K := K) (a := a) (xs := zs.map vN) (fun i σ H2 => H2 = H ∧ ∃ y : Option V, σ = [some (.ref a), some (.ref b), y]) ⟨rfl, _, rfl⟩ (fun i σ H2 _ hp => by rw [hp.1]; exact hA) ?_ ?_⟩
      · rintro i x σ H2 hx ⟨rfl, y, rfl⟩
        obtain ⟨z, hz, rfl⟩ := one i x [] H2 hx
        refine ⟨_, rfl, _, rfl, b, _, rfl, hB, rfl, nms_flat _, _, rfl, ?_⟩
        rw [notin_nm, decide_eq_true hz]
        exact iteF ⟨rfl, _, rfl⟩
      · rintro σ H2 ⟨rfl, y, rfl⟩
        exact q
    · refine .inr ⟨_, rfl, a, rfl, ⟨_, hA⟩, for_tup (K := K) (a := a) (xs := zs.map vN) (fun i σ H2 => H2 = H ∧ ∃ y : Option V, σ = [some (.ref a), some (.ref b), y]) ⟨rfl, _, rfl⟩ (fun i σ H2 _ hp => by rw [hp.1]; exact hA) ?_ ?_⟩
      · rintro i x σ H2 hx ⟨rfl, y, rfl⟩
        obtain ⟨z, hz, rfl⟩ := one i x [] H2 hx
        refine ⟨_, rfl, _, rfl, b, _, rfl, hB, rfl, nms_flat _, _, rfl, ?_⟩
        rw [notin_nm, decide_eq_true hz]
        exact iteF ⟨rfl, _, rfl⟩
      · rintro σ H2 ⟨rfl, y, rfl⟩
        exact q
end
abbrev Nam := List Nat
abbrev Tie := Nam × Nam × Int
/-! ties -/
def TieAt (H : Hp) (e : Addr) (t : Tie) : Prop := H e = some (.tup [vN t.1, vN t.2.1, .int t.2.2])
def TiesAt (H : Hp) (es : List Addr) (ts : List Tie) : Prop := es.length = ts.length ∧ ∀ (i : Nat) (e : Addr), es[i]? = some e → ∃ t, ts[i]? = some t ∧ TieAt H e t
theorem TiesAt.same {H H' : Hp} {es : List Addr} {ts : List Tie} (h : TiesAt H es ts) (s : Same H H') : TiesAt H' es ts := ⟨h.1, fun i e he => by
  obtain ⟨t, a, b⟩ := h.2 i e he
  exact ⟨t, a, s _ _ b⟩⟩
theorem ties_at {H : Hp} {es : List Addr} {ts : List Tie} (h : TiesAt H es ts) {i : Nat} {x : V} (hx : (es.map V.ref)[i]? = some x) : ∃ e t, x = .ref e ∧ es[i]? = some e ∧ ts[i]? = some t ∧ TieAt H e t := by
  rw [List.getElem?_map] at hx
  cases e : es[i]? with
  | none => rw [e] at hx; cases hx
  | some a =>
    rw [e] at hx
    obtain ⟨t, h1, h2⟩ := h.2 i a e
    exact ⟨a, t, (Option.some.inj hx).symm, rfl, h1, h2⟩
theorem TiesAt.snoc {H H' : Hp} {es : List Addr} {ts : List Tie} {e : Addr} {t : Tie} (h : TiesAt H es ts) (s : Same H H') (k : TieAt H' e t) : TiesAt H' (es ++ [e]) (ts ++ [t]) := by
  refine ⟨by rw [List.length_append, List.length_append, h.1]; rfl, fun i x hx => ?_⟩
  by_cases hi : i < es.length
  · rw [List.getElem?_append_left hi] at hx
    obtain ⟨t', h1, h2⟩ := h.2 i x hx
    exact ⟨t', by rw [List.getElem?_append_left (by rw [← h.1]; exact hi)]; exact h1, s _ _ h2⟩
  · rw [List.getElem?_append_right (by omega)] at hx
    have hi2 : i - es.length = 0 := by
      have := (List.getElem?_eq_some_iff.mp hx).1
      simp at this
      omega
    rw [hi2] at hx
    cases Option.some.inj hx
    exact ⟨t, by rw [List.getElem?_append_right (by rw [← h.1]; omega), ← h.1, hi2]; rfl, k⟩
def plusO : Option Int → Int → Option Int
  | none, _ => none
  | some a, c => some (a + c)
def minO : Option Int → Option Int → Option Int
  | none, b => b
  | some a, none => some a
  | some a, some b => some (if b < a then b else a)
theorem mem_at {α : Type} {xs : List α} {i : Nat} {x : α} (h : xs[i]? = some x) : x ∈ xs := List.mem_of_getElem? h
end TK

namespace TK
open PySem PySem.Spec PyProof.Rows L2
structure DefD (P : Program) (w : World) (K : PySem.W.Frag) (mg : Str → Option Value) (base : Heap) (x : Str) (k : Nat) (ps : List Str) (sp : Sp) (dvs : List V) : Prop where
  ex : ∃ (f : Addr) (fd : FuncData) (ds : List Value), FnOk P w K mg base CX0 k f fd ps sp ∧ mg x = some (.ref f) ∧ PySem.W.keepIn K (.ref f) = true ∧ Binds K fd ps ds ∧ Vals dvs ds
section
variable {X : Cx} {x : Str} {k : Nat} {ps : List Str} {sp : Sp} {dvs : List V} {e : Expr} {es : List Expr} {t : TA} {p pos : Pos}
theorem pe_callDD (D : DefD X.prog X.w X.K X.mg X.base x k ps sp dvs) (hr : Room k X.A) (hg : Gl X x) (ha : PA X (e :: es) t) (hdb : (x == ("__debug__" : Str)) = false := by decide)
    (he : starEach (e :: es) X.env = (false, eval e X.env) :: starEach es X.env := by rfl) (hpl : (backTo pos (starEach es X.env)).any (·.1) = false := by rfl) :
    PE X (.Call (.Name x p) (e :: es) [] pos) (tCall sp dvs E0 t) := by
  obtain ⟨f, fd, ds, F, g, kp, b, r⟩ := D.ex
  exact pe_call F hr hg g kp b r pass0 ha hdb he hpl
end
/-- right entries -/
structure EOk (zs : List Nam) (ts : List Tie) : Prop where
  a : ∀ t ∈ ts, t.1 ∈ zs
  b : ∀ t ∈ ts, t.2.1 ∈ zs
  h0 : ∀ t ∈ ts, 0 ≤ t.2.2
/-! the least toll of an entry -/
def isE (x y : Nam) (t : Tie) : Bool := decide (t.1 = x ∧ t.2.1 = y)
def leastE (ts : List Tie) (x y : Nam) : Option Int := ts.foldl (fun o t => if isE x y t then minO o (some t.2.2) else o) none
theorem leastE_snoc {ts : List Tie} {i : Nat} {t : Tie} (h : ts[i]? = some t) (x y : Nam) : leastE (ts.take (i + 1)) x y = if isE x y t then minO (leastE (ts.take i) x y) (some t.2.2) else leastE (ts.take i) x y := by
  unfold leastE
  rw [List.take_add_one, h, List.foldl_append]
  rfl
def keyE (x y : Nam) : List Key := [Sum.inr (sOf x), Sum.inr (sOf y)]
theorem keyE_inj {x y x' y' : Nam} (h : keyE x y = keyE x' y') : x = x' ∧ y = y' := by
  unfold keyE at h
  injection h with h1 h2
  injection h2 with h2 _
  exact ⟨sOf_inj (Sum.inr.inj h1), sOf_inj (Sum.inr.inj h2)⟩
def capI : Option Int → V
  | none => .non
  | some x => .int x
/-- what the dict of the prices holds -/
structure KvE (kvs : List (List Key × V)) (ts : List Tie) : Prop where
  at_ : ∀ x y : Nam, valV kvs (keyE x y) = (leastE ts x y).map V.int
  ks : ∀ p ∈ kvs, ∃ x y v, p = (keyE x y, V.int v)
  nd : (kvs.map (·.1)).Nodup
theorem nd_put {kvs : List (List Key × V)} {k : List Key} {v : V} (h : (kvs.map (·.1)).Nodup) : ((putK kvs k v).map (·.1)).Nodup := by
  unfold putK
  split
  · rw [List.map_map]
    have e : ((fun p : List Key × V => p.1) ∘ fun kv : List Key × V => if kv.1 = k then (kv.1, v) else kv) = fun p => p.1 := by
      funext p
      show (if p.1 = k then (p.1, v) else p).1 = p.1
      split <;> rfl
    rw [e]
    exact h
  · rename_i hn
    rw [List.map_append]
    refine List.nodup_append.mpr ⟨h, by simp, fun a ha b hb => ?_⟩
    obtain ⟨p, hp, rfl⟩ := List.mem_map.mp ha
    have hb : b = k := by simpa using hb
    subst hb
    exact fun e => hn (List.any_eq_true.mpr ⟨p, hp, decide_eq_true e⟩)
theorem ks_put {kvs : List (List Key × V)} {x y : Nam} {v : Int} (h : ∀ p ∈ kvs, ∃ x y v, p = (keyE x y, V.int v)) : ∀ p ∈ putK kvs (keyE x y) (.int v), ∃ x y v, p = (keyE x y, V.int v) := by
  intro p hp
  unfold putK at hp
  split at hp
  · obtain ⟨q, hq, rfl⟩ := List.mem_map.mp hp
    obtain ⟨x', y', v', rfl⟩ := h q hq
    dsimp only
    split
    · exact ⟨x', y', v, rfl⟩
    · exact ⟨x', y', v', rfl⟩
  · rcases List.mem_append.mp hp with m | m
    · exact h p m
    · rw [List.mem_singleton.mp m]; exact ⟨x, y, v, rfl⟩
theorem KvE.nil : KvE [] [] := ⟨fun _ _ => rfl, (fun _ h => nomatch h), List.nodup_nil⟩
/-- one entry more -/
theorem KvE.put {kvs : List (List Key × V)} {ts : List Tie} {i : Nat} {t : Tie} (h : KvE kvs (ts.take i)) (e : ts[i]? = some t) (c : minO (leastE (ts.take i) t.1 t.2.1) (some t.2.2) = some t.2.2) : KvE (putK kvs (keyE t.1 t.2.1) (.int t.2.2)) (ts.take (i + 1)) := by
  refine ⟨fun x y => ?_, ks_put h.ks, nd_put h.nd⟩
  rw [valV_put, leastE_snoc e]
  by_cases q : keyE x y = keyE t.1 t.2.1
  · obtain ⟨rfl, rfl⟩ := keyE_inj q
    rw [if_pos q, if_pos (show isE t.1 t.2.1 t = true from decide_eq_true ⟨rfl, rfl⟩), c]
    rfl
  · rw [if_neg q, if_neg (show ¬ isE x y t = true from fun z => by
      obtain ⟨e1, e2⟩ := of_decide_eq_true z
      exact q (by rw [e1, e2]))]
    exact h.at_ x y
theorem KvE.stay {kvs : List (List Key × V)} {ts : List Tie} {i : Nat} {t : Tie} (h : KvE kvs (ts.take i)) (e : ts[i]? = some t) (c : minO (leastE (ts.take i) t.1 t.2.1) (some t.2.2) = leastE (ts.take i) t.1 t.2.1) : KvE kvs (ts.take (i + 1)) := by
  refine ⟨fun x y => ?_, h.ks, h.nd⟩
  rw [h.at_, leastE_snoc e]
  by_cases q : isE x y t = true
  · obtain ⟨e1, e2⟩ := of_decide_eq_true q
    subst e1 e2
    rw [if_pos q, c]
  · rw [if_neg q]
theorem kvE_len {kvs : List (List Key × V)} {ts : List Tie} {i : Nat} (h : kvs.length ≤ i) (k : List Key) (v : V) : (putK kvs k v).length ≤ i + 1 := Nat.le_trans (length_putK _ _ _) (Nat.succ_le_succ h)
section
variable {P : Program} {w : World} {K : PySem.W.Frag} {mg : Str → Option Value} {base : Heap}
/-! _check_entries -/
def spCheckE (K : PySem.W.Frag) : Sp := fun vs H Q _ => ∃ (a b : Addr) (zs : List Nam) (es : List Addr) (ts : List Tie), vs = [.ref a, .ref b] ∧ SqS K H a (zs.map vN) ∧ SqS K H b (es.map V.ref) ∧ TiesAt H es ts ∧ EOk zs ts ∧ ∀ H', Same H H' → Q .non H'
theorem ok_check_entries {f : Addr} {fd : FuncData} (F : Fun K "_check_entries" "_check_entries" s_check_entries f fd) (d_check_known : Def P w K mg base "check_known" 1 ["names", "known"] (spKnown K)) :
    FnOk P w K mg base CX0 2 f fd ["names", "entries"] (spCheckE K) := by
  refine F.ok sc_check_entries (fun vs H Q E h => ?_) (fun cdv A outer s H vs Q E hr h => ?_)
  · obtain ⟨a, b, zs, es, ts, rfl, _⟩ := h
    rfl
  · obtain ⟨a, b, zs, es, ts, rfl, hA, hB, hT, ok, q⟩ := h
    rcases hB with hB | hB
    · refine ⟨_, (pss_one (ps_for PassesOwn.never rfl (pi_list (pv 1)) (pg_tup (by rfl) (pgs_cons (pg_name (i := 2) sc_check_entries.nd rfl (.inl rfl)) (pgs_cons (pg_name (i := 3) sc_check_entries.nd rfl (.inl rfl)) (pgs_cons (pg_name (i := 4) sc_check_entries.nd rfl (.inl rfl)) pgs_nil))))
    (pss_cons (ps_expr (pe_callD d_check_known (hr.mono (by decide)) (by rfl) (pa_cons (pe_lst (pa_cons (pv 2) (pa_cons (pv 3) pa_nil))) (pa_cons (pv 0) pa_nil))))
  (pss_one (ps_if (pt_cmpR op_lt (pv 4) pe_int (nomark _)) (pss_one ps_never) pss_nil))))), ?_⟩
      refine ⟨_, rfl, b, rfl, ⟨_, hB⟩, for_list (K := K) (a := b) (xs := es.map V.ref) (fun i σ H2 => Same H H2 ∧ ∃ y1 y2 y3 : Option V, σ = [some (.ref a), some (.ref b), y1, y2, y3]) ⟨Same.refl H, _, _, _, rfl⟩ (fun i σ H2 _ hp => hp.1.seq hB) ?_ ?_⟩
      · rintro i x σ H2 hx ⟨sm, y1, y2, y3, rfl⟩
        obtain ⟨e, t, rfl, _, et, ht⟩ := ties_at hT hx
        have tm := mem_at et
        refine ⟨_, _, rfl, tupAt (sm _ _ ht), rfl, _, _, rfl, _, _, rfl, _, _, rfl, rfl, ?_⟩
        refine ⟨_, rfl, _, rfl, (show (2 : Nat) ≤ sizeLine by decide), fun p np => ?_⟩
        have sp := same_upd (o := .lst [vN t.1, vN t.2.1]) np
        refine ⟨_, rfl, p, a, [t.1, t.2.1], zs, rfl, .inl (lstAt upd_same), hA.same (sm.trans sp), ?_, ?_⟩
        · intro z hz
          rcases List.mem_cons.mp hz with rfl | hz
          · exact ok.a _ tm
          · rw [List.mem_singleton.mp hz]; exact ok.b _ tm
        refine ⟨_, rfl, _, _, rfl, rfl, _, rfl, ?_⟩
        rw [decide_eq_false (show ¬ t.2.2 < 0 by have := ok.h0 _ tm; omega)]
        exact iteF ⟨sm.trans sp, _, _, _, rfl⟩
      · rintro σ H2 ⟨sm, y1, y2, y3, rfl⟩
        exact q _ sm
    · refine ⟨_, (pss_one (ps_for PassesOwn.never rfl (pi_tup (pv 1)) (pg_tup (by rfl) (pgs_cons (pg_name (i := 2) sc_check_entries.nd rfl (.inl rfl)) (pgs_cons (pg_name (i := 3) sc_check_entries.nd rfl (.inl rfl)) (pgs_cons (pg_name (i := 4) sc_check_entries.nd rfl (.inl rfl)) pgs_nil))))
    (pss_cons (ps_expr (pe_callD d_check_known (hr.mono (by decide)) (by rfl) (pa_cons (pe_lst (pa_cons (pv 2) (pa_cons (pv 3) pa_nil))) (pa_cons (pv 0) pa_nil))))
  (pss_one (ps_if (pt_cmpR op_lt (pv 4) pe_int (nomark _)) (pss_one ps_never) pss_nil))))), ?_⟩
      refine ⟨_, rfl, b, rfl, ⟨_, hB⟩, for_tup (K := K) (a := b) (xs := es.map V.ref) (fun i σ H2 => Same H H2 ∧ ∃ y1 y2 y3 : Option V, σ = [some (.ref a), some (.ref b), y1, y2, y3]) ⟨Same.refl H, _, _, _, rfl⟩ (fun i σ H2 _ hp => same_tup hp.1 hB) ?_ ?_⟩
      · rintro i x σ H2 hx ⟨sm, y1, y2, y3, rfl⟩
        obtain ⟨e, t, rfl, _, et, ht⟩ := ties_at hT hx
        have tm := mem_at et
        refine ⟨_, _, rfl, tupAt (sm _ _ ht), rfl, _, _, rfl, _, _, rfl, _, _, rfl, rfl, ?_⟩
        refine ⟨_, rfl, _, rfl, (show (2 : Nat) ≤ sizeLine by decide), fun p np => ?_⟩
        have sp := same_upd (o := .lst [vN t.1, vN t.2.1]) np
        refine ⟨_, rfl, p, a, [t.1, t.2.1], zs, rfl, .inl (lstAt upd_same), hA.same (sm.trans sp), ?_, ?_⟩
        · intro z hz
          rcases List.mem_cons.mp hz with rfl | hz
          · exact ok.a _ tm
          · rw [List.mem_singleton.mp hz]; exact ok.b _ tm
        refine ⟨_, rfl, _, _, rfl, rfl, _, rfl, ?_⟩
        rw [decide_eq_false (show ¬ t.2.2 < 0 by have := ok.h0 _ tm; omega)]
        exact iteF ⟨sm.trans sp, _, _, _, rfl⟩
      · rintro σ H2 ⟨sm, y1, y2, y3, rfl⟩
        exact q _ sm
/-! _least_tolls -/
def spLeastT (K : PySem.W.Frag) : Sp := fun vs H Q _ => ∃ (b : Addr) (es : List Addr) (ts : List Tie), vs = [.ref b] ∧ SqS K H b (es.map V.ref) ∧ TiesAt H es ts ∧ ts.length ≤ 10000 ∧
  ∀ H' p kvs, H p = none → Same H H' → H' p = some (.dT kvs) → KvE kvs ts → kvs.length ≤ ts.length → Q (.ref p) H'
theorem ok_least_tolls {f : Addr} {fd : FuncData} (F : Fun K "_least_tolls" "_least_tolls" s_least_tolls f fd) : FnOk P w K mg base CX0 1 f fd ["entries"] (spLeastT K) := by
  refine F.ok sc_least_tolls (fun vs H Q E h => ?_) (fun cdv A outer s H vs Q E hr h => ?_)
  · obtain ⟨b, es, ts, rfl, _⟩ := h
    rfl
  · obtain ⟨b, es, ts, rfl, hB, hT, l4, q⟩ := h
    have el : (es.map V.ref).length = ts.length := by rw [List.length_map, hT.1]
    rcases hB with hB | hB
    · refine ⟨_, (pss_cons (ps_set (i := 1) sc_least_tolls.nd rfl (.inl rfl) pe_dnewT)
  (pss_cons (ps_for PassesOwn.never rfl (pi_list (pv 0)) (pg_tup (by rfl) (pgs_cons (pg_name (i := 2) sc_least_tolls.nd rfl (.inl rfl)) (pgs_cons (pg_name (i := 3) sc_least_tolls.nd rfl (.inl rfl)) (pgs_cons (pg_name (i := 4) sc_least_tolls.nd rfl (.inl rfl)) pgs_nil))))
    (pss_one (ps_if (PW.pt (pw_or (pt_cmp (pc_dnotin (hu_of hr) (pe_tup (pa_cons (pv 2) (pa_cons (pv 3) pa_nil))) (pv 1))) (pw_or1 (pt_cmpR op_lt (pv 4) (pe_dget (hu_of hr) (pv 1) (pe_tup (pa_cons (pv 2) (pa_cons (pv 3) pa_nil))) (fun _ _ => rfl)) (nomark _))))) (pss_one (ps_dput (hu_of hr) (pv 1) (pe_tup (pa_cons (pv 2) (pa_cons (pv 3) pa_nil))) (pv 4) rfl)) pss_nil)))
  (pss_one (ps_ret (pv 1))))), fun D nD => ?_⟩
      refine ⟨_, rfl, b, rfl, ⟨_, (same_upd nD).seq hB⟩, for_list (K := K) (a := b) (xs := es.map V.ref) (fun i σ H2 => Same H H2 ∧ ∃ (kvs : List (List Key × V)) (y1 y2 y3 : Option V), H2 D = some (.dT kvs) ∧ KvE kvs (ts.take i) ∧ kvs.length ≤ i ∧ σ = [some (.ref b), some (.ref D), y1, y2, y3]) ⟨same_upd nD, [], _, _, _, upd_same, .nil, Nat.le_refl _, rfl⟩ (fun i σ H2 _ hp => hp.1.seq hB) ?_ ?_⟩
      · rintro i x σ H2 hx ⟨sm, kvs, y1, y2, y3, hD, kv, kl, rfl⟩
        obtain ⟨e, t, rfl, _, et, ht⟩ := ties_at hT hx
        have hi : i < ts.length := (List.getElem?_eq_some_iff.mp et).1
        have hz : kvs.length < sizeLine := Nat.lt_of_le_of_lt (show kvs.length ≤ 10000 by omega) (by decide)
        refine ⟨_, _, rfl, tupAt (sm _ _ ht), rfl, _, _, rfl, _, _, rfl, _, _, rfl, rfl, ?_⟩
        refine ⟨_, rfl, _, rfl, (show (2 : Nat) ≤ sizeLine by decide), fun k1 nk1 => ?_⟩
        have s1 := same_upd (o := .tup [vN t.1, vN t.2.1]) nk1
        have g1 : DGet (upd H2 k1 (.tup [vN t.1, vN t.2.1])) D (.ref k1) ((leastE (ts.take i) t.1 t.2.1).map V.int) := kv.at_ t.1 t.2.1 ▸ DGet.t (k := keyE t.1 t.2.1) (s1 _ _ hD) upd_same
        refine ⟨_, rfl, D, _, rfl, g1, _, rfl, ?_⟩
        have sm1 := sm.trans s1
        have put : ∀ H5 : Hp, Same H H5 → H5 D = some (.dT kvs) → minO (leastE (ts.take i) t.1 t.2.1) (some t.2.2) = some t.2.2 → ∀ k, H5 k = none → Same H (upd (upd H5 k (.tup [vN t.1, vN t.2.1])) D (.dT (putK kvs (keyE t.1 t.2.1) (.int t.2.2)))) ∧ KvE (putK kvs (keyE t.1 t.2.1) (.int t.2.2)) (ts.take (i + 1)) ∧ (putK kvs (keyE t.1 t.2.1) (.int t.2.2)).length ≤ i + 1 :=
          fun H5 s5 hD5 c k nk => ⟨same_at (s5.trans (same_upd nk)) nD, kv.put et c, kvE_len (ts := ts) kl _ _⟩
        cases el2 : leastE (ts.take i) t.1 t.2.1 with
        | none =>
          refine iteT ?_
          refine ⟨_, rfl, _, rfl, _, rfl, _, rfl, (show (2 : Nat) ≤ sizeLine by decide), fun k2 nk2 => ?_⟩
          obtain ⟨h1, h2, h3⟩ := put _ sm1 (s1 _ _ hD) (by rw [el2]; rfl) k2 nk2
          exact ⟨D, _, rfl, DPut.t (k := keyE t.1 t.2.1) ((same_upd nk2) _ _ (s1 _ _ hD)) upd_same hz, h1, _, _, _, _, upd_same, h2, h3, rfl⟩
        | some v =>
          refine iteF ?_
          refine ⟨_, rfl, _, rfl, _, rfl, _, rfl, (show (2 : Nat) ≤ sizeLine by decide), fun k2 nk2 => ?_⟩
          have s2 := same_upd (o := .tup [vN t.1, vN t.2.1]) nk2
          have g2 : DGet (upd (upd H2 k1 (.tup [vN t.1, vN t.2.1])) k2 (.tup [vN t.1, vN t.2.1])) D (.ref k2) (some (V.int v)) := by
            have := DGet.t (k := keyE t.1 t.2.1) (s2 _ _ (s1 _ _ hD)) upd_same
            rw [kv.at_, el2] at this
            exact this
          refine ⟨D, _, rfl, g2, _, _, rfl, rfl, _, rfl, ite2 (fun c => ?_) (fun c => ?_)⟩
          · have c := of_decide_eq_true c
            refine ⟨_, rfl, _, rfl, _, rfl, _, rfl, (show (2 : Nat) ≤ sizeLine by decide), fun k3 nk3 => ?_⟩
            obtain ⟨h1, h2, h3⟩ := put _ (sm1.trans s2) (s2 _ _ (s1 _ _ hD)) (by rw [el2]; show some (if t.2.2 < v then t.2.2 else v) = _; rw [if_pos c]) k3 nk3
            exact ⟨D, _, rfl, DPut.t (k := keyE t.1 t.2.1) ((same_upd nk3) _ _ (s2 _ _ (s1 _ _ hD))) upd_same hz, h1, _, _, _, _, upd_same, h2, h3, rfl⟩
          · have c : ¬ t.2.2 < v := of_decide_eq_false (Bool.eq_false_iff.mpr c)
            exact ⟨sm1.trans s2, kvs, _, _, _, s2 _ _ (s1 _ _ hD), kv.stay et (by rw [el2]; show some (if t.2.2 < v then t.2.2 else v) = _; rw [if_neg c]), Nat.le_succ_of_le kl, rfl⟩
      · rintro σ H2 ⟨sm, kvs, y1, y2, y3, hD, kv, kl, rfl⟩
        rw [el, List.take_length] at kv
        rw [el] at kl
        exact ⟨_, rfl, q _ D kvs nD sm hD kv kl⟩
    · refine ⟨_, (pss_cons (ps_set (i := 1) sc_least_tolls.nd rfl (.inl rfl) pe_dnewT)
  (pss_cons (ps_for PassesOwn.never rfl (pi_tup (pv 0)) (pg_tup (by rfl) (pgs_cons (pg_name (i := 2) sc_least_tolls.nd rfl (.inl rfl)) (pgs_cons (pg_name (i := 3) sc_least_tolls.nd rfl (.inl rfl)) (pgs_cons (pg_name (i := 4) sc_least_tolls.nd rfl (.inl rfl)) pgs_nil))))
    (pss_one (ps_if (PW.pt (pw_or (pt_cmp (pc_dnotin (hu_of hr) (pe_tup (pa_cons (pv 2) (pa_cons (pv 3) pa_nil))) (pv 1))) (pw_or1 (pt_cmpR op_lt (pv 4) (pe_dget (hu_of hr) (pv 1) (pe_tup (pa_cons (pv 2) (pa_cons (pv 3) pa_nil))) (fun _ _ => rfl)) (nomark _))))) (pss_one (ps_dput (hu_of hr) (pv 1) (pe_tup (pa_cons (pv 2) (pa_cons (pv 3) pa_nil))) (pv 4) rfl)) pss_nil)))
  (pss_one (ps_ret (pv 1))))), fun D nD => ?_⟩
      refine ⟨_, rfl, b, rfl, ⟨_, same_tup (same_upd nD) hB⟩, for_tup (K := K) (a := b) (xs := es.map V.ref) (fun i σ H2 => Same H H2 ∧ ∃ (kvs : List (List Key × V)) (y1 y2 y3 : Option V), H2 D = some (.dT kvs) ∧ KvE kvs (ts.take i) ∧ kvs.length ≤ i ∧ σ = [some (.ref b), some (.ref D), y1, y2, y3]) ⟨same_upd nD, [], _, _, _, upd_same, .nil, Nat.le_refl _, rfl⟩ (fun i σ H2 _ hp => same_tup hp.1 hB) ?_ ?_⟩
      · rintro i x σ H2 hx ⟨sm, kvs, y1, y2, y3, hD, kv, kl, rfl⟩
        obtain ⟨e, t, rfl, _, et, ht⟩ := ties_at hT hx
        have hi : i < ts.length := (List.getElem?_eq_some_iff.mp et).1
        have hz : kvs.length < sizeLine := Nat.lt_of_le_of_lt (show kvs.length ≤ 10000 by omega) (by decide)
        refine ⟨_, _, rfl, tupAt (sm _ _ ht), rfl, _, _, rfl, _, _, rfl, _, _, rfl, rfl, ?_⟩
        refine ⟨_, rfl, _, rfl, (show (2 : Nat) ≤ sizeLine by decide), fun k1 nk1 => ?_⟩
        have s1 := same_upd (o := .tup [vN t.1, vN t.2.1]) nk1
        have g1 : DGet (upd H2 k1 (.tup [vN t.1, vN t.2.1])) D (.ref k1) ((leastE (ts.take i) t.1 t.2.1).map V.int) := kv.at_ t.1 t.2.1 ▸ DGet.t (k := keyE t.1 t.2.1) (s1 _ _ hD) upd_same
        refine ⟨_, rfl, D, _, rfl, g1, _, rfl, ?_⟩
        have sm1 := sm.trans s1
        have put : ∀ H5 : Hp, Same H H5 → H5 D = some (.dT kvs) → minO (leastE (ts.take i) t.1 t.2.1) (some t.2.2) = some t.2.2 → ∀ k, H5 k = none → Same H (upd (upd H5 k (.tup [vN t.1, vN t.2.1])) D (.dT (putK kvs (keyE t.1 t.2.1) (.int t.2.2)))) ∧ KvE (putK kvs (keyE t.1 t.2.1) (.int t.2.2)) (ts.take (i + 1)) ∧ (putK kvs (keyE t.1 t.2.1) (.int t.2.2)).length ≤ i + 1 :=
          fun H5 s5 hD5 c k nk => ⟨same_at (s5.trans (same_upd nk)) nD, kv.put et c, kvE_len (ts := ts) kl _ _⟩
        cases el2 : leastE (ts.take i) t.1 t.2.1 with
        | none =>
          refine iteT ?_
          refine ⟨_, rfl, _, rfl, _, rfl, _, rfl, (show (2 : Nat) ≤ sizeLine by decide), fun k2 nk2 => ?_⟩
          obtain ⟨h1, h2, h3⟩ := put _ sm1 (s1 _ _ hD) (by rw [el2]; rfl) k2 nk2
          exact ⟨D, _, rfl, DPut.t (k := keyE t.1 t.2.1) ((same_upd nk2) _ _ (s1 _ _ hD)) upd_same hz, h1, _, _, _, _, upd_same, h2, h3, rfl⟩
        | some v =>
          refine iteF ?_
          refine ⟨_, rfl, _, rfl, _, rfl, _, rfl, (show (2 : Nat) ≤ sizeLine by decide), fun k2 nk2 => ?_⟩
          have s2 := same_upd (o := .tup [vN t.1, vN t.2.1]) nk2
          have g2 : DGet (upd (upd H2 k1 (.tup [vN t.1, vN t.2.1])) k2 (.tup [vN t.1, vN t.2.1])) D (.ref k2) (some (V.int v)) := by
            have := DGet.t (k := keyE t.1 t.2.1) (s2 _ _ (s1 _ _ hD)) upd_same
            rw [kv.at_, el2] at this
            exact this
          refine ⟨D, _, rfl, g2, _, _, rfl, rfl, _, rfl, ite2 (fun c => ?_) (fun c => ?_)⟩
          · have c := of_decide_eq_true c
            refine ⟨_, rfl, _, rfl, _, rfl, _, rfl, (show (2 : Nat) ≤ sizeLine by decide), fun k3 nk3 => ?_⟩
            obtain ⟨h1, h2, h3⟩ := put _ (sm1.trans s2) (s2 _ _ (s1 _ _ hD)) (by rw [el2]; show some (if t.2.2 < v then t.2.2 else v) = _; rw [if_pos c]) k3 nk3
            exact ⟨D, _, rfl, DPut.t (k := keyE t.1 t.2.1) ((same_upd nk3) _ _ (s2 _ _ (s1 _ _ hD))) upd_same hz, h1, _, _, _, _, upd_same, h2, h3, rfl⟩
          · have c : ¬ t.2.2 < v := of_decide_eq_false (Bool.eq_false_iff.mpr c)
            exact ⟨sm1.trans s2, kvs, _, _, _, s2 _ _ (s1 _ _ hD), kv.stay et (by rw [el2]; show some (if t.2.2 < v then t.2.2 else v) = _; rw [if_neg c]), Nat.le_succ_of_le kl, rfl⟩
      · rintro σ H2 ⟨sm, kvs, y1, y2, y3, hD, kv, kl, rfl⟩
        rw [el, List.take_length] at kv
        rw [el] at kl
        exact ⟨_, rfl, q _ D kvs nD sm hD kv kl⟩
end
end TK

namespace TK
open PySem PySem.Spec PyProof.Rows L2
abbrev s_Tolls_init : Stmt := inClass (topS 28) 0
theorem sc_Tolls_init : FnScope ["self", "names", "entries"] ["self", "names", "entries"] (defScope s_Tolls_init) := ⟨rfl, rfl, rfl, by decide +kernel, rfl, by decide +kernel, by decide +kernel⟩
abbrev s_Tolls_getitem : Stmt := inClass (topS 28) 2
theorem sc_Tolls_getitem : FnScope ["self", "at", "giver", "taker"] ["self", "at"] (defScope s_Tolls_getitem) := ⟨rfl, rfl, rfl, by decide +kernel, rfl, by decide +kernel, by decide +kernel⟩
abbrev s_Tolls_entries : Stmt := inClass (topS 28) 10
theorem sc_Tolls_entries : FnScope ["self", "giver", "taker"] ["self"] (defScope s_Tolls_entries) := ⟨rfl, rfl, rfl, by decide +kernel, rfl, by decide +kernel, by decide +kernel⟩
structure NsOk (zs : List Nam) : Prop where
  nm : ∀ z ∈ zs, NmH z
  nd : zs.Nodup
  l1 : 1 ≤ zs.length
  l6 : zs.length ≤ 6
theorem putF_len (f : Str) (v : V) : ∀ fs : List (Str × V), (putF f v fs).length ≤ fs.length + 1
  | [] => Nat.le_refl _
  | (g, x) :: r => by
    show (if g = f then _ else _ : List (Str × V)).length ≤ _
    split
    · exact Nat.le_succ _
    · exact Nat.succ_le_succ (putF_len f v r)
def fldsT (a d : Addr) : List (Str × V) := putF "_prices" (.ref d) (putF "names" (.ref a) [])
theorem fldsT_names (a b : Addr) : (fldsT a b).lookup ("names" : Str) = some (.ref a) := by
  unfold fldsT
  rw [lookup_putF, if_neg (by decide +kernel), lookup_putF, if_pos rfl]
theorem fldsT_prices (a b : Addr) : (fldsT a b).lookup ("_prices" : Str) = some (.ref b) := by
  unfold fldsT
  rw [lookup_putF, if_pos rfl]
structure TxtT (K : PySem.W.Frag) (C : Addr) : Prop where
  cl : Cls K C
  nN : NoAttr K C "names"
  nP : NoAttr K C "_prices"
def TkAt (K : PySem.W.Frag) (C : Addr) (H : Hp) (p : Addr) (zs : List Nam) (ts : List Tie) : Prop := ∃ dx a d kvs, H p = some (.ins C dx (fldsT a d)) ∧ TL H a (zs.map vN) ∧ H d = some (.dT kvs) ∧ KvE kvs ts ∧ kvs.length ≤ ts.length
theorem TkAt.same {K : PySem.W.Frag} {C : Addr} {H H' : Hp} {p : Addr} {zs : List Nam} {ts : List Tie} (h : TkAt K C H p zs ts) (s : Same H H') : TkAt K C H' p zs ts := by
  obtain ⟨dx, a, d, kvs, h1, h2, h3, h4, h5⟩ := h
  exact ⟨dx, a, d, kvs, s _ _ h1, h2.elim (fun h => .inl (s _ _ h)) (fun ⟨o, h⟩ => .inr ⟨o, s _ _ h⟩), s _ _ h3, h4, h5⟩
section
variable {P : Program} {w : World} {K : PySem.W.Frag} {mg : Str → Option Value} {base : Heap}
/-! Tolls[..] -/
def spGetT (K : PySem.W.Frag) (C : Addr) : Sp := fun vs H Q _ => ∃ (p k : Addr) (zs : List Nam) (ts : List Tie) (x y : Nam), vs = [.ref p, .ref k] ∧ TkAt K C H p zs ts ∧ H k = some (.tup [vN x, vN y]) ∧ x ∈ zs ∧ y ∈ zs ∧ ∀ H', Same H H' → Q (capI (leastE ts x y)) H'
theorem ok_Tolls_getitem {f C : Addr} {fd : FuncData} (F : Fun K "__getitem__" "Tolls.__getitem__" s_Tolls_getitem f fd) (T : TxtT K C) (d_check_known : Def P w K mg base "check_known" 1 ["names", "known"] (spKnown K)) :
    FnOk P w K mg base CX0 2 f fd ["self", "at"] (spGetT K C) := by
  refine F.ok sc_Tolls_getitem (fun vs H Q E h => ?_) (fun cdv A outer s H vs Q E hr h => ?_)
  · obtain ⟨p, k, zs, ts, x, y, rfl, _⟩ := h
    rfl
  · obtain ⟨p, k, zs, ts, x, y, rfl, tk, hk, hx, hy, q⟩ := h
    obtain ⟨dx, a, d, kvs, hp, ha, hd, kv, kl⟩ := id tk
    refine ⟨_, (pss_cons (ps_asg (pv 1) (pg_tup (by rfl) (pgs_cons (pg_name (i := 2) sc_Tolls_getitem.nd rfl (.inl rfl)) (pgs_cons (pg_name (i := 3) sc_Tolls_getitem.nd rfl (.inl rfl)) pgs_nil))))
  (pss_cons (ps_expr (pe_callD d_check_known (hr.mono (by decide)) (by rfl) (pa_cons (pe_lst (pa_cons (pv 2) (pa_cons (pv 3) pa_nil))) (pa_cons (pe_fld (pv 0) rfl) pa_nil))))
  (pss_one (ps_ret (pe_dget1 (hu_of hr) (pe_fld (pv 0) rfl) (pe_tup (pa_cons (pv 2) (pa_cons (pv 3) pa_nil))) ⟨rfl, by rfl, by rfl, rfl⟩))))), ?_⟩
    refine ⟨_, rfl, _, _, rfl, tupAt hk, rfl, _, _, rfl, _, _, rfl, rfl, ?_⟩
    refine ⟨_, rfl, _, rfl, (show (2 : Nat) ≤ sizeLine by decide), fun l nl => ?_⟩
    have s1 := same_upd (o := .lst [vN x, vN y]) nl
    refine ⟨_, rfl, p, C, dx, _, _, rfl, s1 _ _ hp, T.cl, T.nN, fldsT_names _ _, l, a, [x, y], zs, rfl, .inl (lstAt upd_same), .inr (same_tup s1 ha.sq), ?_, ?_⟩
    · intro z hz
      rcases List.mem_cons.mp hz with rfl | hz
      · exact hx
      · rw [List.mem_singleton.mp hz]; exact hy
    refine ⟨_, rfl, p, C, dx, _, _, rfl, s1 _ _ hp, T.cl, T.nP, fldsT_prices _ _, d, rfl, .inr ⟨kvs, .inl (s1 _ _ hd)⟩, _, rfl, _, rfl, (show (2 : Nat) ≤ sizeLine by decide), fun k2 nk2 => ?_⟩
    have s2 := same_upd (o := .tup [vN x, vN y]) nk2
    refine ⟨_, DGet.t (k := keyE x y) (s2 _ _ (s1 _ _ hd)) upd_same, ?_⟩
    have := q _ (s1.trans s2)
    rw [kv.at_]
    cases e : leastE ts x y with
    | none => rw [e] at this; exact this
    | some v => rw [e] at this; exact this
/-! Tolls.__init__ -/
def spInitT (K : PySem.W.Frag) (C : Addr) : Sp := fun vs H Q _ => ∃ (p a b dx : Addr) (zs : List Nam) (es : List Addr) (ts : List Tie), vs = [.ref p, .ref a, .ref b] ∧ H p = some (.ins C dx []) ∧ (SqL K H a (zs.map vN) ∨ TL H a (zs.map vN)) ∧ SqS K H b (es.map V.ref) ∧ TiesAt H es ts ∧ NsOk zs ∧ EOk zs ts ∧ ts.length ≤ 10000 ∧
  ∀ H', TkAt K C H' p zs ts → (∀ c o, H c = some o → c ≠ p → H' c = some o) → Q .non H'
end
end TK

namespace TK
open PySem PySem.Spec PyProof.Rows L2
theorem rd_frame {H H' : Hp} {a p : Addr} {o ins : HO} (h : Rd H a o) (hp : H p = some ins) (n1 : o ≠ ins) (n2 : ∀ ob, HO.frz ob o ≠ ins) (f : ∀ c x, H c = some x → c ≠ p → H' c = some x) : Rd H' a o := by
  rcases h with h | ⟨ob, h⟩
  · exact .inl (f _ _ h (ne_of h hp n1))
  · exact .inr ⟨ob, f _ _ h (ne_of h hp (n2 ob))⟩
theorem sqT_frame {K : PySem.W.Frag} {H H' : Hp} {a p C dx : Addr} {fs : List (Str × V)} {xs : List V} (h : SqT K H a xs) (hp : H p = some (.ins C dx fs)) (f : ∀ c x, H c = some x → c ≠ p → H' c = some x) : SqT K H' a xs := by
  rcases h with h | h
  · exact .inl (rd_frame h hp (by intro z; cases z) (by intro _ z; cases z) f)
  · exact .inr h
theorem sqS_frame {K : PySem.W.Frag} {H H' : Hp} {a p C dx : Addr} {fs : List (Str × V)} {xs : List V} (h : SqS K H a xs) (hp : H p = some (.ins C dx fs)) (f : ∀ c x, H c = some x → c ≠ p → H' c = some x) : SqS K H' a xs := by
  rcases h with h | h
  · rcases h with h | h
    · exact .inl (.inl (rd_frame h hp (by intro z; cases z) (by intro _ z; cases z) f))
    · exact .inl (.inr h)
  · exact .inr (sqT_frame h hp f)
theorem TL.same {H H' : Hp} {a : Addr} {xs : List V} (h : TL H a xs) (s : Same H H') : TL H' a xs := h.elim (fun h => .inl (s _ _ h)) (fun ⟨o, h⟩ => .inr ⟨o, s _ _ h⟩)
theorem tl_frame {H H' : Hp} {a p C dx : Addr} {fs : List (Str × V)} {xs : List V} (h : TL H a xs) (hp : H p = some (.ins C dx fs)) (f : ∀ c x, H c = some x → c ≠ p → H' c = some x) : TL H' a xs := rd_frame h hp (by intro z; cases z) (by intro _ z; cases z) f
section
variable {P : Program} {w : World} {K : PySem.W.Frag} {mg : Str → Option Value} {base : Heap}
theorem ok_Tolls {f C : Addr} {fd : FuncData} {dvs : List V} {kws : List (Str × V)} (F : FunD K "__init__" "Tolls.__init__" (defArgs s_Tolls_init) (defBody s_Tolls_init) (defScope s_Tolls_init) dvs kws f fd) (T : TxtT K C) (m_tuple : mg "tuple" = none)
    (d_check_names : DefD P w K mg base "check_names" 2 ["names", "most", "hook"] (spCheckH K) []) (d_check_entries : Def P w K mg base "_check_entries" 2 ["names", "entries"] (spCheckE K)) (d_least_tolls : Def P w K mg base "_least_tolls" 1 ["entries"] (spLeastT K)) :
    FnOk P w K mg base CX0 3 f fd ["self", "names", "entries"] (spInitT K C) := by
  refine F.ok (CX := CX0) sc_Tolls_init (fun vs H Q E h => ?_) (fun cdv A outer s H vs Q E hr h => ?_)
  · obtain ⟨p, a, b, dx, zs, es, ts, rfl, _⟩ := h
    rfl
  · obtain ⟨p, a, b, dx, zs, es, ts, rfl, hp, hA, hB, hT, nok, eok, l4, q⟩ := h
    have l6 := nok.l6
    refine ⟨_, PSs.nox (pss_cons (ps_expr (pe_callDD d_check_names (hr.mono (by decide)) (by rfl) (pa_cons (pv 1) (pa_cons pe_int (pa_cons pe_bl pa_nil)))))
  (pss_cons (ps_expr (pe_callD d_check_entries (hr.mono (by decide)) (by rfl) (pa_cons (pv 1) (pa_cons (pv 2) pa_nil))))
  (pss_cons (ps_fld (pv 0) (pe_callTy call_tuple_of (by rfl) m_tuple (by decide +kernel) (pa_cons (pv 1) pa_nil)) rfl)
  (pss_one (ps_fld (pv 0) (pe_callD d_least_tolls (hr.mono (by decide)) (by rfl) (pa_cons (pv 2) pa_nil)) rfl))))), ?_⟩
    have hS : SqS K H a (zs.map vN) := hA.elim .inl fun h => .inr h.sq
    refine ⟨_, rfl, a, 6, zs, rfl, hS, nok.l1, by omega, l6, nok.nm, nok.nd, fun H1 s1 => ?_⟩
    refine ⟨_, rfl, _, rfl, a, b, zs, es, ts, rfl, hS.same s1, hB.same s1, hT.same s1, eok, fun H2 s2 => ?_⟩
    have s12 := s1.trans s2
    refine ⟨_, rfl, a, zs.map vN, rfl, ?_⟩
    rcases hA with hL | hU
    · refine .inl ⟨s12.seq hL, fun l nl => ?_⟩
      have s3 := s12.trans (same_upd (o := .tup (zs.map vN)) nl)
      have hl3 : TL (upd H2 l (.tup (zs.map vN))) l (zs.map vN) := .inl upd_same
      have hp3 := s3 _ _ hp
      refine ⟨_, rfl, p, C, dx, [], rfl, hp3, T.cl, T.nN, by decide, ?_⟩
      generalize eH3 : (upd H2 l (.tup (zs.map vN)) : Hp) = H3 at s3 hp3 hl3 ⊢
      clear eH3
      have f4 : ∀ (fs : List (Str × V)) c x, H3 c = some x → c ≠ p → (upd H3 p (.ins C dx fs)) c = some x := fun fs c x e n => by rw [upd_ne n]; exact e
      have hB4 := sqS_frame (hB.same s3) hp3 (f4 (putF "names" (.ref l) []))
      have hT4 : TiesAt (upd H3 p (.ins C dx (putF "names" (.ref l) []))) es ts := ⟨hT.1, fun i e he => by
        obtain ⟨t, h1, h2⟩ := hT.2 i e he
        exact ⟨t, h1, f4 _ _ _ (s3 _ _ h2) (ne_of (s3 _ _ h2) hp3 (by intro z; cases z))⟩⟩
      refine ⟨_, rfl, b, es, ts, rfl, hB4, hT4, l4, fun H5 d kvs nd5 s5 ed kv kl => ?_⟩
      have hp5 := s5 _ _ upd_same
      have dp : d ≠ p := (ne_of_none upd_same nd5).symm
      refine ⟨_, rfl, p, C, dx, _, rfl, hp5, T.cl, T.nP, Nat.lt_of_le_of_lt (putF_len _ _ _) (by decide), ?_⟩
      have f6 : ∀ c x, H3 c = some x → c ≠ p → (upd H5 p (.ins C dx (putF "_prices" (.ref d) (putF "names" (.ref l) [])))) c = some x := fun c x e n => by rw [upd_ne n]; exact s5 _ _ (f4 _ c x e n)
      exact q _ ⟨dx, l, d, kvs, upd_same, tl_frame hl3 hp3 f6, by rw [upd_ne dp]; exact ed, kv, kl⟩ fun c x e n => f6 c x (s3 _ _ e) n
    · refine .inr ⟨(hU.same s12).sq, ?_⟩
      have s3 := s12
      have hl3 := hU.same s12
      have hp3 := s3 _ _ hp
      refine ⟨_, rfl, p, C, dx, [], rfl, hp3, T.cl, T.nN, by decide, ?_⟩
      generalize eH3 : (H2 : Hp) = H3 at s3 hp3 hl3 ⊢
      clear eH3
      have f4 : ∀ (fs : List (Str × V)) c x, H3 c = some x → c ≠ p → (upd H3 p (.ins C dx fs)) c = some x := fun fs c x e n => by rw [upd_ne n]; exact e
      have hB4 := sqS_frame (hB.same s3) hp3 (f4 (putF "names" (.ref a) []))
      have hT4 : TiesAt (upd H3 p (.ins C dx (putF "names" (.ref a) []))) es ts := ⟨hT.1, fun i e he => by
        obtain ⟨t, h1, h2⟩ := hT.2 i e he
        exact ⟨t, h1, f4 _ _ _ (s3 _ _ h2) (ne_of (s3 _ _ h2) hp3 (by intro z; cases z))⟩⟩
      refine ⟨_, rfl, b, es, ts, rfl, hB4, hT4, l4, fun H5 d kvs nd5 s5 ed kv kl => ?_⟩
      have hp5 := s5 _ _ upd_same
      have dp : d ≠ p := (ne_of_none upd_same nd5).symm
      refine ⟨_, rfl, p, C, dx, _, rfl, hp5, T.cl, T.nP, Nat.lt_of_le_of_lt (putF_len _ _ _) (by decide), ?_⟩
      have f6 : ∀ c x, H3 c = some x → c ≠ p → (upd H5 p (.ins C dx (putF "_prices" (.ref d) (putF "names" (.ref a) [])))) c = some x := fun c x e n => by rw [upd_ne n]; exact s5 _ _ (f4 _ c x e n)
      exact q _ ⟨dx, a, d, kvs, upd_same, tl_frame hl3 hp3 f6, by rw [upd_ne dp]; exact ed, kv, kl⟩ fun c x e n => f6 c x (s3 _ _ e) n
/-! entries -/
def cellE (ts : List Tie) (x y : Nam) : Option Tie := (leastE ts x y).map fun v => (x, y, v)
def listE (zs : List Nam) (ts : List Tie) : List Tie := zs.flatMap fun x => zs.filterMap (cellE ts x)
def spEntries (K : PySem.W.Frag) (C : Addr) : Sp := fun vs H Q _ => ∃ (p : Addr) (zs : List Nam) (ts : List Tie), vs = [.ref p] ∧ TkAt K C H p zs ts ∧ zs.length ≤ 6 ∧
  ∀ H' q es, H q = none → Same H H' → H' q = some (.lst (es.map V.ref)) → TiesAt H' es (listE zs ts) → es.length ≤ 36 → Q (.ref q) H'
theorem fm_snoc {α β : Type} {f : α → Option β} {xs : List α} {i : Nat} {x : α} (h : xs[i]? = some x) : (xs.take (i + 1)).filterMap f = (xs.take i).filterMap f ++ (f x).toList := by
  rw [List.take_add_one, h, List.filterMap_append]
  cases e : f x <;> simp [e]
theorem ok_Tolls_entries {f C : Addr} {fd : FuncData} (F : Fun K "entries" "Tolls.entries" s_Tolls_entries f fd) (T : TxtT K C) : FnOk P w K mg base CX0 1 f fd ["self"] (spEntries K C) := by
  refine F.ok sc_Tolls_entries (fun vs H Q E h => ?_) (fun cdv A outer s H vs Q E hr h => ?_)
  · obtain ⟨p, zs, ts, rfl, _⟩ := h
    rfl
  · obtain ⟨p, zs, ts, rfl, tk, l6, q⟩ := h
    obtain ⟨dx, a, d, kvs, hp, ha, hd, kv, kl⟩ := id tk
    have zl : (zs.map vN).length = zs.length := List.length_map ..
    refine ⟨_, (pss_one (ps_ret (pe_lc2 (own := [("giver", 1), ("taker", 2)]) (vs1 := [2]) (by rfl) sc_Tolls_entries.nd (pi_tup (pe_fld (pv 0) rfl)) (blkOk_by (N := ["self", "giver", "taker"]) (sc := defScope s_Tolls_entries) (by decide +kernel)) (by decide) (fun _ _ _ _ _ => (pg_name (i := 1) sc_Tolls_entries.nd rfl (.inl rfl))) (fun _ _ _ _ _ => pts_nil) (fun _ _ _ _ _ => (pi_tupK (K := K) rfl (pe_fldK (K := K) rfl (pv 0) rfl))) (fun _ _ _ _ _ => (pg_name (i := 2) sc_Tolls_entries.nd rfl (.inl rfl))) (fun _ _ _ _ _ => (pts_one (pt_cmp (pc_din (hu_of hr) (pe_tup (pa_cons (pv 1) (pa_cons (pv 2) pa_nil))) (pe_fldK (K := K) rfl (pv 0) rfl))))) (fun _ _ _ _ _ => (pe_tup (pa_cons (pv 1) (pa_cons (pv 2) (pa_cons (pe_dget (hu_of hr) (pe_fldK (K := K) rfl (pv 0) rfl) (pe_tup (pa_cons (pv 1) (pa_cons (pv 2) pa_nil))) (fun _ _ => rfl)) pa_nil)))))))), ?_⟩
    refine ⟨_, rfl, p, C, dx, _, _, rfl, hp, T.cl, T.nN, fldsT_names _ _, a, rfl, ⟨_, ha.sq⟩, fun D nD => ?_⟩
    refine walk_go (walk_tup (K := K) (a := a) (xs := zs.map vN)) (fun i H' => ∃ es : List Addr, Same H H' ∧ H' D = some (.lst (es.map V.ref)) ∧ TiesAt H' es ((zs.take i).flatMap fun x => zs.filterMap (cellE ts x)) ∧ es.length ≤ 6 * i) ⟨[], same_upd nD, upd_same, ⟨rfl, fun _ _ h => nomatch h⟩, Nat.le_refl _⟩ (fun i H' _ hq => same_tup hq.choose_spec.1 ha.sq) (fun i x H1 H2 hi hq hy => ?_) (fun H' hq => ?_)
    · obtain ⟨es, s1, eD, hT, l1⟩ := hq
      obtain ⟨rfl, hx⟩ := hy
      obtain ⟨z, ez, rfl⟩ := vN_at hx
      have hi6 : i < 6 := by have := (List.getElem?_eq_some_iff.mp ez).1; omega
      refine ⟨rfl, yesT ⟨_, rfl, p, C, dx, _, _, rfl, s1 _ _ hp, T.cl, T.nN, fldsT_names _ _, a, rfl, ⟨_, same_tup s1 ha.sq⟩, ?_⟩⟩
      refine walk_go (walk_tup (K := K) (a := a) (xs := zs.map vN)) (fun j H' => ∃ es : List Addr, Same H H' ∧ H' D = some (.lst (es.map V.ref)) ∧ TiesAt H' es (((zs.take i).flatMap fun x => zs.filterMap (cellE ts x)) ++ (zs.take j).filterMap (cellE ts z)) ∧ es.length ≤ 6 * i + j) ⟨es, s1, eD, by rw [List.take_zero, List.filterMap_nil, List.append_nil]; exact hT, by omega⟩ (fun j H' _ hq => same_tup hq.choose_spec.1 ha.sq) (fun j x H3 H4 hj hq hy => ?_) (fun H' hq => ?_)
      · obtain ⟨es, s3, eD3, hT3, l3⟩ := hq
        obtain ⟨rfl, hx2⟩ := hy
        obtain ⟨y, ey, rfl⟩ := vN_at hx2
        have hj6 : j < 6 := by have := (List.getElem?_eq_some_iff.mp ey).1; omega
        refine ⟨rfl, _, rfl, _, rfl, (show (2 : Nat) ≤ sizeLine by decide), fun k nk => ?_⟩
        have sk := same_upd (o := .tup [vN z, vN y]) nk
        have s4 := s3.trans sk
        refine ⟨_, rfl, p, C, dx, _, _, rfl, s4 _ _ hp, T.cl, T.nP, fldsT_prices _ _, d, _, rfl, kv.at_ z y ▸ DGet.t (k := keyE z y) (s4 _ _ hd) upd_same, _, rfl, ?_⟩
        rw [fm_snoc ey]
        cases e : leastE ts z y with
        | none =>
          refine iteF ⟨es, s4, sk _ _ eD3, ?_, by omega⟩
          rw [show cellE ts z y = none by unfold cellE; rw [e]; rfl]
          show TiesAt _ es (_ ++ (_ ++ []))
          rw [List.append_nil]
          exact hT3.same sk
        | some v =>
          refine iteT ?_
          refine ⟨_, rfl, _, rfl, _, rfl, p, C, dx, _, _, rfl, s4 _ _ hp, T.cl, T.nP, fldsT_prices _ _, _, rfl, _, rfl, (show (2 : Nat) ≤ sizeLine by decide), fun k2 nk2 => ?_⟩
          have sk2 := same_upd (o := .tup [vN z, vN y]) nk2
          have g2 : DGet (upd (upd H4 k (.tup [vN z, vN y])) k2 (.tup [vN z, vN y])) d (.ref k2) (some (V.int v)) := by
            have := DGet.t (k := keyE z y) (sk2 _ _ (s4 _ _ hd)) upd_same
            rw [kv.at_, e] at this
            exact this
          refine ⟨d, _, rfl, g2, (show (3 : Nat) ≤ sizeLine by decide), fun t nt => ?_⟩
          have st := same_upd (o := .tup [vN z, vN y, .int v]) nt
          have s5 := (s4.trans sk2).trans st
          have skt := (sk.trans sk2).trans st
          have eD5 := skt _ _ eD3
          refine ⟨_, eD5, by rw [List.length_map]; exact small1000 (by omega), es ++ [t], same_at s5 nD, by rw [List.map_append]; exact upd_same, ?_, by rw [List.length_append]; simp only [List.length_singleton]; omega⟩
          rw [show cellE ts z y = some (z, y, v) by unfold cellE; rw [e]; rfl, ← List.append_assoc]
          have tD : t ≠ D := (ne_of_none ((sk.trans sk2) _ _ eD3) nt).symm
          refine TiesAt.snoc (H := upd (upd (upd (upd H4 k (.tup [vN z, vN y])) k2 (.tup [vN z, vN y])) t (.tup [vN z, vN y, .int v])) D (.lst (es.map V.ref ++ [.ref t]))) ⟨hT3.1, fun m e he => ?_⟩ (Same.refl _) ?_
          · obtain ⟨t', h1, h2⟩ := hT3.2 m e he
            have h3 := skt _ _ h2
            exact ⟨t', h1, by show _ = _; rw [upd_ne (ne_of h3 eD5 (by intro z; cases z))]; exact h3⟩
          · show _ = _
            rw [upd_ne tD]; exact upd_same
      · obtain ⟨es, s3, eD3, hT3, l3⟩ := hq
        rw [zl, List.take_length] at hT3
        rw [zl] at l3
        refine ⟨es, s3, eD3, ?_, by omega⟩
        rw [List.take_add_one, ez, List.flatMap_append]
        show TiesAt H' es (_ ++ List.flatMap _ [z])
        rw [List.flatMap_singleton]
        exact hT3
    · obtain ⟨es, s1, eD, hT, l1⟩ := hq
      rw [zl, List.take_length] at hT
      exact q _ D es nD s1 eD hT (by rw [zl] at l1; omega)
end
end TK

namespace TK
open PySem PySem.Spec PyProof.Rows L2
theorem nd_len {p zs : List Nam} (h : p.Nodup) (s : ∀ w ∈ p, w ∈ zs) : p.length ≤ zs.length := by
  induction p generalizing zs with
  | nil => exact Nat.zero_le _
  | cons a p ih =>
    have ha := s a List.mem_cons_self
    obtain ⟨n1, n2⟩ := List.nodup_cons.mp h
    have := ih (zs := zs.erase a) n2 fun w hw => (List.mem_erase_of_ne (fun e => n1 (by rw [← e]; exact hw))).mpr (s w (List.mem_cons_of_mem _ hw))
    rw [List.length_erase_of_mem ha] at this
    have hp : 0 < zs.length := List.length_pos_of_mem ha
    simp only [List.length_cons]
    omega
theorem none_of {H H' : Hp} {p : Addr} (s : Same H H') (n : H' p = none) : H p = none := by
  cases e : H p with
  | none => rfl
  | some o => rw [s _ _ e] at n; cases n
theorem letters_nd : ((List.range 26).map fun j => [97 + j]).Nodup := nodup_range fun k j _ _ e => by
  have := List.cons.inj e
  omega
section
variable {P : Program} {w : World} {K : PySem.W.Frag} {mg : Str → Option Value} {base : Heap}
/-! _law_strange -/
def spStrange (K : PySem.W.Frag) : Sp := fun vs H Q _ => ∃ (a : Addr) (zs : List Nam), vs = [.ref a] ∧ SqL K H a (zs.map vN) ∧ zs.length ≤ 25 ∧ ∀ n : Nat, n < 26 → [97 + n] ∉ zs → Q (vN [97 + n]) H
/-! _law_words -/
def spWords : Sp := fun vs H Q _ => ∃ (c n : Int), vs = [.int c, .int n] ∧ 1 ≤ n ∧ n ≤ 6 ∧
  ∀ (H' : Hp) (p : Addr) (zs : List Nam), H p = none → Same H H' → H' p = some (.lst (zs.map vN)) → (zs.length : Int) = n → (∀ z ∈ zs, Nm z) → zs.Nodup → Q (.ref p) H'
end
end TK

namespace TK
open PySem PySem.Spec PyProof.Rows L2
theorem nm_get {zs : List Nam} {i : Int} (h0 : 0 ≤ i) (h : i < zs.length) : ∃ z, zs[i.toNat]? = some z ∧ z ∈ zs ∧ atI (zs.map vN) i = some (vN z) := by
  have hl : i.toNat < zs.length := by omega
  refine ⟨zs[i.toNat], List.getElem?_eq_getElem hl, List.getElem_mem hl, atI_in h0 ?_⟩
  rw [List.getElem?_map, List.getElem?_eq_getElem hl]
  rfl
theorem nd_set : ∀ {zs : List Nam} (i : Nat), zs.Nodup → ([] : Nam) ∉ zs → (zs.set i []).Nodup
  | [], _, h, _ => h
  | a :: zs, 0, h, n => List.nodup_cons.mpr ⟨fun m => n (List.mem_cons_of_mem _ m), (List.nodup_cons.mp h).2⟩
  | a :: zs, i + 1, h, n => by
    obtain ⟨h1, h2⟩ := List.nodup_cons.mp h
    refine List.nodup_cons.mpr ⟨fun m => ?_, nd_set i h2 fun m => n (List.mem_cons_of_mem _ m)⟩
    rcases List.mem_or_eq_of_mem_set m with m | m
    · exact h1 m
    · exact n (by rw [← m]; exact List.mem_cons_self)
/-! entries under way -/
theorem EOk.nil {zs : List Nam} : EOk zs [] := ⟨(fun _ h => nomatch h), (fun _ h => nomatch h), (fun _ h => nomatch h)⟩
theorem EOk.app {zs : List Nam} {ts us : List Tie} (h : EOk zs ts) (k : EOk zs us) : EOk zs (ts ++ us) :=
  ⟨fun t m => (List.mem_append.mp m).elim (h.a t) (k.a t), fun t m => (List.mem_append.mp m).elim (h.b t) (k.b t), fun t m => (List.mem_append.mp m).elim (h.h0 t) (k.h0 t)⟩
structure EW (H0 H : Hp) (D : Addr) (zs : List Nam) (es : List Addr) (ts : List Tie) : Prop where
  s : Same H0 H
  d : H D = some (.lst (es.map V.ref))
  t : TiesAt H es ts
  o : EOk zs ts
theorem EW.add {H0 H : Hp} {D q : Addr} {zs : List Nam} {es : List Addr} {ts : List Tie} {t : Tie} (h : EW H0 H D zs es ts) (n : H0 D = none) (nq : H q = none) (a : t.1 ∈ zs) (b : t.2.1 ∈ zs) (h0 : 0 ≤ t.2.2) :
    EW H0 (upd (upd H q (.tup [vN t.1, vN t.2.1, .int t.2.2])) D (.lst (es.map V.ref ++ [.ref q]))) D zs (es ++ [q]) (ts ++ [t]) := by
  have sq := same_upd (o := .tup [vN t.1, vN t.2.1, .int t.2.2]) nq
  have Dq : D ≠ q := ne_of_none h.d nq
  have fD : ∀ c x, H c = some x → c ≠ D → (upd (upd H q (.tup [vN t.1, vN t.2.1, .int t.2.2])) D (.lst (es.map V.ref ++ [.ref q]))) c = some x := fun c x e n => by rw [upd_ne n]; exact sq _ _ e
  refine ⟨fun c x e => fD c x (h.s _ _ e) (ne_of_none e n), by rw [List.map_append]; exact upd_same, ?_, h.o.app ?_⟩
  · refine TiesAt.snoc (H := upd (upd H q (.tup [vN t.1, vN t.2.1, .int t.2.2])) D (.lst (es.map V.ref ++ [.ref q]))) ⟨h.t.1, fun j e he => ?_⟩ (Same.refl _) ?_
    · obtain ⟨t', h1, h2⟩ := h.t.2 j e he
      exact ⟨t', h1, fD _ _ h2 (ne_of h2 h.d (by intro z; cases z))⟩
    · show _ = _
      rw [upd_ne Dq.symm]; exact upd_same
  · have one : ∀ x ∈ [t], x = t := fun x m => List.mem_singleton.mp m
    exact ⟨fun x m => by rw [one x m]; exact a, fun x m => by rw [one x m]; exact b, fun x m => by rw [one x m]; exact h0⟩
section
variable {P : Program} {w : World} {K : PySem.W.Frag} {mg : Str → Option Value} {base : Heap}
/-! _law_spots -/
def spSpots : Sp := fun vs H Q _ => ∃ (c n k : Int), vs = [.int c, .int n, .int k] ∧ 1 ≤ n ∧ n ≤ 6 ∧ 0 ≤ k ∧
  ∀ (H' : Hp) (p : Addr) (zs : List Nam), Same H H' → H' p = some (.lst (zs.map vN)) → (zs.length : Int) = n → NsOk zs → Q (.ref p) H'
/-! _law_tolls -/
def spTollsL (K : PySem.W.Frag) : Sp := fun vs H Q _ => ∃ (a b : Addr) (ns : List Int) (s n : Int) (zs : List Nam), vs = [.ref a, .int s, .ref b, .int n] ∧ SqL K H a (ns.map V.int) ∧ SqL K H b (zs.map vN) ∧ 0 ≤ s ∧ s + n ≤ ns.length ∧ 0 ≤ n ∧ n ≤ 12 ∧ 1 ≤ zs.length ∧
  ∀ (H' : Hp) (p : Addr) (es : List Addr) (ts : List Tie), H p = none → EW H H' p zs es ts → ts.length ≤ 12 → Q (.ref p) H'
/-! _law_loads -/
def spLoads (K : PySem.W.Frag) : Sp := fun vs H Q _ => ∃ (c : Int) (b : Addr) (zs : List Nam), vs = [.int c, .ref b] ∧ SqL K H b (zs.map vN) ∧ 1 ≤ zs.length ∧ zs.length ≤ 6 ∧
  ∀ (H' : Hp) (p : Addr) (es : List Addr) (ts : List Tie), H p = none → EW H H' p zs es ts → ts.length ≤ 40 → Q (.ref p) H'
end
end TK

namespace TK
open PySem PySem.Spec PyProof.Rows L2
theorem ints_dp {K : PySem.W.Frag} {H : Hp} : ∀ {ns : List Int}, ∃ ds, DpAll K H (ns.map V.int) ds ∧ ds.length = ns.length ∧ PyData.canLayAll0 ds = true ∧ PyData.depthAll ds ≤ 1
  | [] => ⟨[], .nil, rfl, by simp [PyData.canLayAll0], by simp [PyData.depthAll]⟩
  | z :: ns => by
    obtain ⟨ds, h1, h2, h3, h4⟩ := ints_dp (K := K) (H := H) (ns := ns)
    refine ⟨.int z :: ds, .cons (.int _) h1, congrArg Nat.succ h2, ?_, ?_⟩
    · simp only [PyData.canLayAll0, PyData.canLay0, Bool.and_eq_true]
      exact ⟨trivial, h3⟩
    · simp only [PyData.depthAll, PyData.depth]
      omega
theorem nm_shape {ds : List PyData} (h3 : PyData.canLayAll0 ds = true) (h4 : PyData.depthAll ds ≤ 1) : SeqAt.shaped (.list ds) = true := by
  show ((PyData.list ds).canLay0 && decide ((PyData.list ds).depth ≤ 64)) = true
  rw [show (PyData.list ds).canLay0 = true by simp only [PyData.canLay0, h3], show (PyData.list ds).depth = PyData.depthAll ds + 1 by simp only [PyData.depth]]
  exact decide_eq_true (by omega)
theorem nil_eqv {ds : List PyData} : PyData.eqv (.list ds) (.list []) = decide (ds.length = 0) := by
  cases ds with
  | nil => rfl
  | cons d ds => rfl
/-- the tolls of the entries between two names -/
def valsE (ts : List Tie) (x y : Nam) : List Int := (ts.filter (isE x y)).map (·.2.2)
theorem valsE_snoc {ts : List Tie} {i : Nat} {t : Tie} (h : ts[i]? = some t) (x y : Nam) : valsE (ts.take (i + 1)) x y = valsE (ts.take i) x y ++ (if isE x y t then [t.2.2] else []) := by
  unfold valsE
  rw [List.take_add_one, h, List.filter_append, List.map_append]
  congr 1
  by_cases k : isE x y t = true
  · rw [if_pos k]; show List.map _ (List.filter _ [t]) = _; rw [List.filter_cons_of_pos k]; rfl
  · rw [if_neg k]; show List.map _ (List.filter _ [t]) = _; rw [List.filter_cons_of_neg k]; rfl
def accE (x y : Nam) (o : Option Int) (t : Tie) : Option Int := if isE x y t then minO o (some t.2.2) else o
theorem fold_spec (x y : Nam) : ∀ (ts : List Tie) (o : Option Int), (∀ m, ts.foldl (accE x y) o = some m → (m ∈ valsE ts x y ∨ o = some m) ∧ (∀ u ∈ valsE ts x y, m ≤ u) ∧ ∀ u, o = some u → m ≤ u) ∧ (ts.foldl (accE x y) o = none → valsE ts x y = [] ∧ o = none)
  | [], o => ⟨fun m h => ⟨.inr h, (fun _ h => nomatch h), fun u e => by rw [show o = some m from h] at e; cases e; exact Int.le_refl _⟩, fun h => ⟨rfl, h⟩⟩
  | t :: ts, o => by
    obtain ⟨h1, h2⟩ := fold_spec x y ts (accE x y o t)
    by_cases k : isE x y t = true
    · have ev : valsE (t :: ts) x y = t.2.2 :: valsE ts x y := by unfold valsE; rw [List.filter_cons_of_pos k]; rfl
      have ea : accE x y o t = minO o (some t.2.2) := by unfold accE; rw [if_pos k]
      rw [ev]
      rw [ea] at h1 h2
      show (∀ m, ts.foldl (accE x y) (accE x y o t) = some m → _) ∧ (ts.foldl (accE x y) (accE x y o t) = none → _)
      rw [ea]
      constructor
      · intro m hm
        obtain ⟨a, b, c⟩ := h1 m hm
        cases o with
        | none =>
          refine ⟨?_, ?_, fun u e => nomatch e⟩
          · rcases a with a | a
            · exact .inl (List.mem_cons_of_mem _ a)
            · exact .inl (by rw [← Option.some.inj (show some t.2.2 = some m from a)]; exact List.mem_cons_self)
          · intro u hu
            rcases List.mem_cons.mp hu with rfl | hu
            · exact c _ rfl
            · exact b u hu
        | some v =>
          have cv := c (if t.2.2 < v then t.2.2 else v) rfl
          refine ⟨?_, ?_, fun u e => ?_⟩
          · rcases a with a | a
            · exact .inl (List.mem_cons_of_mem _ a)
            · have a := Option.some.inj (show some (if t.2.2 < v then t.2.2 else v) = some m from a)
              by_cases q : t.2.2 < v
              · rw [if_pos q] at a; exact .inl (by rw [← a]; exact List.mem_cons_self)
              · rw [if_neg q] at a; exact .inr (by rw [a])
          · intro u hu
            rcases List.mem_cons.mp hu with rfl | hu
            · split at cv <;> omega
            · exact b u hu
          · cases e
            split at cv <;> omega
      · intro hn
        obtain ⟨_, z⟩ := h2 hn
        cases o <;> cases z
    · have ev : valsE (t :: ts) x y = valsE ts x y := by unfold valsE; rw [List.filter_cons_of_neg k]
      have ea : accE x y o t = o := by unfold accE; rw [if_neg k]
      rw [ev]
      rw [ea] at h1 h2
      show (∀ m, ts.foldl (accE x y) (accE x y o t) = some m → _) ∧ (ts.foldl (accE x y) (accE x y o t) = none → _)
      rw [ea]
      exact ⟨h1, h2⟩
theorem leastE_some {ts : List Tie} {x y : Nam} {m : Int} (h : leastE ts x y = some m) : m ∈ valsE ts x y ∧ ∀ u ∈ valsE ts x y, m ≤ u := by
  obtain ⟨a, b, _⟩ := (fold_spec x y ts none).1 m h
  rcases a with a | a
  · exact ⟨a, b⟩
  · cases a
theorem leastE_none {ts : List Tie} {x y : Nam} (h : leastE ts x y = none) : valsE ts x y = [] := ((fold_spec x y ts none).2 h).1
section
variable {P : Program} {w : World} {K : PySem.W.Frag} {mg : Str → Option Value} {base : Heap}
/-! _law_least_of -/
def spLeastOf (K : PySem.W.Frag) : Sp := fun vs H Q _ => ∃ (a : Addr) (es : List Addr) (ts : List Tie) (x y : Nam), vs = [.ref a, vN x, vN y] ∧ SqL K H a (es.map V.ref) ∧ TiesAt H es ts ∧ ts.length ≤ 10000 ∧ ∀ H', Same H H' → Q (capI (leastE ts x y)) H'
end
end TK

namespace TK
open PySem PySem.Spec PyProof.Rows L2
def rowE (zs : List Nam) (ts : List Tie) (x : Nam) : List V := zs.map fun y => capI (leastE ts x y)
def RowsIn (H : Hp) (rs : List Addr) (zs us : List Nam) (ts : List Tie) : Prop := rs.length = us.length ∧ ∀ (i : Nat) (q : Addr), rs[i]? = some q → ∃ x, us[i]? = some x ∧ H q = some (.lst (rowE zs ts x))
def RowsAt (H : Hp) (r : Addr) (zs : List Nam) (ts : List Tie) : Prop := ∃ rs : List Addr, H r = some (.lst (rs.map V.ref)) ∧ RowsIn H rs zs zs ts
theorem RowsAt.same {H H' : Hp} {r : Addr} {zs : List Nam} {ts : List Tie} (h : RowsAt H r zs ts) (s : Same H H') : RowsAt H' r zs ts := by
  obtain ⟨rs, h1, h2, h3⟩ := h
  exact ⟨rs, s _ _ h1, h2, fun i q e => by
    obtain ⟨x, a, b⟩ := h3 i q e
    exact ⟨x, a, s _ _ b⟩⟩
theorem zs_at0 {zs : List Nam} {j : Nat} {y : Nam} (h : zs[j]? = some y) : atI (zs.map vN) (0 + (j : Int)) = some (vN y) := by
  refine atI_in (by omega) ?_
  rw [show (0 + (j : Int)).toNat = j by omega, List.getElem?_map, h]
  rfl
theorem row_at0 {zs : List Nam} {ts : List Tie} {x y : Nam} {j : Nat} (h : zs[j]? = some y) : atI (rowE zs ts x) (0 + (j : Int)) = some (capI (leastE ts x y)) := by
  refine atI_in (by omega) ?_
  rw [show (0 + (j : Int)).toNat = j by omega]
  unfold rowE
  rw [List.getElem?_map, h]
  rfl
theorem rows_at0 {H : Hp} {rs : List Addr} {zs : List Nam} {ts : List Tie} {j : Nat} {x : Nam} (h : RowsIn H rs zs zs ts) (e : zs[j]? = some x) : ∃ q, atI (rs.map V.ref) (0 + (j : Int)) = some (.ref q) ∧ H q = some (.lst (rowE zs ts x)) := by
  have hj : j < rs.length := by rw [h.1]; exact (List.getElem?_eq_some_iff.mp e).1
  obtain ⟨x', e', hq⟩ := h.2 j rs[j] (List.getElem?_eq_getElem hj)
  have : x' = x := Option.some.inj (e'.symm.trans e)
  subst this
  refine ⟨rs[j], atI_in (by omega) ?_, hq⟩
  rw [show (0 + (j : Int)).toNat = j by omega, List.getElem?_map, List.getElem?_eq_getElem hj]
  rfl
section
variable {P : Program} {w : World} {K : PySem.W.Frag} {mg : Str → Option Value} {base : Heap}
/-! _law_listed -/
def spListed (K : PySem.W.Frag) : Sp := fun vs H Q _ => ∃ (a r : Addr) (zs : List Nam) (ts : List Tie), vs = [.ref a, .ref r] ∧ SqL K H a (zs.map vN) ∧ zs.length ≤ 6 ∧ RowsAt H r zs ts ∧
  ∀ H' q es, H q = none → Same H H' → H' q = some (.lst (es.map V.ref)) → TiesAt H' es (listE zs ts) → es.length ≤ 36 → Q (.ref q) H'
end
end TK

namespace TK
open PySem PySem.Spec PyProof.Rows L2
theorem kit_self {K : PySem.W.Frag} {C : Addr} : PySem.W.kitOne K (.ref C) (.ref C) = some true := by
  unfold PySem.W.kitOne
  rw [if_pos (beq_self_eq_true _)]
abbrev s_Tolls_eq : Stmt := inClass (topS 28) 7
theorem sc_Tolls_eq : FnScope ["self", "other"] ["self", "other"] (defScope s_Tolls_eq) := ⟨rfl, rfl, rfl, by decide +kernel, rfl, by decide +kernel, by decide +kernel⟩
theorem eq_flat {H : Hp} {t u : Addr} {xs : List V} (h1 : TL H t xs) (h2 : TL H u xs) (hl : xs.length ≤ 1000) (fl : ∀ x ∈ xs, flat1 x = true) (n : Nat) : Eq2 H (n + 1) (.ref t) (.ref u) := by
  refine .inr ⟨t, u, _, _, rfl, rfl, .inr ⟨h1, h2⟩, rfl, by omega, fun i x y hx hy => ?_⟩
  rw [hx] at hy
  have e := Option.some.inj hy
  have f := fl x (List.mem_of_getElem? hx)
  cases n with
  | zero => exact ⟨e, f⟩
  | succ n => exact .inl ⟨e, f⟩
theorem fl_nm {zs : List Nam} : ∀ x ∈ zs.map vN, flat1 x = true := fun x hx => by
  obtain ⟨z, _, rfl⟩ := List.mem_map.mp hx
  rfl
theorem fl_capI (x : Option Int) : flat1 (capI x) = true := by cases x <;> rfl
theorem eq_tiesL {H : Hp} {t u : Addr} {es fs : List Addr} {ts : List Tie} (h1 : H t = some (.lst (es.map V.ref))) (h2 : H u = some (.lst (fs.map V.ref))) (a : TiesAt H es ts) (b : TiesAt H fs ts) (hl : es.length ≤ 10000) : Eq2 H 2 (.ref t) (.ref u) := by
  refine .inr ⟨t, u, _, _, rfl, rfl, .inl ⟨h1, h2⟩, by rw [List.length_map, List.length_map, a.1, b.1], by rw [List.length_map]; omega, fun i x y hx hy => ?_⟩
  obtain ⟨e, k, rfl, _, ek, hk⟩ := ties_at a hx
  obtain ⟨e', k', rfl, _, ek', hk'⟩ := ties_at b hy
  have : k = k' := Option.some.inj (ek.symm.trans ek')
  subst this
  refine eq_flat (.inl hk) (.inl hk') (show (3 : Nat) ≤ 1000 by decide) (fun x hx => ?_) 0
  rcases List.mem_cons.mp hx with rfl | hx
  · rfl
  rcases List.mem_cons.mp hx with rfl | hx
  · rfl
  rcases List.mem_cons.mp hx with rfl | hx
  · rfl
  · cases hx
theorem fldsT_none (a b : Addr) : (fldsT a b).lookup ("entries" : Str) = none := by
  unfold fldsT
  rw [lookup_putF, if_neg (by decide +kernel), lookup_putF, if_neg (by decide +kernel)]
  rfl
theorem nmH_ok {l : List Nat} (h : NmH l) : PyData.strOk (sOf l) = true := by
  show (sOf l).cps.all (· < 0x110000) = true
  rw [← Array.all_toList, sOf_codes, List.all_eq_true]
  intro c hc
  rcases h with h | rfl
  · have := h.2.2 c hc
    exact decide_eq_true (by omega)
  · cases hc
theorem namesH_dp {K : PySem.W.Frag} {H : Hp} : ∀ {zs : List (List Nat)}, (∀ z ∈ zs, NmH z) → DpAll K H (zs.map vN) (zs.map fun z => PyData.str (sOf z)) ∧ PyData.canLayAll0 (zs.map fun z => PyData.str (sOf z)) = true ∧ PyData.depthAll (zs.map fun z => PyData.str (sOf z)) ≤ 1
  | [], _ => ⟨.nil, by simp [PyData.canLayAll0], by simp [PyData.depthAll]⟩
  | z :: zs, ok => by
    obtain ⟨h1, h3, h4⟩ := namesH_dp (K := K) (H := H) (zs := zs) fun c hc => ok c (List.mem_cons_of_mem _ hc)
    refine ⟨.cons (.str _) h1, ?_, ?_⟩
    · simp only [List.map_cons, PyData.canLayAll0, PyData.canLay0, Bool.and_eq_true]
      exact ⟨nmH_ok (ok z (List.mem_cons_self ..)), h3⟩
    · simp only [List.map_cons, PyData.depthAll, PyData.depth]
      omega
theorem nmT_lay {ds : List PyData} (h3 : PyData.canLayAll0 ds = true) : (PyData.tuple ds).canLay0 = true := by simp only [PyData.canLay0, h3]
theorem nmT_shape {ds : List PyData} (h3 : PyData.canLayAll0 ds = true) (h4 : PyData.depthAll ds ≤ 1) : SeqAt.shaped (.tuple ds) = true := by
  show ((PyData.tuple ds).canLay0 && decide ((PyData.tuple ds).depth ≤ 64)) = true
  rw [nmT_lay h3, show (PyData.tuple ds).depth = PyData.depthAll ds + 1 by simp only [PyData.depth]]
  exact decide_eq_true (by omega)
/-! the keys of two dicts with the same prices -/
theorem nd_lenK {α : Type} [DecidableEq α] {p zs : List α} (h : p.Nodup) (s : ∀ w ∈ p, w ∈ zs) : p.length ≤ zs.length := by
  induction p generalizing zs with
  | nil => exact Nat.zero_le _
  | cons a p ih =>
    have ha := s a List.mem_cons_self
    obtain ⟨n1, n2⟩ := List.nodup_cons.mp h
    have := ih (zs := zs.erase a) n2 fun w hw => (List.mem_erase_of_ne (fun e => n1 (by rw [← e]; exact hw))).mpr (s w (List.mem_cons_of_mem _ hw))
    rw [List.length_erase_of_mem ha] at this
    have hp : 0 < zs.length := List.length_pos_of_mem ha
    simp only [List.length_cons]
    omega
theorem val_mem {kvs : List (List Key × V)} {k : List Key} {v : V} (h : valV kvs k = some v) : k ∈ kvs.map (·.1) := by
  unfold valV at h
  obtain ⟨p, hp, _⟩ := Option.map_eq_some_iff.mp h
  have := List.find?_some hp
  exact List.mem_map.mpr ⟨p, List.mem_of_find?_eq_some hp, of_decide_eq_true this⟩
theorem kvE_val {ks ls : List (List Key × V)} {ts us : List Tie} (a : KvE ks ts) (b : KvE ls us) (e : ∀ x y, leastE ts x y = leastE us x y) : ∀ p ∈ ks, valV ls p.1 = some p.2 ∧ flatB p.2 = true := by
  intro p hp
  have hv := val_nodup a.nd p hp
  obtain ⟨x, y, v, rfl⟩ := a.ks p hp
  refine ⟨?_, rfl⟩
  rw [b.at_, ← e, ← a.at_]
  exact hv
theorem kvE_len2 {ks ls : List (List Key × V)} {ts us : List Tie} (a : KvE ks ts) (b : KvE ls us) (e : ∀ x y, leastE ts x y = leastE us x y) : ks.length = ls.length := by
  refine Nat.le_antisymm ?_ ?_
  · have := nd_lenK a.nd (zs := ls.map (·.1)) fun w hw => by
      obtain ⟨p, hp, rfl⟩ := List.mem_map.mp hw
      exact val_mem (kvE_val a b e p hp).1
    rwa [List.length_map, List.length_map] at this
  · have := nd_lenK b.nd (zs := ks.map (·.1)) fun w hw => by
      obtain ⟨p, hp, rfl⟩ := List.mem_map.mp hw
      exact val_mem (kvE_val b a (fun x y => (e x y).symm) p hp).1
    rwa [List.length_map, List.length_map] at this
section
variable {P : Program} {w : World} {K : PySem.W.Frag} {mg : Str → Option Value} {base : Heap}
/-! Tolls == Tolls -/
def spEqT (K : PySem.W.Frag) (C : Addr) : Sp := fun vs H Q _ => ∃ (p p' : Addr) (zs : List Nam) (ts us : List Tie), vs = [.ref p, .ref p'] ∧ TkAt K C H p zs ts ∧ TkAt K C H p' zs us ∧ NsOk zs ∧ (∀ x y, leastE ts x y = leastE us x y) ∧ Q (.bl true) H
theorem ok_Tolls_eq {f C : Addr} {fd : FuncData} (F : Fun K "__eq__" "Tolls.__eq__" s_Tolls_eq f fd) (T : TxtT K C) (m_isinstance : mg "isinstance" = none) (mg_Tolls : mg "Tolls" = some (.ref C))
    (ha : PySem.W.findIn K (.ref C) "__class__" = some (some (.builtin "object.__class__"))) (hn : PySem.W.specialIn K (.builtin "object.__class__") "__get__" = some (some (.builtin "getset_descriptor.__get__")))
    (htk : PySem.W.takesIn K (.builtin "object.__class__") = some true) (hm : PySem.W.mroIn K C (.type "object") = some true) : FnOk P w K mg base CX0 1 f fd ["self", "other"] (spEqT K C) := by
  refine F.ok sc_Tolls_eq (fun vs H Q E h => ?_) (fun cdv A outer s H vs Q E hr h => ?_)
  · obtain ⟨p, p', zs, ts, us, rfl, _⟩ := h
    rfl
  · obtain ⟨p, p', zs, ts, us, rfl, ⟨dx, a, d, kvs, hp, hA, hd, kv, kl⟩, ⟨dx', a', d', kvs', hp', hA', hd', kv', kl'⟩, nok, e, q⟩ := h
    refine ⟨_, (pss_one (ps_ret (pe_and (pe_callB call_isi (by rfl) m_isinstance (by decide +kernel) (pa_cons (pv 1) (pa_cons (pe_glob (v := .ref C) (u := .ref C) (by rfl) mg_Tolls rfl) pa_nil))) (pe_and (pe_cmpR (op_eqD hr.units) (pe_fld (pv 0) rfl) (pe_fld (pv 1) rfl) (nomark _)) (pe_one (pe_cmpR (op_eq_dictT (hu_of hr)) (pe_fld (pv 0) rfl) (pe_fld (pv 1) rfl) (nomark _))))))), ?_⟩
    refine ⟨_, rfl, _, _, _, _, true, rfl, .own C, .base (.ins hp' T.cl ha hn htk hm), kit_self, _, rfl, iteT ?_⟩
    obtain ⟨d1, d3, d4⟩ := namesH_dp (K := K) (H := H) nok.nm
    refine ⟨_, rfl, p, C, dx, _, _, rfl, hp, T.cl, T.nN, fldsT_names _ _, _, rfl, p', C, dx', _, _, rfl, hp', T.cl, T.nN, fldsT_names _ _, .tuple _, .tuple _, .tup hA.sq d1, .tup hA'.sq d1, nmT_shape d3 d4, nmT_shape d3 d4, _, rfl, ?_⟩
    rw [SeqAt.eqv_refl _ (nmT_lay d3)]
    refine iteT ⟨_, rfl, p, C, dx, _, _, rfl, hp, T.cl, T.nP, fldsT_prices _ _, _, rfl, p', C, dx', _, _, rfl, hp', T.cl, T.nP, fldsT_prices _ _, ?_⟩
    exact ⟨d, d', kvs, kvs', rfl, rfl, hd, hd', kvE_len2 kv kv' e, kvE_val kv kv' e, q⟩
end
end TK

namespace TK
open PySem PySem.Spec PyProof.Rows L2
section
variable {X : Cx}
/-- x is not True, x is not False: x a bool -/
theorem op_notBl : OpR X (compareOp .IsNot) (fun x y H Q => ∃ a b : Bool, x = .bl a ∧ y = .bl b ∧ Q (.bl (!decide (a = b))) H) := by
  intro pins s σ H x y v u Q I rx ry h
  obtain ⟨a, b, rfl, rfl, q⟩ := h
  cases (show v = Value.bool a from rx)
  cases (show u = Value.bool b from ry)
  by_cases e : a = b
  · subst e
    exact wpAny_isNot_self rfl ⟨.bl false, H, I, rfl, by simpa using q⟩
  · exact wpAny_isNot_other rfl (fun z => e (Value.bool.inj z)) ⟨.bl true, H, I, rfl, by simpa [e] using q⟩
end
/-! the same prices of other entries -/
theorem leastE_ext {ts us : List Tie} {x y : Nam} (h : ∀ u, u ∈ valsE ts x y ↔ u ∈ valsE us x y) : leastE ts x y = leastE us x y := by
  cases e1 : leastE ts x y with
  | none =>
    cases e2 : leastE us x y with
    | none => rfl
    | some m =>
      have := (h m).mpr (leastE_some e2).1
      rw [leastE_none e1] at this
      cases this
  | some m =>
    obtain ⟨a1, a2⟩ := leastE_some e1
    cases e2 : leastE us x y with
    | none =>
      have := (h m).mp a1
      rw [leastE_none e2] at this
      cases this
    | some k =>
      obtain ⟨b1, b2⟩ := leastE_some e2
      have l1 := a2 k ((h k).mpr b1)
      have l2 := b2 m ((h m).mp a1)
      rw [Int.le_antisymm l1 l2]
theorem vals_mem {ts : List Tie} {x y : Nam} {u : Int} : u ∈ valsE ts x y ↔ (x, y, u) ∈ ts := by
  unfold valsE
  constructor
  · intro h
    obtain ⟨t, ht, rfl⟩ := List.mem_map.mp h
    obtain ⟨h1, h2⟩ := List.mem_filter.mp ht
    obtain ⟨rfl, rfl⟩ := of_decide_eq_true h2
    exact h1
  · intro h
    exact List.mem_map.mpr ⟨(x, y, u), List.mem_filter.mpr ⟨h, decide_eq_true ⟨rfl, rfl⟩⟩, rfl⟩
theorem least_rev {ts : List Tie} (x y : Nam) : leastE ts x y = leastE ts.reverse x y := leastE_ext fun u => by rw [vals_mem, vals_mem, List.mem_reverse]
theorem listE_mem {zs : List Nam} {ts : List Tie} {x y : Nam} {u : Int} : (x, y, u) ∈ listE zs ts ↔ x ∈ zs ∧ y ∈ zs ∧ leastE ts x y = some u := by
  unfold listE
  constructor
  · intro h
    obtain ⟨x', hx, h⟩ := List.mem_flatMap.mp h
    obtain ⟨y', hy, h⟩ := List.mem_filterMap.mp h
    unfold cellE at h
    obtain ⟨v, hv, e⟩ := Option.map_eq_some_iff.mp h
    cases e
    exact ⟨hx, hy, hv⟩
  · rintro ⟨hx, hy, e⟩
    exact List.mem_flatMap.mpr ⟨x, hx, List.mem_filterMap.mpr ⟨y, hy, by unfold cellE; rw [e]; rfl⟩⟩
theorem least_in {zs : List Nam} {ts : List Tie} (ok : EOk zs ts) {x y : Nam} {u : Int} (h : leastE ts x y = some u) : x ∈ zs ∧ y ∈ zs ∧ 0 ≤ u := by
  have := vals_mem.mp (leastE_some h).1
  exact ⟨ok.a _ this, ok.b _ this, ok.h0 _ this⟩
theorem least_list {zs : List Nam} {ts : List Tie} (ok : EOk zs ts) (x y : Nam) : leastE ts x y = leastE (listE zs ts) x y := by
  cases e : leastE ts x y with
  | none =>
    cases e2 : leastE (listE zs ts) x y with
    | none => rfl
    | some m =>
      have := (listE_mem.mp (vals_mem.mp (leastE_some e2).1)).2.2
      rw [e] at this
      cases this
  | some m =>
    obtain ⟨hx, hy, _⟩ := least_in ok e
    have hm : m ∈ valsE (listE zs ts) x y := vals_mem.mpr (listE_mem.mpr ⟨hx, hy, e⟩)
    cases e2 : leastE (listE zs ts) x y with
    | none => rw [leastE_none e2] at hm; cases hm
    | some k =>
      have := (listE_mem.mp (vals_mem.mp (leastE_some e2).1)).2.2
      rw [e] at this
      exact this
theorem listE_ok {zs : List Nam} {ts : List Tie} (ok : EOk zs ts) : EOk zs (listE zs ts) :=
  ⟨fun t m => ((listE_mem (x := t.1) (y := t.2.1) (u := t.2.2)).mp m).1, fun t m => ((listE_mem (x := t.1) (y := t.2.1) (u := t.2.2)).mp m).2.1, fun t m => (least_in ok ((listE_mem (x := t.1) (y := t.2.1) (u := t.2.2)).mp m).2.2).2.2⟩
theorem EOk.rev {zs : List Nam} {ts : List Tie} (ok : EOk zs ts) : EOk zs ts.reverse := ⟨fun t m => ok.a t (List.mem_reverse.mp m), fun t m => ok.b t (List.mem_reverse.mp m), fun t m => ok.h0 t (List.mem_reverse.mp m)⟩
theorem TiesAt.rev {H : Hp} {es : List Addr} {ts : List Tie} (h : TiesAt H es ts) : TiesAt H es.reverse ts.reverse := by
  refine ⟨by rw [List.length_reverse, List.length_reverse, h.1], fun i e he => ?_⟩
  have hi := (List.getElem?_eq_some_iff.mp he).1
  rw [List.length_reverse] at hi
  rw [List.getElem?_reverse hi] at he
  obtain ⟨t, h1, h2⟩ := h.2 _ e he
  exact ⟨t, by rw [List.getElem?_reverse (by rw [← h.1]; exact hi), ← h.1]; exact h1, h2⟩
theorem TkAt.wrote {K : PySem.W.Frag} {C : Addr} {H : Hp} {p D : Addr} {zs : List Nam} {ts : List Tie} {xs : List V} {o : HO} (h : TkAt K C H p zs ts) (e : H D = some (.lst xs)) : TkAt K C (upd H D o) p zs ts := by
  obtain ⟨dx, a, d, kvs, h1, h2, h3, h4, h5⟩ := h
  refine ⟨dx, a, d, kvs, ?_, ?_, ?_, h4, h5⟩
  · rw [upd_ne (ne_of h1 e (by intro z; cases z))]; exact h1
  · rcases h2 with h2 | ⟨ob, h2⟩
    · exact .inl (by rw [upd_ne (ne_of h2 e (by intro z; cases z))]; exact h2)
    · exact .inr ⟨ob, by rw [upd_ne (ne_of h2 e (by intro z; cases z))]; exact h2⟩
  · rw [upd_ne (ne_of h3 e (by intro z; cases z))]; exact h3
/-- a table is made -/
theorem make_go {K : PySem.W.Frag} {C : Addr} {H : Hp} {x dx a b : Addr} {zs : List Nam} {es : List Addr} {ts : List Tie} {R : Hp → Prop} {E : XK} (n1 : H x = none) (n2 : H dx = none) (ne : dx ≠ x) (hA : SqL K H a (zs.map vN) ∨ TL H a (zs.map vN)) (hB : SqS K H b (es.map V.ref)) (hT : TiesAt H es ts) (nok : NsOk zs) (eok : EOk zs ts) (l4 : ts.length ≤ 10000)
    (k : ∀ H', TkAt K C H' x zs ts → Same H H' → R H') : spInitT K C [.ref x, .ref a, .ref b] (upd (upd H dx (.own x)) x (.ins C dx [])) (fun v H2 => v = .non ∧ R H2) E := by
  have sdx := same_upd (o := .own x) n2
  have nmm : (upd H dx (.own x)) x = none := by rw [upd_ne ne.symm]; exact n1
  have sm := sdx.trans (same_upd (o := .ins C dx []) nmm)
  exact ⟨x, a, b, dx, zs, es, ts, rfl, upd_same, hA.elim (fun h => .inl (sm.seq h)) (fun h => .inr (h.same sm)), hB.same sm, hT.same sm, nok, eok, l4, fun H' tk fr => ⟨rfl, k H' tk fun c o e => fr c o (sm _ _ e) (ne_of_none e n1)⟩⟩
theorem TiesAt.app {H : Hp} {es fs : List Addr} {ts us : List Tie} (h : TiesAt H es ts) (k : TiesAt H fs us) : TiesAt H (es ++ fs) (ts ++ us) := by
  refine ⟨by rw [List.length_append, List.length_append, h.1, k.1], fun i e he => ?_⟩
  by_cases hi : i < es.length
  · rw [List.getElem?_append_left hi] at he
    obtain ⟨t, h1, h2⟩ := h.2 i e he
    exact ⟨t, by rw [List.getElem?_append_left (by rw [← h.1]; exact hi)]; exact h1, h2⟩
  · rw [List.getElem?_append_right (by omega)] at he
    obtain ⟨t, h1, h2⟩ := k.2 _ e he
    exact ⟨t, by rw [List.getElem?_append_right (by rw [← h.1]; omega), ← h.1]; exact h1, h2⟩
theorem ixN_zero {n : Nat} (h : 0 < n) : ixN n 0 = some 0 := by
  unfold ixN
  rw [if_pos (Int.le_refl 0), if_pos (by omega)]
  rfl
theorem eq_flatL {H : Hp} {t u : Addr} {xs : List V} (h1 : H t = some (.lst xs)) (h2 : H u = some (.lst xs)) (hl : xs.length ≤ 1000) (fl : ∀ x ∈ xs, flat1 x = true) (n : Nat) : Eq2 H (n + 1) (.ref t) (.ref u) := by
  refine .inr ⟨t, u, _, _, rfl, rfl, .inl ⟨h1, h2⟩, rfl, by omega, fun i x y hx hy => ?_⟩
  rw [hx] at hy
  have e := Option.some.inj hy
  have f := fl x (List.mem_of_getElem? hx)
  cases n with
  | zero => exact ⟨e, f⟩
  | succ n => exact .inl ⟨e, f⟩
theorem cut_from_l (xs : List V) (i : Nat) : cutV xs (some ((i : Nat) : Int)) none = xs.drop i := by
  unfold cutV
  rw [HT.sIx_nat]
  have e : HT.sIx xs.length xs.length none = xs.length := rfl
  rw [e]
  by_cases h : i ≤ xs.length
  · rw [Nat.min_eq_left h, List.take_of_length_le (by rw [List.length_drop]; exact Nat.le_refl _)]
  · rw [Nat.min_eq_right (by omega), List.drop_length, List.drop_of_length_le (by omega), List.take_nil]
theorem TiesAt.wrote {H : Hp} {D : Addr} {es : List Addr} {ts : List Tie} {xs : List V} {o : HO} (h : TiesAt H es ts) (e : H D = some (.lst xs)) : TiesAt (upd H D o) es ts := ⟨h.1, fun i a ha => by
  obtain ⟨t, h1, h2⟩ := h.2 i a ha
  exact ⟨t, h1, by show _ = _; rw [upd_ne (ne_of h2 e (by intro z; cases z))]; exact h2⟩⟩
theorem EW.cat {H0 H H1 : Hp} {D q : Addr} {zs : List Nam} {es fs : List Addr} {ts us : List Tie} (h : EW H0 H D zs es ts) (n : H0 D = none) (k : EW H H1 q zs fs us) : EW H0 (upd H1 D (.lst (es.map V.ref ++ fs.map V.ref))) D zs (es ++ fs) (ts ++ us) :=
  ⟨same_at (h.s.trans k.s) n, by rw [List.map_append]; exact upd_same, ((h.t.same k.s).app k.t).wrote (k.s _ _ h.d), h.o.app k.o⟩
theorem last_at {zs : List Nam} (h : 1 ≤ zs.length) : ∃ z, atI (zs.map vN) (-1) = some (vN z) := by
  have hl : zs.length - 1 < zs.length := by omega
  refine ⟨zs[zs.length - 1], ?_⟩
  unfold atI ixN
  rw [if_neg (by decide), if_pos (by rw [List.length_map]; omega)]
  show (zs.map vN)[((-1 : Int) + ((zs.map vN).length : Nat)).toNat]? = _
  rw [List.length_map, show ((-1 : Int) + (zs.length : Nat)).toNat = zs.length - 1 by omega, List.getElem?_map, List.getElem?_eq_getElem hl]
  rfl
theorem first_at {zs : List Nam} (h : 1 ≤ zs.length) : ∃ z, atI (zs.map vN) 0 = some (vN z) := by
  refine ⟨zs[0], atI_in (by decide) ?_⟩
  rw [show (0 : Int).toNat = 0 from rfl, List.getElem?_map, List.getElem?_eq_getElem (show 0 < zs.length by omega)]
  rfl
theorem eq_pass {H : Hp} {L M l1 l2 c D : Addr} {zs : List Nam} {es : List Addr} {ts : List Tie} (hL : H L = some (.lst [V.ref l1, .ref l2])) (hM : H M = some (.lst [V.ref c, .ref D])) (h1 : H l1 = some (.lst (zs.map vN))) (h2 : H c = some (.lst (zs.map vN))) (h3 : H l2 = some (.lst (es.map V.ref))) (h4 : H D = some (.lst (es.map V.ref))) (hT : TiesAt H es ts) (z6 : zs.length ≤ 6) (l4 : es.length ≤ 10000) : Eq2 H 3 (.ref L) (.ref M) := by
  refine .inr ⟨L, M, _, _, rfl, rfl, .inl ⟨hL, hM⟩, rfl, (show (2 : Nat) < 2 ^ 40 by decide), fun i x y hx hy => ?_⟩
  match i, hx, hy with
  | 0, hx, hy =>
    cases Option.some.inj hx; cases Option.some.inj hy
    exact eq_flatL h1 h2 (by rw [List.length_map]; omega) fl_nm 1
  | 1, hx, hy =>
    cases Option.some.inj hx; cases Option.some.inj hy
    exact eq_tiesL h3 h4 hT hT l4
  | i + 2, hx, _ => simp at hx
end TK

namespace TK
open PySem PySem.Spec PyProof.Rows L2
abbrev s_Guests_init : Stmt := inClass (topS 21) 0
theorem sc_Guests_init : FnScope ["self", "offers", "aside", "offer"] ["self", "offers", "aside"] (defScope s_Guests_init) := ⟨rfl, rfl, rfl, by decide +kernel, rfl, by decide +kernel, by decide +kernel⟩
abbrev s_Guests_eq : Stmt := inClass (topS 21) 1
theorem sc_Guests_eq : FnScope ["self", "other"] ["self", "other"] (defScope s_Guests_eq) := ⟨rfl, rfl, rfl, by decide +kernel, rfl, by decide +kernel, by decide +kernel⟩
abbrev s_Guests_mean : Stmt := inClass (topS 21) 2
theorem sc_Guests_mean : FnScope ["self", "lot", "shown", "top", "bottom", "shared", "number", "charge", "weight", "_"] ["self", "lot"] (defScope s_Guests_mean) := ⟨rfl, rfl, rfl, by decide +kernel, rfl, by decide +kernel, by decide +kernel⟩
/-- an offer: a charge and a weight -/
abbrev Off := Int × Int
def tO (o : Off) : HO := .tup [.int o.1, .int o.2]
def OffsAt (H : Hp) (ts : List Addr) (os : List Off) : Prop := ts.length = os.length ∧ ∀ (i : Nat) (t : Addr), ts[i]? = some t → ∃ o, os[i]? = some o ∧ H t = some (tO o)
structure OOk (o : Off) : Prop where
  c0 : 0 ≤ o.1
  c1 : o.1 ≤ 1000000
  w0 : 1 ≤ o.2
  w1 : o.2 ≤ 1000
def OffsOk (os : List Off) : Prop := ∀ o ∈ os, OOk o
theorem OffsAt.same {H H' : Hp} {ts : List Addr} {os : List Off} (h : OffsAt H ts os) (s : Same H H') : OffsAt H' ts os := ⟨h.1, fun i t e => by
  obtain ⟨o, h1, h2⟩ := h.2 i t e
  exact ⟨o, h1, s _ _ h2⟩⟩
theorem OffsAt.snoc {H : Hp} {ts : List Addr} {os : List Off} {t : Addr} {o : Off} (h : OffsAt H ts os) (e : H t = some (tO o)) : OffsAt H (ts ++ [t]) (os ++ [o]) := by
  refine ⟨by rw [List.length_append, List.length_append, h.1]; rfl, fun i t' he => ?_⟩
  by_cases hi : i < ts.length
  · rw [List.getElem?_append_left hi] at he
    obtain ⟨p, h1, h2⟩ := h.2 i t' he
    exact ⟨p, by rw [List.getElem?_append_left (by rw [← h.1]; exact hi)]; exact h1, h2⟩
  · have e0 : i = ts.length := by
      have := (List.getElem?_eq_some_iff.mp he).1
      rw [List.length_append, List.length_singleton] at this
      omega
    subst e0
    rw [List.getElem?_append_right (Nat.le_refl _), Nat.sub_self] at he
    cases Option.some.inj he
    exact ⟨o, by rw [h.1, List.getElem?_append_right (Nat.le_refl _), Nat.sub_self]; rfl, e⟩
theorem OffsAt.rev {H : Hp} {ts : List Addr} {os : List Off} (h : OffsAt H ts os) : OffsAt H ts.reverse os.reverse := by
  refine ⟨by rw [List.length_reverse, List.length_reverse, h.1], fun i e he => ?_⟩
  have hi := (List.getElem?_eq_some_iff.mp he).1
  rw [List.length_reverse] at hi
  rw [List.getElem?_reverse hi] at he
  obtain ⟨t, h1, h2⟩ := h.2 _ e he
  exact ⟨t, by rw [List.getElem?_reverse (by rw [← h.1]; exact hi), ← h.1]; exact h1, h2⟩
theorem OffsAt.get {H : Hp} {ts : List Addr} {os : List Off} (h : OffsAt H ts os) {i : Nat} {x : V} (e : (ts.map V.ref)[i]? = some x) : ∃ t o, x = .ref t ∧ ts[i]? = some t ∧ os[i]? = some o ∧ H t = some (tO o) := by
  rw [List.getElem?_map] at e
  cases e1 : ts[i]? with
  | none => rw [e1] at e; cases e
  | some t =>
    rw [e1] at e
    obtain ⟨o, h1, h2⟩ := h.2 i t e1
    exact ⟨t, o, (Option.some.inj e).symm, rfl, h1, h2⟩
def fldsG (a : Addr) (b : Int) : List (Str × V) := putF "aside" (.int b) (putF "offers" (.ref a) [])
theorem fldsG_offers (a : Addr) (b : Int) : (fldsG a b).lookup ("offers" : Str) = some (.ref a) := by
  unfold fldsG
  rw [lookup_putF, if_neg (by decide +kernel), lookup_putF, if_pos rfl]
theorem fldsG_aside (a : Addr) (b : Int) : (fldsG a b).lookup ("aside" : Str) = some (.int b) := by
  unfold fldsG
  rw [lookup_putF, if_pos rfl]
theorem fldsG_mean (a : Addr) (b : Int) : (fldsG a b).lookup ("mean" : Str) = none := by
  unfold fldsG
  rw [lookup_putF, if_neg (by decide +kernel), lookup_putF, if_neg (by decide +kernel)]
  rfl
structure TxtG (K : PySem.W.Frag) (C : Addr) : Prop where
  cl : Cls K C
  nO : NoAttr K C "offers"
  nA : NoAttr K C "aside"
def GuAt (C : Addr) (H : Hp) (p : Addr) (os : List Off) (b : Int) : Prop := ∃ dx a ts, H p = some (.ins C dx (fldsG a b)) ∧ H a = some (.tup (ts.map V.ref)) ∧ OffsAt H ts os
theorem GuAt.same {C : Addr} {H H' : Hp} {p : Addr} {os : List Off} {b : Int} (h : GuAt C H p os b) (s : Same H H') : GuAt C H' p os b := by
  obtain ⟨dx, a, ts, h1, h2, h3⟩ := h
  exact ⟨dx, a, ts, s _ _ h1, s _ _ h2, h3.same s⟩
/-- a heap where only the list at D was written -/
theorem OffsAt.wrote {H : Hp} {D : Addr} {ts : List Addr} {os : List Off} {xs : List V} {o : HO} (h : OffsAt H ts os) (e : H D = some (.lst xs)) : OffsAt (upd H D o) ts os := ⟨h.1, fun i a ha => by
  obtain ⟨t, h1, h2⟩ := h.2 i a ha
  exact ⟨t, h1, by show _ = _; rw [upd_ne (ne_of h2 e (by intro z; cases z))]; exact h2⟩⟩
theorem GuAt.wrote {C : Addr} {H : Hp} {p D : Addr} {os : List Off} {b : Int} {xs : List V} {o : HO} (h : GuAt C H p os b) (e : H D = some (.lst xs)) : GuAt C (upd H D o) p os b := by
  obtain ⟨dx, a, ts, h1, h2, h3⟩ := h
  refine ⟨dx, a, ts, ?_, ?_, h3.wrote e⟩
  · rw [upd_ne (ne_of h1 e (by intro z; cases z))]; exact h1
  · rw [upd_ne (ne_of h2 e (by intro z; cases z))]; exact h2
section
variable {P : Program} {w : World} {K : PySem.W.Frag} {mg : Str → Option Value} {base : Heap}
/-! _check_offers -/
def spOffers (K : PySem.W.Frag) : Sp := fun vs H Q _ => ∃ (a : Addr) (ts : List Addr) (os : List Off), vs = [.ref a] ∧ SqS K H a (ts.map V.ref) ∧ OffsAt H ts os ∧ OffsOk os ∧ os.length ≤ 8 ∧ Q .non H
theorem ok_check_offersL {f : Addr} {fd : FuncData} (F : Fun K "_check_offers" "_check_offers" s_check_offers f fd) (m_len : mg "len" = none) (d_check_size : Def P w K mg base "check_size" 1 ["size", "low", "high"] spRange) (d_check_range : Def P w K mg base "check_range" 1 ["number", "low", "high"] spRange) : FnOk P w K mg base CX0 2 f fd ["offers"] (spOffers K) := by
  refine F.ok sc_check_offers (fun vs H Q E h => ?_) (fun cdv A outer s H vs Q E hr h => ?_)
  · obtain ⟨a, ts, os, rfl, _⟩ := h
    rfl
  · obtain ⟨a, ts, os, rfl, hS, hT, ok, l8, q⟩ := h
    have tl : (ts.map V.ref).length = os.length := by rw [List.length_map, hT.1]
    have stp : ∀ (i : Nat) (x : V) (H' : Hp), (ts.map V.ref)[i]? = some x → H' = H → ∃ t o, x = .ref t ∧ OOk o ∧ H' t = some (tO o) := by
      rintro i x H' hx rfl
      obtain ⟨t, o, rfl, _, e2, e3⟩ := hT.get hx
      exact ⟨t, o, rfl, ok o (List.mem_of_getElem? e2), e3⟩
    rcases hS with hS | hS
    · refine ⟨_, (pss_cons (ps_expr (pe_callD d_check_size (hr.mono (by decide)) (by rfl) (pa_cons (pe_callB call_len_seq (by rfl) m_len (by decide +kernel) (pa_cons (pv 0) pa_nil)) (pa_cons pe_int (pa_cons pe_int pa_nil)))))
  (pss_one (ps_for PassesOwn.never rfl (pi_list (pv 0)) (pg_tup (by rfl) (pgs_cons (pg_name (i := 1) sc_check_offers.nd rfl (.inl rfl)) (pgs_cons (pg_name (i := 2) sc_check_offers.nd rfl (.inl rfl)) pgs_nil)))
    (pss_cons (ps_expr (pe_callD d_check_range (hr.mono (by decide)) (by rfl) (pa_cons (pv 1) (pa_cons pe_int (pa_cons (pe_op op_pow pe_int pe_int) pa_nil)))))
  (pss_one (ps_expr (pe_callD d_check_range (hr.mono (by decide)) (by rfl) (pa_cons (pv 2) (pa_cons pe_int (pa_cons pe_int pa_nil)))))))))), ?_⟩
      refine ⟨_, rfl, _, _, rfl, .inl hS, _, 0, 8, rfl, Int.natCast_nonneg _, by rw [tl]; omega, ?_⟩
      refine ⟨_, rfl, a, rfl, ⟨_, hS⟩, for_list (K := K) (a := a) (xs := ts.map V.ref) (fun i σ H' => H' = H ∧ ∃ y1 y2, σ = [some (.ref a), y1, y2]) ⟨rfl, _, _, rfl⟩ (fun i σ H' _ hp => by rw [hp.1]; exact hS) ?_ ?_⟩
      · rintro i x σ H' hx ⟨rfl, y1, y2, rfl⟩
        obtain ⟨t, o, rfl, oo, e3⟩ := stp i x _ hx rfl
        refine ⟨_, _, rfl, tupAt e3, rfl, _, _, rfl, _, _, rfl, rfl, ?_⟩
        exact ⟨_, rfl, _, _, rfl, rfl, ⟨by decide, by decide, by decide⟩, _, _, _, rfl, oo.c0, oo.c1, _, rfl, _, _, _, rfl, oo.w0, oo.w1, rfl, _, _, rfl⟩
      · rintro σ H' ⟨rfl, y1, y2, rfl⟩
        exact q
    · refine ⟨_, (pss_cons (ps_expr (pe_callD d_check_size (hr.mono (by decide)) (by rfl) (pa_cons (pe_callB call_len_seq (by rfl) m_len (by decide +kernel) (pa_cons (pv 0) pa_nil)) (pa_cons pe_int (pa_cons pe_int pa_nil)))))
  (pss_one (ps_for PassesOwn.never rfl (pi_tup (pv 0)) (pg_tup (by rfl) (pgs_cons (pg_name (i := 1) sc_check_offers.nd rfl (.inl rfl)) (pgs_cons (pg_name (i := 2) sc_check_offers.nd rfl (.inl rfl)) pgs_nil)))
    (pss_cons (ps_expr (pe_callD d_check_range (hr.mono (by decide)) (by rfl) (pa_cons (pv 1) (pa_cons pe_int (pa_cons (pe_op op_pow pe_int pe_int) pa_nil)))))
  (pss_one (ps_expr (pe_callD d_check_range (hr.mono (by decide)) (by rfl) (pa_cons (pv 2) (pa_cons pe_int (pa_cons pe_int pa_nil)))))))))), ?_⟩
      refine ⟨_, rfl, _, _, rfl, .inr hS, _, 0, 8, rfl, Int.natCast_nonneg _, by rw [tl]; omega, ?_⟩
      refine ⟨_, rfl, a, rfl, ⟨_, hS⟩, for_tup (K := K) (a := a) (xs := ts.map V.ref) (fun i σ H' => H' = H ∧ ∃ y1 y2, σ = [some (.ref a), y1, y2]) ⟨rfl, _, _, rfl⟩ (fun i σ H' _ hp => by rw [hp.1]; exact hS) ?_ ?_⟩
      · rintro i x σ H' hx ⟨rfl, y1, y2, rfl⟩
        obtain ⟨t, o, rfl, oo, e3⟩ := stp i x _ hx rfl
        refine ⟨_, _, rfl, tupAt e3, rfl, _, _, rfl, _, _, rfl, rfl, ?_⟩
        exact ⟨_, rfl, _, _, rfl, rfl, ⟨by decide, by decide, by decide⟩, _, _, _, rfl, oo.c0, oo.c1, _, rfl, _, _, _, rfl, oo.w0, oo.w1, rfl, _, _, rfl⟩
      · rintro σ H' ⟨rfl, y1, y2, rfl⟩
        exact q
end
end TK

namespace TK
open PySem PySem.Spec PyProof.Rows L2
section
variable {P : Program} {w : World} {K : PySem.W.Frag} {mg : Str → Option Value} {base : Heap}
/-! Guests.__init__ -/
def spInitG (K : PySem.W.Frag) (C : Addr) : Sp := fun vs H Q _ => ∃ (p a dx : Addr) (ts : List Addr) (os : List Off) (b : Int), vs = [.ref p, .ref a, .int b] ∧ H p = some (.ins C dx []) ∧ SqS K H a (ts.map V.ref) ∧ OffsAt H ts os ∧ OffsOk os ∧ os.length ≤ 8 ∧ 1 ≤ b ∧ b ≤ 1000 ∧
  ∀ H', GuAt C H' p os b → (∀ c o, H c = some o → c ≠ p → H' c = some o) → Q .non H'
theorem ok_Guests {f C : Addr} {fd : FuncData} (F : Fun K "__init__" "Guests.__init__" s_Guests_init f fd) (T : TxtG K C) (m_tuple : mg "tuple" = none)
    (d_check_offers : Def P w K mg base "_check_offers" 2 ["offers"] (spOffers K)) (d_check_range : Def P w K mg base "check_range" 1 ["number", "low", "high"] spRange) :
    FnOk P w K mg base CX0 3 f fd ["self", "offers", "aside"] (spInitG K C) := by
  refine F.ok sc_Guests_init (fun vs H Q E h => ?_) (fun cdv A outer s H vs Q E hr h => ?_)
  · obtain ⟨p, a, dx, ts, os, b, rfl, _⟩ := h
    rfl
  · obtain ⟨p, a, dx, ts, os, b, rfl, hp, hS, hT, ok, l8, b0, b1, q⟩ := h
    have tl : ts.length ≤ 8 := by rw [hT.1]; exact l8
    have key : ∀ (D l : Addr), H D = none → (upd H D (.lst (ts.map V.ref))) l = none →
        (upd (upd H D (.lst (ts.map V.ref))) l (.tup (ts.map V.ref))) p = some (.ins C dx []) ∧ (upd (upd (upd H D (.lst (ts.map V.ref))) l (.tup (ts.map V.ref))) p (.ins C dx (putF "offers" (.ref l) []))) p = some (.ins C dx (putF "offers" (.ref l) [])) ∧
        Q .non (upd (upd (upd (upd H D (.lst (ts.map V.ref))) l (.tup (ts.map V.ref))) p (.ins C dx (putF "offers" (.ref l) []))) p (.ins C dx (putF "aside" (.int b) (putF "offers" (.ref l) [])))) := by
      intro D l nD nl
      have s1 : Same H (upd H D (.lst (ts.map V.ref))) := same_upd nD
      have s2 := s1.trans (same_upd (o := .tup (ts.map V.ref)) nl)
      have hp2 := s2 _ _ hp
      have lp : l ≠ p := (ne_of_none (s1 _ _ hp) nl).symm
      refine ⟨hp2, upd_same, ?_⟩
      rw [upd_twice]
      have fr : ∀ c x, (upd (upd H D (.lst (ts.map V.ref))) l (.tup (ts.map V.ref))) c = some x → c ≠ p → (upd (upd (upd H D (.lst (ts.map V.ref))) l (.tup (ts.map V.ref))) p (.ins C dx (putF "aside" (.int b) (putF "offers" (.ref l) [])))) c = some x := fun c x e n => by rw [upd_ne n]; exact e
      refine q _ ⟨dx, l, ts, upd_same, fr _ _ upd_same lp, hT.1, fun i t he => ?_⟩ fun c o e n => fr _ _ (s2 _ _ e) n
      obtain ⟨o, h1, h2⟩ := hT.2 i t he
      exact ⟨o, h1, fr _ _ (s2 _ _ h2) (ne_of (s2 _ _ h2) hp2 (by intro z; cases z))⟩
    rcases hS with hL | hU
    · refine ⟨_, (pss_cons (ps_expr (pe_callD d_check_offers (hr.mono (by decide)) (by rfl) (pa_cons (pv 1) pa_nil)))
  (pss_cons (ps_expr (pe_callD d_check_range (hr.mono (by decide)) (by rfl) (pa_cons (pv 2) (pa_cons pe_int (pa_cons pe_int pa_nil)))))
  (pss_cons (ps_fld (pv 0) (pe_callTy call_tuple_of (by rfl) m_tuple (by decide +kernel) (pa_cons (pe_lc (own := [("offer", 3)]) (by rfl) sc_Guests_init.nd (pi_list (pv 1)) (blkOk_by (N := ["self", "offers", "aside", "offer"]) (sc := defScope s_Guests_init) (by decide +kernel)) (fun _ _ _ _ _ => (pg_name (i := 3) sc_Guests_init.nd rfl (.inl rfl))) (fun _ _ _ _ _ => pts_nil) (fun _ _ _ _ _ => (pe_callTy (call_tuple_ofK (K := K) rfl) (by rfl) m_tuple (by decide +kernel) (pa_cons (pv 3) pa_nil)))) pa_nil)) rfl)
  (pss_one (ps_fld (pv 0) (pv 2) rfl))))), ?_⟩
      refine ⟨_, rfl, a, ts, os, rfl, .inl hL, hT, ok, l8, ?_⟩
      refine ⟨_, rfl, b, 1, 1000, rfl, b0, b1, ?_⟩
      refine ⟨_, rfl, a, rfl, ⟨_, hL⟩, fun D nD => ?_⟩
      refine lc_list (K := K) (a := a) (xs := ts.map V.ref) (fun i H' => H' = upd H D (.lst ((ts.map V.ref).take i))) rfl (fun i H' _ hq => by subst hq; exact (same_upd nD).seq hL) (fun i x H' hx hq => ?_) (fun H' hq => ?_)
      · subst hq
        obtain ⟨t, o, rfl, e1, e2, e3⟩ := hT.get hx
        have hi : i < ts.length := (List.getElem?_eq_some_iff.mp e1).1
        refine ⟨rfl, yesT ⟨_, rfl, t, _, rfl, .inr ⟨tupAt ((same_upd nD) _ _ e3), _, upd_same, by rw [List.length_take]; exact small1000 (by omega), ?_⟩⟩⟩
        rw [upd_twice, List.take_add_one, hx]
        rfl
      · subst hq
        rw [List.take_length]
        refine ⟨D, _, rfl, .inl ⟨lstAt upd_same, fun l nl => ?_⟩⟩
        obtain ⟨k1, k2, k3⟩ := key D l nD nl
        exact ⟨_, rfl, p, C, dx, [], rfl, k1, T.cl, T.nO, by decide, _, rfl, _, rfl, p, C, dx, _, rfl, k2, T.cl, T.nA, Nat.lt_of_le_of_lt (putF_len _ _ _) (by decide), k3⟩
    · refine ⟨_, (pss_cons (ps_expr (pe_callD d_check_offers (hr.mono (by decide)) (by rfl) (pa_cons (pv 1) pa_nil)))
  (pss_cons (ps_expr (pe_callD d_check_range (hr.mono (by decide)) (by rfl) (pa_cons (pv 2) (pa_cons pe_int (pa_cons pe_int pa_nil)))))
  (pss_cons (ps_fld (pv 0) (pe_callTy call_tuple_of (by rfl) m_tuple (by decide +kernel) (pa_cons (pe_lc (own := [("offer", 3)]) (by rfl) sc_Guests_init.nd (pi_tup (pv 1)) (blkOk_by (N := ["self", "offers", "aside", "offer"]) (sc := defScope s_Guests_init) (by decide +kernel)) (fun _ _ _ _ _ => (pg_name (i := 3) sc_Guests_init.nd rfl (.inl rfl))) (fun _ _ _ _ _ => pts_nil) (fun _ _ _ _ _ => (pe_callTy (call_tuple_ofK (K := K) rfl) (by rfl) m_tuple (by decide +kernel) (pa_cons (pv 3) pa_nil)))) pa_nil)) rfl)
  (pss_one (ps_fld (pv 0) (pv 2) rfl))))), ?_⟩
      refine ⟨_, rfl, a, ts, os, rfl, .inr hU, hT, ok, l8, ?_⟩
      refine ⟨_, rfl, b, 1, 1000, rfl, b0, b1, ?_⟩
      refine ⟨_, rfl, a, rfl, ⟨_, hU⟩, fun D nD => ?_⟩
      refine lc_tup (K := K) (a := a) (xs := ts.map V.ref) (fun i H' => H' = upd H D (.lst ((ts.map V.ref).take i))) rfl (fun i H' _ hq => by subst hq; exact same_tup (same_upd nD) hU) (fun i x H' hx hq => ?_) (fun H' hq => ?_)
      · subst hq
        obtain ⟨t, o, rfl, e1, e2, e3⟩ := hT.get hx
        have hi : i < ts.length := (List.getElem?_eq_some_iff.mp e1).1
        refine ⟨rfl, yesT ⟨_, rfl, t, _, rfl, .inr ⟨tupAt ((same_upd nD) _ _ e3), _, upd_same, by rw [List.length_take]; exact small1000 (by omega), ?_⟩⟩⟩
        rw [upd_twice, List.take_add_one, hx]
        rfl
      · subst hq
        rw [List.take_length]
        refine ⟨D, _, rfl, .inl ⟨lstAt upd_same, fun l nl => ?_⟩⟩
        obtain ⟨k1, k2, k3⟩ := key D l nD nl
        exact ⟨_, rfl, p, C, dx, [], rfl, k1, T.cl, T.nO, by decide, _, rfl, _, rfl, p, C, dx, _, rfl, k2, T.cl, T.nA, Nat.lt_of_le_of_lt (putF_len _ _ _) (by decide), k3⟩
end
end TK

namespace TK
open PySem PySem.Spec PyProof.Rows L2
/-! offers as data -/
def dO (o : Off) : PyData := .tuple [.int o.1, .int o.2]
theorem offs_dp {K : PySem.W.Frag} {H : Hp} : ∀ {ts : List Addr} {os : List Off}, OffsAt H ts os → DpAll K H (ts.map V.ref) (os.map dO)
  | [], [], _ => .nil
  | [], o :: os, h => by cases h.1
  | t :: ts, [], h => by cases h.1
  | t :: ts, o :: os, h => by
    obtain ⟨o', h1, h2⟩ := h.2 0 t rfl
    cases Option.some.inj h1
    exact .cons (.tup (tupAt h2) (.cons (.int _) (.cons (.int _) .nil))) (offs_dp ⟨Nat.succ.inj h.1, fun i t' a => h.2 (i + 1) t' a⟩)
theorem offs_lay : ∀ os : List Off, PyData.canLayAll0 (os.map dO) = true ∧ PyData.depthAll (os.map dO) ≤ 2
  | [] => ⟨by simp [PyData.canLayAll0], by simp [PyData.depthAll]⟩
  | o :: os => by
    obtain ⟨h1, h2⟩ := offs_lay os
    refine ⟨?_, ?_⟩
    · simp only [List.map_cons, PyData.canLayAll0, Bool.and_eq_true]
      exact ⟨by simp [dO, PyData.canLay0, PyData.canLayAll0], h1⟩
    · simp only [List.map_cons, PyData.depthAll]
      have : (dO o).depth ≤ 2 := by simp [dO, PyData.depth, PyData.depthAll]
      omega
theorem shape_T {os : List Off} : SeqAt.shaped (.tuple (os.map dO)) = true := by
  obtain ⟨h1, h2⟩ := offs_lay os
  show ((PyData.tuple _).canLay0 && decide ((PyData.tuple _).depth ≤ 64)) = true
  rw [show (PyData.tuple (os.map dO)).canLay0 = true by simp only [PyData.canLay0, h1], show (PyData.tuple (os.map dO)).depth = PyData.depthAll (os.map dO) + 1 by simp only [PyData.depth]]
  exact decide_eq_true (by omega)
theorem shape_L {os : List Off} : SeqAt.shaped (.list (os.map dO)) = true := by
  obtain ⟨h1, h2⟩ := offs_lay os
  show ((PyData.list _).canLay0 && decide ((PyData.list _).depth ≤ 64)) = true
  rw [show (PyData.list (os.map dO)).canLay0 = true by simp only [PyData.canLay0, h1], show (PyData.list (os.map dO)).depth = PyData.depthAll (os.map dO) + 1 by simp only [PyData.depth]]
  exact decide_eq_true (by omega)
theorem eqv_dO (o q : Off) : PyData.eqv (dO o) (dO q) = decide (o = q) := by
  obtain ⟨a, b⟩ := o
  obtain ⟨c, d⟩ := q
  simp only [dO, PyData.eqv, PyData.eqvAll, Bool.and_true]
  by_cases h1 : a = c <;> by_cases h2 : b = d <;> simp [h1, h2]
theorem eqv_offs : ∀ os qs : List Off, PyData.eqvAll (os.map dO) (qs.map dO) = decide (os = qs)
  | [], [] => by simp [PyData.eqvAll]
  | [], q :: qs => by simp [PyData.eqvAll]
  | o :: os, [] => by simp [PyData.eqvAll]
  | o :: os, q :: qs => by
    simp only [List.map_cons, PyData.eqvAll]
    rw [eqv_dO, eqv_offs os qs]
    by_cases h1 : o = q <;> by_cases h2 : os = qs <;> simp [h1, h2]
theorem eqv_T (os qs : List Off) : PyData.eqv (.tuple (os.map dO)) (.tuple (qs.map dO)) = decide (os = qs) := by
  simp only [PyData.eqv]
  exact eqv_offs os qs
theorem eqv_L (os qs : List Off) : PyData.eqv (.list (os.map dO)) (.list (qs.map dO)) = decide (os = qs) := by
  simp only [PyData.eqv]
  exact eqv_offs os qs
section
variable {P : Program} {w : World} {K : PySem.W.Frag} {mg : Str → Option Value} {base : Heap}
/-! Guests.__eq__ -/
def spEqG (K : PySem.W.Frag) (C : Addr) : Sp := fun vs H Q _ => ∃ (p : Addr) (y : V) (os : List Off) (b : Int), vs = [.ref p, y] ∧ GuAt C H p os b ∧
  ((∃ (p' : Addr) (qs : List Off) (c : Int), y = .ref p' ∧ GuAt C H p' qs c ∧ Q (.bl (decide (os = qs) && decide (b = c))) H) ∨ (∃ t, TyX K H y t ∧ PySem.W.kitOne K t (.ref C) = some false ∧ Q (.bl false) H))
theorem ok_Guests_eq {f C : Addr} {fd : FuncData} (F : Fun K "__eq__" "Guests.__eq__" s_Guests_eq f fd) (T : TxtG K C) (m_isinstance : mg "isinstance" = none) (mg_Guests : mg "Guests" = some (.ref C))
    (ha : PySem.W.findIn K (.ref C) "__class__" = some (some (.builtin "object.__class__"))) (hn : PySem.W.specialIn K (.builtin "object.__class__") "__get__" = some (some (.builtin "getset_descriptor.__get__")))
    (htk : PySem.W.takesIn K (.builtin "object.__class__") = some true) (hm : PySem.W.mroIn K C (.type "object") = some true) : FnOk P w K mg base CX0 1 f fd ["self", "other"] (spEqG K C) := by
  refine F.ok sc_Guests_eq (fun vs H Q E h => ?_) (fun cdv A outer s H vs Q E hr h => ?_)
  · obtain ⟨p, y, os, b, rfl, _⟩ := h
    rfl
  · obtain ⟨p, y, os, b, rfl, ⟨dx, a, ts, hp, hA, hT⟩, h⟩ := h
    refine ⟨_, (pss_one (ps_ret (pe_and (pe_callB call_isi (by rfl) m_isinstance (by decide +kernel) (pa_cons (pv 1) (pa_cons (pe_glob (v := .ref C) (u := .ref C) (by rfl) mg_Guests rfl) pa_nil))) (pe_and (pe_cmpR (op_eqD hr.units) (pe_fld (pv 0) rfl) (pe_fld (pv 1) rfl) (nomark _)) (pe_one (pe_cmpR op_eq (pe_fld (pv 0) rfl) (pe_fld (pv 1) rfl) (nomark _))))))), ?_⟩
    rcases h with ⟨p', qs, c, rfl, ⟨dx', a', ts', hp', hA', hT'⟩, q⟩ | ⟨t, ty, kt, q⟩
    · refine ⟨_, rfl, _, _, _, _, true, rfl, .own C, .base (.ins hp' T.cl ha hn htk hm), kit_self, _, rfl, iteT ?_⟩
      refine ⟨_, rfl, p, C, dx, _, _, rfl, hp, T.cl, T.nO, fldsG_offers _ _, _, rfl, p', C, dx', _, _, rfl, hp', T.cl, T.nO, fldsG_offers _ _, .tuple _, .tuple _, .tup (tupAt hA) (offs_dp hT), .tup (tupAt hA') (offs_dp hT'), shape_T, shape_T, _, rfl, ?_⟩
      rw [eqv_T]
      by_cases e : os = qs
      · rw [decide_eq_true e] at q ⊢
        refine iteT ?_
        refine ⟨_, rfl, p, C, dx, _, _, rfl, hp, T.cl, T.nA, fldsG_aside _ _, _, rfl, p', C, dx', _, _, rfl, hp', T.cl, T.nA, fldsG_aside _ _, ?_⟩
        rw [Bool.true_and] at q
        refine ⟨rfl, ?_⟩
        rw [show decide (V.int b = V.int c) = decide (b = c) by by_cases e : b = c <;> simp [e]]
        exact q
      · rw [decide_eq_false e] at q ⊢
        refine iteF ?_
        rw [Bool.false_and] at q
        exact q
    · refine ⟨_, rfl, _, _, _, _, false, rfl, .own C, ty, kt, _, rfl, iteF ?_⟩
      exact q
end
end TK

namespace TK
open PySem PySem.Spec PyProof.Rows L2
/-! the mean of a lot -/
def kI (k : Nat) : V := .int (k : Int)
def topF (os : List Off) (ks : List Nat) : Int := (ks.map fun k => (os.getD k (0, 1)).1 * (os.getD k (0, 1)).2).sum
def wgtF (os : List Off) (ks : List Nat) : Int := (ks.map fun k => (os.getD k (0, 1)).2).sum
def gcdI (a b : Int) : Int := ((Nat.gcd a.natAbs b.natAbs : Nat) : Int)
def KsOk (n : Nat) (ks : List Nat) : Prop := (List.range n).filter (fun k => decide (k ∈ ks)) = ks
theorem KsOk.lt {n : Nat} {ks : List Nat} (h : KsOk n ks) : ∀ k ∈ ks, k < n := fun k hk => by
  rw [← h] at hk
  exact List.mem_range.mp (List.mem_filter.mp hk).1
theorem KsOk.len {n : Nat} {ks : List Nat} (h : KsOk n ks) : ks.length ≤ n := by
  rw [← h]
  have := List.length_filter_le (fun k => decide (k ∈ ks)) (List.range n)
  rw [List.length_range] at this
  exact this
theorem sum_bd {c d : Int} (f : Nat → Int) : ∀ ks : List Nat, (∀ k ∈ ks, c ≤ f k ∧ f k ≤ d) → (ks.length : Int) * c ≤ (ks.map f).sum ∧ (ks.map f).sum ≤ (ks.length : Int) * d
  | [], _ => by simp
  | k :: ks, h => by
    obtain ⟨h1, h2⟩ := sum_bd f ks fun j hj => h j (List.mem_cons_of_mem _ hj)
    obtain ⟨h3, h4⟩ := h k List.mem_cons_self
    simp only [List.map_cons, List.sum_cons, List.length_cons]
    have e1 : ((ks.length + 1 : Nat) : Int) * c = (ks.length : Int) * c + c := by rw [Int.natCast_add, Int.add_mul]; simp
    have e2 : ((ks.length + 1 : Nat) : Int) * d = (ks.length : Int) * d + d := by rw [Int.natCast_add, Int.add_mul]; simp
    rw [e1, e2]
    omega
theorem getD_ok {os : List Off} (ok : OffsOk os) {k : Nat} (h : k < os.length) : OOk (os.getD k (0, 1)) := by
  rw [List.getD_eq_getElem?_getD, List.getElem?_eq_getElem h]
  exact ok _ (List.getElem_mem h)
theorem wgt_bd {os : List Off} (ok : OffsOk os) (l8 : os.length ≤ 8) {ks : List Nat} (h : KsOk os.length ks) : 0 ≤ wgtF os ks ∧ wgtF os ks ≤ 8000 := by
  obtain ⟨h1, h2⟩ := sum_bd (c := 0) (d := 1000) (fun k => (os.getD k (0, 1)).2) ks fun k hk => by
    have := getD_ok ok (h.lt k hk)
    exact ⟨by have := this.w0; omega, this.w1⟩
  have := h.len
  unfold wgtF
  omega
theorem mul_bd {a b : Int} (h0 : 0 ≤ a) (h1 : a ≤ 1000000) (h2 : 1 ≤ b) (h3 : b ≤ 1000) : 0 ≤ a * b ∧ a * b ≤ 1000000000 := by
  refine ⟨Int.mul_nonneg h0 (by omega), ?_⟩
  have := Int.mul_le_mul h1 h3 (by omega) (by decide : (0 : Int) ≤ 1000000)
  omega
theorem top_bd {os : List Off} (ok : OffsOk os) (l8 : os.length ≤ 8) {ks : List Nat} (h : KsOk os.length ks) : 0 ≤ topF os ks ∧ topF os ks ≤ 8000000000 := by
  obtain ⟨h1, h2⟩ := sum_bd (c := 0) (d := 1000000000) (fun k => (os.getD k (0, 1)).1 * (os.getD k (0, 1)).2) ks fun k hk => by
    have := getD_ok ok (h.lt k hk)
    exact mul_bd this.c0 this.c1 this.w0 this.w1
  have := h.len
  unfold topF
  omega
theorem gcd_bd {a b : Int} (hb : 1 ≤ b) : 0 < gcdI a b ∧ gcdI a b ≤ b := by
  unfold gcdI
  have h1 : 0 < Nat.gcd a.natAbs b.natAbs := Nat.gcd_pos_of_pos_right _ (by omega)
  have h2 : Nat.gcd a.natAbs b.natAbs ≤ b.natAbs := Nat.gcd_le_right _ (by omega)
  omega
def meanT (os : List Off) (b : Int) (ks : List Nat) : HO := .tup [.int (topF os ks / gcdI (topF os ks) (b + wgtF os ks)), .int ((b + wgtF os ks) / gcdI (topF os ks) (b + wgtF os ks))]
theorem kI_at {ks : List Nat} {i : Nat} {x : V} (h : (ks.map kI)[i]? = some x) : ∃ k, ks[i]? = some k ∧ x = kI k := by
  rw [List.getElem?_map] at h
  cases e : ks[i]? with
  | none => rw [e] at h; cases h
  | some z => rw [e] at h; exact ⟨z, rfl, (Option.some.inj h).symm⟩
theorem inV_k {i : Nat} {ks : List Nat} : inV (.int (0 + (i : Int))) (ks.map kI) = decide (i ∈ ks) := by
  unfold inV
  rw [List.any_map]
  by_cases h : i ∈ ks
  · rw [decide_eq_true h]
    exact List.any_eq_true.mpr ⟨i, h, by show ((i : Int) == 0 + (i : Int)) = true; rw [Int.zero_add]; exact beq_self_eq_true _⟩
  · rw [decide_eq_false h]
    refine List.any_eq_false.mpr fun k hk => ?_
    show ¬ ((k : Int) == 0 + (i : Int)) = true
    intro e
    have := eq_of_beq e
    exact h (by rw [show i = k by omega]; exact hk)
theorem ks_flat (ks : List Nat) : (ks.map kI).all flatV = true := by
  rw [List.all_eq_true]
  intro x hx
  obtain ⟨c, _, rfl⟩ := List.mem_map.mp hx
  rfl
def dK (ks : List Nat) : List PyData := ks.map fun (k : Nat) => PyData.int (k : Int)
theorem ks_dp {K : PySem.W.Frag} {H : Hp} : ∀ ks : List Nat, DpAll K H (ks.map kI) (dK ks)
  | [] => .nil
  | k :: ks => .cons (.int _) (ks_dp ks)
theorem ks_lay : ∀ ks : List Nat, PyData.canLayAll0 (dK ks) = true ∧ PyData.depthAll (dK ks) ≤ 1
  | [] => ⟨by simp [dK, PyData.canLayAll0], by simp [dK, PyData.depthAll]⟩
  | k :: ks => by
    obtain ⟨h1, h2⟩ := ks_lay ks
    refine ⟨?_, ?_⟩
    · simp only [dK, List.map_cons, PyData.canLayAll0, Bool.and_eq_true]
      exact ⟨by simp [PyData.canLay0], h1⟩
    · simp only [dK, List.map_cons, PyData.depthAll]
      have : (PyData.int (k : Int)).depth ≤ 1 := by simp [PyData.depth]
      unfold dK at h2
      omega
theorem ks_lay0 (ks : List Nat) : (PyData.list (dK ks)).canLay0 = true := by simp only [PyData.canLay0, (ks_lay ks).1]
theorem ks_shape (ks : List Nat) : SeqAt.shaped (.list (dK ks)) = true := by
  obtain ⟨h1, h2⟩ := ks_lay ks
  show ((PyData.list _).canLay0 && decide ((PyData.list _).depth ≤ 64)) = true
  rw [ks_lay0, show (PyData.list (dK ks)).depth = PyData.depthAll (dK ks) + 1 by simp only [PyData.depth]]
  exact decide_eq_true (by omega)
theorem offs_at {H : Hp} {ts : List Addr} {os : List Off} (h : OffsAt H ts os) {k : Nat} (hk : k < os.length) : ∃ t, ts[k]? = some t ∧ atI (ts.map V.ref) (k : Int) = some (.ref t) ∧ H t = some (tO (os.getD k (0, 1))) := by
  have hk2 : k < ts.length := by rw [h.1]; exact hk
  obtain ⟨o, h1, h2⟩ := h.2 k _ (List.getElem?_eq_getElem hk2)
  refine ⟨ts[k], List.getElem?_eq_getElem hk2, ?_, ?_⟩
  · exact atI_nat (by rw [List.getElem?_map, List.getElem?_eq_getElem hk2]; rfl)
  · rw [List.getD_eq_getElem?_getD, h1]
    exact h2
section
variable {P : Program} {w : World} {K : PySem.W.Frag} {mg : Str → Option Value} {base : Heap}
def spMeanG (K : PySem.W.Frag) (C : Addr) : Sp := fun vs H Q _ => ∃ (p l : Addr) (os : List Off) (b : Int) (ks : List Nat), vs = [.ref p, .ref l] ∧ GuAt C H p os b ∧ OffsOk os ∧ os.length ≤ 8 ∧ 1 ≤ b ∧ b ≤ 1000 ∧ SqT K H l (ks.map kI) ∧ KsOk os.length ks ∧
  ∀ H' t, Same H H' → H' t = some (meanT os b ks) → Q (.ref t) H'
theorem ok_Guests_mean {f C : Addr} {fd : FuncData} (F : Fun K "mean" "Guests.mean" s_Guests_mean f fd) (T : TxtG K C) (m_list : mg "list" = none) (m_len : mg "len" = none) (m_range : mg "range" = none) (m_sum : mg "sum" = none) (g_gcd : mg "gcd" = some (.builtin "math.gcd")) :
    FnOk P w K mg base CX0 1 f fd ["self", "lot"] (spMeanG K C) := by
  refine F.ok sc_Guests_mean (fun vs H Q E h => ?_) (fun cdv A outer s H vs Q E hr h => ?_)
  · obtain ⟨p, l, os, b, ks, rfl, _⟩ := h
    rfl
  · obtain ⟨p, l, os, b, ks, rfl, ⟨dx, a, ts, hp, hA, hT⟩, ok, l8, b0, b1, hl, kok, q⟩ := h
    have tl : (ts.map V.ref).length = os.length := by rw [List.length_map, hT.1]
    have kl := kok.len
    have w8 := wgt_bd ok l8 kok
    have t8 := top_bd ok l8 kok
    refine ⟨_, (pss_cons (ps_if (pt_cmpR (op_neD hr.units) (pe_callTy call_list_of (by rfl) m_list (by decide +kernel) (pa_cons (pv 1) pa_nil)) (pe_lc (own := [("number", 6)]) (by rfl) sc_Guests_mean.nd (pi_range1 (by rfl) m_range (pa_cons (pe_callB call_len_seq (by rfl) m_len (by decide +kernel) (pa_cons (pe_fld (pv 0) rfl) pa_nil)) pa_nil)) (blkOk_by (N := ["self", "lot", "shown", "top", "bottom", "shared", "number", "charge", "weight", "_"]) (sc := defScope s_Guests_mean) (by decide +kernel)) (fun _ _ _ _ _ => (pg_name (i := 6) sc_Guests_mean.nd rfl (.inl rfl))) (fun _ _ _ _ _ => (pts_one (pt_cmpR (op_in_seqK (K := K) rfl) (pv 6) (pv 1) (by rfl)))) (fun _ _ _ _ _ => (pv 6))) (nomark _)) (pss_one ps_never) pss_nil)
  (pss_cons (ps_setLc (i := 2) (own := [("number", 6)]) (by rfl) sc_Guests_mean.nd rfl rfl (sw_true rfl rfl rfl (by decide +kernel)) (pi_tup (pv 1)) (blkOk_by (N := ["self", "lot", "shown", "top", "bottom", "shared", "number", "charge", "weight", "_"]) (sc := defScope s_Guests_mean) (by decide +kernel)) (fun _ _ _ _ _ => (pg_name (i := 6) sc_Guests_mean.nd rfl (.inl rfl))) (fun _ _ _ _ _ => pts_nil) (fun _ _ _ _ _ => (pe_ix (ix_tupK (K := K) rfl) (pe_fldK (K := K) rfl (pv 0) rfl) (pv 6) (fun _ _ => rfl))))
  (pss_cons (ps_set (i := 3) sc_Guests_mean.nd rfl (.inl rfl) (pe_callB (cr_sum rfl) (by rfl) m_sum (by decide +kernel) (pa_cons (pe_lc (own := [("charge", 7), ("weight", 8)]) (by rfl) sc_Guests_mean.nd (pi_list (pv 2)) (blkOk_by (N := ["self", "lot", "shown", "top", "bottom", "shared", "number", "charge", "weight", "_"]) (sc := defScope s_Guests_mean) (by decide +kernel)) (fun _ _ _ _ _ => (pg_tupK (K := K) (n := 2) rfl (by rfl) (pgs_cons (pg_name (i := 7) sc_Guests_mean.nd rfl (.inl rfl)) (pgs_cons (pg_name (i := 8) sc_Guests_mean.nd rfl (.inl rfl)) pgs_nil)))) (fun _ _ _ _ _ => pts_nil) (fun _ _ _ _ _ => (pe_op op_mul (pv 7) (pv 8)))) pa_nil)))
  (pss_cons (ps_set (i := 4) sc_Guests_mean.nd rfl (.inl rfl) (pe_op op_add (pe_fld (pv 0) rfl) (pe_callB (cr_sum rfl) (by rfl) m_sum (by decide +kernel) (pa_cons (pe_lc (own := [("_", 9), ("weight", 8)]) (by rfl) sc_Guests_mean.nd (pi_list (pv 2)) (blkOk_by (N := ["self", "lot", "shown", "top", "bottom", "shared", "number", "charge", "weight", "_"]) (sc := defScope s_Guests_mean) (by decide +kernel)) (fun _ _ _ _ _ => (pg_tupK (K := K) (n := 2) rfl (by rfl) (pgs_cons (pg_name (i := 9) sc_Guests_mean.nd rfl (.inl rfl)) (pgs_cons (pg_name (i := 8) sc_Guests_mean.nd rfl (.inl rfl)) pgs_nil)))) (fun _ _ _ _ _ => pts_nil) (fun _ _ _ _ _ => (pv 8))) pa_nil))))
  (pss_cons (ps_set (i := 5) sc_Guests_mean.nd rfl (.inl rfl) (pe_callBfun cr_gcd (by rfl) g_gcd (pa_cons (pv 3) (pa_cons (pv 4) pa_nil))))
  (pss_one (ps_ret (pe_tup (pa_cons (pe_op op_fdiv (pv 3) (pv 5)) (pa_cons (pe_op op_fdiv (pv 4) (pv 5)) pa_nil)))))))))), ?_⟩
    -- the lot is one
    refine ⟨_, rfl, l, _, rfl, .inr hl, fun l1 nl1 => ?_⟩
    have s1 := same_upd (o := .lst (ks.map kI)) nl1
    have sT : ∀ {H'}, Same H H' → SqT K H' l (ks.map kI) := fun s => same_tup s hl
    refine ⟨_, rfl, p, C, dx, _, _, rfl, s1 _ _ hp, T.cl, T.nO, fldsG_offers _ _, _, _, rfl, .inr (tupAt (s1 _ _ hA)), _, rfl, by rw [tl]; omega, by rw [tl]; omega, fun D nD => ?_⟩
    refine lc_range (fun i H' => H' = upd (upd H l1 (.lst (ks.map kI))) D (.lst (((List.range i).filter fun k => decide (k ∈ ks)).map kI))) rfl (fun i H' hi hq => ?_) (fun H' hq => ?_)
    · subst hq
      have hz : (((List.range i).filter fun k => decide (k ∈ ks)).map kI).length < sizeLine := by
        rw [List.length_map]
        have := List.length_filter_le (fun k => decide (k ∈ ks)) (List.range i)
        rw [List.length_range] at this
        rw [tl] at hi
        exact small1000 (by omega)
      refine ⟨rfl, _, rfl, _, rfl, l, _, rfl, .inr (sT (s1.trans (same_upd nD))), rfl, ks_flat ks, _, rfl, ?_⟩
      rw [if_neg (by decide), inV_k]
      by_cases hm : i ∈ ks
      · rw [decide_eq_true hm]
        refine iteT ⟨_, rfl, _, upd_same, hz, ?_⟩
        rw [upd_twice, List.range_succ, List.filter_append, List.map_append, List.filter_cons, if_pos (decide_eq_true hm), Int.zero_add]
        rfl
      · rw [decide_eq_false hm]
        refine iteF ?_
        rw [List.range_succ, List.filter_append, List.filter_cons, if_neg (by rw [decide_eq_false hm]; decide), List.filter_nil, List.append_nil]
    subst hq
    rw [tl, Int.toNat_natCast, kok]
    have s2 := s1.trans (same_upd (o := .lst (ks.map kI)) nD)
    generalize eH2 : (upd (upd H l1 (.lst (ks.map kI))) D (.lst (ks.map kI)) : Hp) = H2 at s2 ⊢
    have e1 : H2 l1 = some (.lst (ks.map kI)) := by rw [← eH2, upd_ne (ne_of_none upd_same nD)]; exact upd_same
    have e2 : H2 D = some (.lst (ks.map kI)) := by rw [← eH2]; exact upd_same
    refine ⟨.list (dK ks), .list (dK ks), .lst (lstAt e1) (ks_dp ks), .lst (lstAt e2) (ks_dp ks), ks_shape ks, ks_shape ks, _, rfl, ?_⟩
    rw [SeqAt.eqv_refl _ (ks_lay0 ks)]
    refine iteF ?_
    -- shown
    refine ⟨_, rfl, l, rfl, ⟨_, sT s2⟩, fun D2 nD2 => ?_⟩
    refine lc_tup (K := K) (a := l) (xs := ks.map kI) (fun i H' => ∃ us : List Addr, H' = upd H2 D2 (.lst (us.map V.ref)) ∧ us.length = i ∧ OffsAt H' us ((ks.take i).map fun k => os.getD k (0, 1))) ⟨[], rfl, rfl, rfl, fun _ _ h => nomatch h⟩ (fun i H' _ hq => by obtain ⟨us, rfl, _⟩ := hq; exact sT (s2.trans (same_upd nD2))) (fun i x H' hx hq => ?_) (fun H' hq => ?_)
    · obtain ⟨us, rfl, ul, hU⟩ := hq
      obtain ⟨k, ek, rfl⟩ := kI_at hx
      have hi8 : i < 8 := by have := (List.getElem?_eq_some_iff.mp ek).1; omega
      have s3 := s2.trans (same_upd (o := .lst (us.map V.ref)) nD2)
      obtain ⟨t, t1, t2, t3⟩ := offs_at (hT.same s3) (kok.lt k (List.mem_of_getElem? ek))
      refine ⟨rfl, yesT ⟨_, rfl, p, C, dx, _, _, rfl, s3 _ _ hp, T.cl, T.nO, fldsG_offers _ _, _, rfl, _, _, _, _, rfl, rfl, tupAt (s3 _ _ hA), t2, _, upd_same, by rw [List.length_map, ul]; exact small1000 (by omega), us ++ [t], by rw [upd_twice, List.map_append]; rfl, by rw [List.length_append, ul]; rfl, ?_⟩⟩
      rw [List.take_add_one, ek, List.map_append]
      exact OffsAt.snoc (hU.wrote upd_same) (by rw [upd_ne (ne_of t3 upd_same (by intro z; cases z))]; exact t3)
    obtain ⟨us, rfl, ul, hU⟩ := hq
    rw [List.length_map] at ul
    rw [List.length_map, List.take_length] at hU
    have s3 := s2.trans (same_upd (o := .lst (us.map V.ref)) nD2)
    have e3 : (upd H2 D2 (.lst (us.map V.ref))) D2 = some (.lst (us.map V.ref)) := upd_same
    generalize upd H2 D2 (.lst (us.map V.ref)) = H3 at s3 e3 hU ⊢
    -- the top
    have hval : ∀ (i : Nat) (x : V), (us.map V.ref)[i]? = some x → ∃ (k : Nat) (t : Addr), ks[i]? = some k ∧ x = .ref t ∧ H3 t = some (tO (os.getD k (0, 1))) ∧ OOk (os.getD k (0, 1)) ∧ i < 8 := by
      intro i x hx
      obtain ⟨t, o, rfl, e4, e5, e6⟩ := hU.get hx
      have hi := (List.getElem?_eq_some_iff.mp e4).1
      rw [List.getElem?_map, List.getElem?_eq_getElem (show i < ks.length by omega)] at e5
      cases Option.some.inj e5
      exact ⟨_, t, List.getElem?_eq_getElem (by omega), rfl, e6, getD_ok ok (kok.lt _ (List.getElem_mem _)), by omega⟩
    refine ⟨_, rfl, D2, rfl, ⟨_, lstAt e3⟩, fun D3 nD3 => ?_⟩
    refine lc_list (K := K) (a := D2) (xs := us.map V.ref) (fun i H' => H' = upd H3 D3 (.lst (((ks.map fun k => (os.getD k (0, 1)).1 * (os.getD k (0, 1)).2).map V.int).take i))) rfl (fun i H' _ hq => by subst hq; exact lstAt ((same_upd nD3) _ _ e3)) (fun i x H' hx hq => ?_) (fun H' hq => ?_)
    · subst hq
      obtain ⟨k, t, ek, rfl, et, oo, i8⟩ := hval i x hx
      have m1 := oo.c0
      have m2 := oo.c1
      refine ⟨_, _, rfl, tupAt ((same_upd nD3) _ _ et), rfl, _, _, rfl, _, _, rfl, rfl, rfl, yesT ⟨_, rfl, _, rfl, _, _, rfl, rfl, .inl ⟨by omega, by omega⟩, _, upd_same, by rw [List.length_take]; exact small1000 (by omega), ?_⟩⟩
      rw [upd_twice, List.take_add_one, List.getElem?_map, List.getElem?_map, ek]
      rfl
    subst hq
    rw [List.take_of_length_le (by rw [List.length_map, List.length_map, List.length_map]; omega)]
    have s4' := same_upd (o := .lst ((ks.map fun k => (os.getD k (0, 1)).1 * (os.getD k (0, 1)).2).map V.int)) nD3
    have s4 := s3.trans s4'
    refine ⟨D3, _, rfl, lstAt upd_same, ?_⟩
    generalize upd H3 D3 (.lst ((ks.map fun k => (os.getD k (0, 1)).1 * (os.getD k (0, 1)).2).map V.int)) = H4 at s4' s4 ⊢
    -- the bottom
    refine ⟨_, rfl, p, C, dx, _, _, rfl, s4 _ _ hp, T.cl, T.nA, fldsG_aside _ _, _, rfl, D2, rfl, ⟨_, lstAt (s4' _ _ e3)⟩, fun D4 nD4 => ?_⟩
    refine lc_list (K := K) (a := D2) (xs := us.map V.ref) (fun i H' => H' = upd H4 D4 (.lst (((ks.map fun k => (os.getD k (0, 1)).2).map V.int).take i))) rfl (fun i H' _ hq => by subst hq; exact lstAt ((same_upd nD4) _ _ (s4' _ _ e3))) (fun i x H' hx hq => ?_) (fun H' hq => ?_)
    · subst hq
      obtain ⟨k, t, ek, rfl, et, oo, i8⟩ := hval i x hx
      refine ⟨_, _, rfl, tupAt ((same_upd nD4) _ _ (s4' _ _ et)), rfl, _, _, rfl, _, _, rfl, rfl, rfl, yesT ⟨_, rfl, _, upd_same, by rw [List.length_take]; exact small1000 (by omega), ?_⟩⟩
      rw [upd_twice, List.take_add_one, List.getElem?_map, List.getElem?_map, ek]
      rfl
    subst hq
    rw [List.take_of_length_le (by rw [List.length_map, List.length_map, List.length_map]; omega)]
    have s5 := s4.trans (same_upd (o := .lst ((ks.map fun k => (os.getD k (0, 1)).2).map V.int)) nD4)
    refine ⟨D4, _, rfl, lstAt upd_same, _, _, rfl, rfl, ?_⟩
    generalize upd H4 D4 (.lst ((ks.map fun k => (os.getD k (0, 1)).2).map V.int)) = H5 at s5 ⊢
    have g1 := gcd_bd (a := topF os ks) (b := b + wgtF os ks) (by omega)
    have g2 : gcdI (topF os ks) (b + wgtF os ks) < 1073741824 := by omega
    refine ⟨_, rfl, _, rfl, topF os ks, b + wgtF os ks, rfl, ?_⟩
    exact ⟨_, rfl, _, rfl, _, _, rfl, rfl, ⟨g1.1, g2⟩, _, rfl, _, rfl, _, _, rfl, rfl, ⟨g1.1, g2⟩, (show (2 : Nat) ≤ sizeLine by decide), fun t nt => q _ t (s5.trans (same_upd nt)) upd_same⟩
end
end TK

namespace TK
open PySem PySem.Spec PyProof.Rows L2
section
variable {P : Program} {w : World} {K : PySem.W.Frag} {mg : Str → Option Value} {base : Heap}
/-! _law_far -/
def spFar (K : PySem.W.Frag) : Sp := fun vs H Q _ => ∃ (a : Addr) (ns : List Int) (s n : Int), vs = [.ref a, .int s, .int n] ∧ SqL K H a (ns.map V.int) ∧ 0 ≤ s ∧ 0 ≤ n ∧ n ≤ 1000 ∧ s + n ≤ ns.length ∧ ∀ r : Int, 0 ≤ r → Q (.int r) H
theorem ok_L_far {f : Addr} {fd : FuncData} (F : Fun K "_law_far" "_law_far" s_L_far f fd) (m_range : mg "range" = none) (m_int : mg "int" = none) : FnOk P w K mg base CX0 1 f fd ["_law_pool_here", "_law_spot", "_law_number"] (spFar K) := by
  refine F.ok sc_L_far (fun vs H Q E h => ?_) (fun cdv A outer s H vs Q E hr h => ?_)
  · obtain ⟨a, ns, s, n, rfl, _⟩ := h
    rfl
  · obtain ⟨a, ns, s, n, rfl, hS, h0, h1, h2, h3, q⟩ := h
    refine ⟨_, (pss_cons (ps_set (i := 3) sc_L_far.nd rfl (.inl rfl) pe_int)
  (pss_cons (ps_for PassesOwn.never rfl (pi_range1 (by rfl) m_range (pa_cons (pv 2) pa_nil)) (pg_name (i := 4) sc_L_far.nd rfl (.inl rfl))
    (pss_one (ps_set (i := 3) sc_L_far.nd rfl (.inl rfl) (pe_op op_add (pe_op op_mul (pv 3) pe_int) (pe_op op_mod (pe_callTy call_int1 (by rfl) m_int (by decide +kernel) (pa_cons (pe_ix ix_list (pv 0) (pe_op op_add (pv 1) (pv 4)) (fun _ _ => rfl)) pa_nil)) pe_int)))))
  (pss_one (ps_ret (pv 3))))), ?_⟩
    refine ⟨_, rfl, _, rfl, by omega, by omega, for_range (fun i σ H' => H' = H ∧ ∃ (r : Int) (y : Option V), σ = [some (.ref a), some (.int s), some (.int n), some (.int r), y] ∧ 0 ≤ r) ⟨rfl, _, _, rfl, by decide⟩ ?_ ?_⟩
    · rintro i σ H' hi ⟨rfl, r, y, rfl, r0⟩
      refine ⟨_, rfl, _, _, rfl, rfl, .inr (by decide), _, rfl, _, rfl, _, rfl, _, _, rfl, rfl, _, _, _, _, rfl, rfl, hS, get_int (by omega) (by omega), .inl ⟨_, rfl, _, _, rfl, rfl, pz, _, _, rfl, rfl, rfl, _, _, rfl, ?_⟩⟩
      exact Int.add_nonneg (Int.mul_nonneg r0 (by decide)) (Int.emod_nonneg _ (by decide))
    · rintro σ H' ⟨rfl, r, y, rfl, r0⟩
      exact ⟨_, rfl, q _ r0⟩
/-! _law_chosen: from 0 to the crest -/
def spChosen (K : PySem.W.Frag) : Sp := fun vs H Q _ => ∃ (a : Addr) (ns : List Int) (s u z c wh : Int), vs = [.ref a, .int s, .int u, .int z, .int c, .int wh] ∧ SqL K H a (ns.map V.int) ∧ 0 ≤ s ∧ s < ns.length ∧ 0 < u ∧ u < 1000 ∧ 0 < z ∧ z ≤ c ∧ ∀ r : Int, 0 ≤ r → r ≤ c → Q (.int r) H
theorem ok_L_chosen {f : Addr} {fd : FuncData} (F : Fun K "_law_chosen" "_law_chosen" s_L_chosen f fd) (m_int : mg "int" = none) (d_L_part : Def P w K mg base "_law_part" 1 ["_law_pool_here", "_law_spot", "_law_under", "_law_size"] (spPart K)) : FnOk P w K mg base CX0 2 f fd ["_law_pool_here", "_law_spot", "_law_under", "_law_small", "_law_crest", "_law_whole"] (spChosen K) := by
  refine F.ok sc_L_chosen (fun vs H Q E h => ?_) (fun cdv A outer s H vs Q E hr h => ?_)
  · obtain ⟨a, ns, s, u, z, c, wh, rfl, _⟩ := h
    rfl
  · obtain ⟨a, ns, s, u, z, c, wh, rfl, hS, h0, h1, h2, h3, h4, h5, q⟩ := h
    refine ⟨_, (pss_cons (ps_set (i := 6) sc_L_chosen.nd rfl (.inl rfl) (pe_callD d_L_part (hr.mono (by decide)) (by rfl) (pa_cons (pv 0) (pa_cons (pv 1) (pa_cons (pv 2) (pa_cons pe_int pa_nil))))))
  (pss_cons (ps_set (i := 7) sc_L_chosen.nd rfl (.inl rfl) (pe_callD d_L_part (hr.mono (by decide)) (by rfl) (pa_cons (pv 0) (pa_cons (pv 1) (pa_cons (pe_op op_mul pe_int (pv 2)) (pa_cons (pv 3) pa_nil))))))
  (pss_cons (ps_if (pt_cmpR op_eq (pv 6) pe_int (nomark _)) (pss_one (ps_ret (pe_op op_sub (pv 4) (pv 7)))) pss_nil)
  (pss_cons (ps_if (pt_cmpR op_eq (pv 6) pe_int (nomark _)) (pss_one (ps_ret (pe_op op_mod (pe_callTy call_int1 (by rfl) m_int (by decide +kernel) (pa_cons (pv 5) pa_nil)) (pe_op op_add (pv 4) pe_int)))) pss_nil)
  (pss_one (ps_ret (pv 7))))))), ?_⟩
    refine ⟨_, rfl, _, rfl, _, rfl, _, _, _, _, _, rfl, hS, h0, h1, h2, by omega, by decide, ?_⟩
    refine ⟨_, rfl, _, rfl, _, rfl, _, _, rfl, rfl, .inl (by decide), _, rfl, _, _, _, _, _, rfl, hS, h0, h1, by omega, by omega, h4, ?_⟩
    have p0 := part_lo (ns := ns) (s := s) (u := 10 * u) h4
    have p1 := part_hi (ns := ns) (s := s) (u := 10 * u) h4
    refine ⟨_, rfl, rfl, _, rfl, ite2 (fun e => ?_) (fun e => ?_)⟩
    · exact ⟨_, rfl, _, rfl, _, _, rfl, rfl, q _ (by omega) (by omega)⟩
    · refine ⟨_, rfl, rfl, _, rfl, ite2 (fun e => ?_) (fun e => ?_)⟩
      · refine ⟨_, rfl, .inl ⟨_, rfl, _, rfl, _, _, rfl, rfl, _, _, rfl, rfl, show (0 : Int) < c + 1 by omega, q _ (Int.emod_nonneg _ (by omega)) ?_⟩⟩
        have := Int.emod_lt_of_pos wh (show (0 : Int) < c + 1 by omega)
        omega
      · exact ⟨_, rfl, q _ p0 (by omega)⟩
end
end TK

namespace TK
open PySem PySem.Spec PyProof.Rows L2
theorem ixN_at {n k : Nat} (h : k < n) : ixN n (k : Int) = some k := by
  unfold ixN
  rw [if_pos (Int.natCast_nonneg k), if_pos (by omega)]
  rfl
theorem OffsAt.set {H : Hp} {ts : List Addr} {os : List Off} {k : Nat} {t : Addr} {o : Off} (h : OffsAt H ts os) (e : H t = some (tO o)) : OffsAt H (ts.set k t) (os.set k o) := by
  refine ⟨by rw [List.length_set, List.length_set]; exact h.1, fun i t' he => ?_⟩
  rw [List.getElem?_set] at he ⊢
  by_cases hk : k = i
  · subst hk
    rw [if_pos rfl] at he ⊢
    by_cases hl : k < ts.length
    · rw [if_pos hl] at he
      cases Option.some.inj he
      exact ⟨o, by rw [if_pos (by rw [← h.1]; exact hl)], e⟩
    · rw [if_neg hl] at he; cases he
  · rw [if_neg hk] at he ⊢
    exact h.2 i t' he
section
variable {P : Program} {w : World} {K : PySem.W.Frag} {mg : Str → Option Value} {base : Heap}
/-! _law_beside -/
def spBeside (K : PySem.W.Frag) : Sp := fun vs H Q _ => ∃ (a : Addr) (ns : List Int) (s : Int), vs = [.ref a, .int s] ∧ SqL K H a (ns.map V.int) ∧ 0 ≤ s ∧ s + 2 ≤ ns.length ∧ ∀ r : Int, 1 ≤ r → r ≤ 1000 → Q (.int r) H
theorem ok_L_beside {f : Addr} {fd : FuncData} (F : Fun K "_law_beside" "_law_beside" s_L_beside f fd) (d_L_far : Def P w K mg base "_law_far" 1 ["_law_pool_here", "_law_spot", "_law_number"] (spFar K))
    (d_L_chosen : Def P w K mg base "_law_chosen" 2 ["_law_pool_here", "_law_spot", "_law_under", "_law_small", "_law_crest", "_law_whole"] (spChosen K)) : FnOk P w K mg base CX0 3 f fd ["_law_pool_here", "_law_spot"] (spBeside K) := by
  refine F.ok sc_L_beside (fun vs H Q E h => ?_) (fun cdv A outer s H vs Q E hr h => ?_)
  · obtain ⟨a, ns, s, rfl, _⟩ := h
    rfl
  · obtain ⟨a, ns, s, rfl, hS, h0, h1, q⟩ := h
    refine ⟨_, (pss_one (ps_ret (pe_op op_add pe_int (pe_callD d_L_chosen (hr.mono (by decide)) (by rfl) (pa_cons (pv 0) (pa_cons (pv 1) (pa_cons pe_int (pa_cons pe_int (pa_cons pe_int (pa_cons (pe_callD d_L_far (hr.mono (by decide)) (by rfl) (pa_cons (pv 0) (pa_cons (pe_op op_add (pv 1) pe_int) (pa_cons pe_int pa_nil)))) pa_nil)))))))))), ?_⟩
    refine ⟨_, rfl, _, rfl, _, rfl, _, rfl, _, _, rfl, rfl, _, _, _, _, rfl, hS, by omega, by decide, by decide, by omega, fun z z0 => ?_⟩
    refine ⟨_, _, _, _, _, _, _, rfl, hS, by omega, by omega, by decide, by decide, by decide, by decide, fun r r0 r1 => ?_⟩
    exact ⟨_, _, rfl, rfl, q _ (by omega) (by omega)⟩
/-! _law_goods -/
def spGoods (K : PySem.W.Frag) : Sp := fun vs H Q _ => ∃ (a : Addr) (ns : List Int) (s n : Int) (cb : Bool), vs = [.ref a, .int s, .int n, .bl cb] ∧ SqL K H a (ns.map V.int) ∧ 0 ≤ s ∧ s + 4 * n ≤ ns.length ∧ 0 ≤ n ∧ n ≤ 8 ∧
  ∀ (H' : Hp) (p : Addr) (ts : List Addr) (os : List Off), H p = none → Same H H' → H' p = some (.lst (ts.map V.ref)) → OffsAt H' ts os → OffsOk os → (os.length : Int) = n → Q (.ref p) H'
theorem ok_L_goods {f : Addr} {fd : FuncData} (F : Fun K "_law_goods" "_law_goods" s_L_goods f fd) (m_range : mg "range" = none) (m_int : mg "int" = none)
    (d_L_part : Def P w K mg base "_law_part" 1 ["_law_pool_here", "_law_spot", "_law_under", "_law_size"] (spPart K)) (d_L_far : Def P w K mg base "_law_far" 1 ["_law_pool_here", "_law_spot", "_law_number"] (spFar K))
    (d_L_chosen : Def P w K mg base "_law_chosen" 2 ["_law_pool_here", "_law_spot", "_law_under", "_law_small", "_law_crest", "_law_whole"] (spChosen K)) : FnOk P w K mg base CX0 3 f fd ["_law_pool_here", "_law_spot", "_law_number", "_law_calm"] (spGoods K) := by
  refine F.ok sc_L_goods (fun vs H Q E h => ?_) (fun cdv A outer s H vs Q E hr h => ?_)
  · obtain ⟨a, ns, s, n, cb, rfl, _⟩ := h
    rfl
  · obtain ⟨a, ns, s, n, cb, rfl, hS, h0, h1, n0, n8, q⟩ := h
    refine ⟨_, (pss_cons (ps_set (i := 4) sc_L_goods.nd rfl (.inl rfl) (pe_lst pa_nil))
  (pss_cons (ps_for PassesOwn.never rfl (pi_range1 (by rfl) m_range (pa_cons (pv 2) pa_nil)) (pg_name (i := 5) sc_L_goods.nd rfl (.inl rfl))
    (pss_cons (ps_set (i := 6) sc_L_goods.nd rfl (.inl rfl) (pe_op op_add (pv 1) (pe_op op_mul pe_int (pv 5))))
  (pss_cons (ps_set (i := 7) sc_L_goods.nd rfl (.inl rfl) (pe_callD d_L_chosen (hr.mono (by decide)) (by rfl) (pa_cons (pv 0) (pa_cons (pv 6) (pa_cons pe_int (pa_cons pe_int (pa_cons (pe_op op_pow pe_int pe_int) (pa_cons (pe_callD d_L_far (hr.mono (by decide)) (by rfl) (pa_cons (pv 0) (pa_cons (pe_op op_add (pv 6) pe_int) (pa_cons pe_int pa_nil)))) pa_nil))))))))
  (pss_cons (ps_set (i := 8) sc_L_goods.nd rfl (.inl rfl) (pe_op op_add pe_int (pe_callD d_L_chosen (hr.mono (by decide)) (by rfl) (pa_cons (pv 0) (pa_cons (pv 6) (pa_cons pe_int (pa_cons pe_int (pa_cons pe_int (pa_cons (pe_callD d_L_far (hr.mono (by decide)) (by rfl) (pa_cons (pv 0) (pa_cons (pe_op op_add (pv 6) pe_int) (pa_cons pe_int pa_nil)))) pa_nil)))))))))
  (pss_cons (ps_cut (ps_if (pt_val (pv 3)) (pss_cons (ps_set (i := 7) sc_L_goods.nd rfl (.inl rfl) (pe_op op_mod (pe_callTy call_int1 (by rfl) m_int (by decide +kernel) (pa_cons (pv 7) pa_nil)) pe_int))
  (pss_one (ps_set (i := 8) sc_L_goods.nd rfl (.inl rfl) (pe_op op_add pe_int (pe_op op_mod (pe_callTy call_int1 (by rfl) m_int (by decide +kernel) (pa_cons (pe_op op_sub (pv 8) pe_int) pa_nil)) pe_int))))) pss_nil))
  (pss_cons (ps_expr (pe_bm PySem.F.plainAttrs_list PySem.F.slot_list_append PySem.F.type_list_append mt_append (pv 4) (pa_cons (pe_tup (pa_cons (pv 7) (pa_cons (pv 8) pa_nil))) pa_nil)))
  (pss_one (ps_if (PW.pt (pw_and (pt_cmpR op_gt (pv 5) pe_int (nomark _)) (pw_and1 (pt_cmpR op_eq (pe_callD d_L_part (hr.mono (by decide)) (by rfl) (pa_cons (pv 0) (pa_cons (pe_op op_add (pv 6) pe_int) (pa_cons pe_int (pa_cons pe_int pa_nil))))) pe_int (nomark _))))) (pss_one (ps_asg (pe_ix ix_list (pv 4) (pe_op op_sub (pv 5) pe_int) (fun _ _ => rfl)) (pg_sub (pv 4) (pv 5) set_list))) pss_nil))))))))
  (pss_one (ps_ret (pv 4))))), ?_⟩
    refine ⟨Nat.zero_le _, fun p np => ?_⟩
    refine ⟨_, rfl, _, rfl, by omega, by omega, for_range (fun i σ H' => ∃ (ts : List Addr) (os : List Off) (y1 y2 y3 y4 : Option V), σ = [some (.ref a), some (.int s), some (.int n), some (.bl cb), some (.ref p), y1, y2, y3, y4] ∧ Same H H' ∧ H' p = some (.lst (ts.map V.ref)) ∧ OffsAt H' ts os ∧ OffsOk os ∧ os.length = i) ⟨[], [], _, _, _, _, rfl, same_upd np, upd_same, ⟨rfl, fun _ _ h => nomatch h⟩, (fun _ h => nomatch h), rfl⟩ ?_ ?_⟩
    · rintro i σ H' hi ⟨ts, os, y1, y2, y3, y4, rfl, sm, ep, hT, ok, ol⟩
      have hS2 := sm.seq hS
      have tl : ts.length = i := by rw [hT.1, ol]
      refine ⟨_, rfl, _, rfl, _, _, rfl, rfl, .inl ⟨by decide, by decide⟩, _, _, rfl, rfl, ?_⟩
      refine ⟨_, rfl, _, rfl, _, _, rfl, rfl, ⟨by decide, by decide, by decide⟩, _, rfl, _, rfl, _, _, rfl, rfl, _, _, _, _, rfl, hS2, by omega, by decide, by decide, by omega, fun z z0 => ?_⟩
      refine ⟨_, _, _, _, _, _, _, rfl, hS2, by omega, by omega, by decide, by decide, by decide, by decide, fun c c0 c1 => ?_⟩
      refine ⟨_, rfl, _, rfl, _, rfl, _, rfl, _, _, rfl, rfl, _, _, _, _, rfl, hS2, by omega, by decide, by decide, by omega, fun z2 z20 => ?_⟩
      refine ⟨_, _, _, _, _, _, _, rfl, hS2, by omega, by omega, by decide, by decide, by decide, by decide, fun v v0 v1 => ?_⟩
      have c1' : c ≤ 1000000 := c1
      refine ⟨_, _, rfl, rfl, ?_⟩
      refine ⟨fun σ H2 => H2 = H' ∧ ∃ o : Off, OOk o ∧ σ = [some (.ref a), some (.int s), some (.int n), some (.bl cb), some (.ref p), some (.int (0 + (i : Int))), some (.int (s + 4 * (0 + (i : Int)))), some (.int o.1), some (.int o.2)], ?_, ?_⟩
      · refine ⟨_, rfl, _, rfl, ite2 (fun e => ?_) (fun e => ?_)⟩
        · refine ⟨_, rfl, .inl ⟨_, rfl, _, _, rfl, rfl, pz, ?_⟩⟩
          refine ⟨_, rfl, _, _, rfl, rfl, .inl ⟨_, rfl, _, _, rfl, rfl, pz, _, _, rfl, rfl, ?_⟩⟩
          have a1 := Int.emod_nonneg c (show (12 : Int) ≠ 0 by decide)
          have a2 := Int.emod_lt_of_pos c (show (0 : Int) < 12 by decide)
          have b1 := Int.emod_nonneg (1 + v - 1) (show (4 : Int) ≠ 0 by decide)
          have b2 := Int.emod_lt_of_pos (1 + v - 1) (show (0 : Int) < 4 by decide)
          exact ⟨rfl, (c % 12, 1 + (1 + v - 1) % 4), ⟨a1, by show c % 12 ≤ _; omega, by show 1 ≤ 1 + (1 + v - 1) % 4; omega, by show 1 + (1 + v - 1) % 4 ≤ _; omega⟩, rfl⟩
        · exact ⟨rfl, (c, 1 + v), ⟨c0, c1', by show 1 ≤ 1 + v; omega, by show 1 + v ≤ 1000; omega⟩, rfl⟩
      · rintro σ H2 ⟨rfl, o, oo, rfl⟩
        refine ⟨_, rfl, .inl ⟨rfl, _, lstAt ep⟩, _, rfl, _, rfl, (show 2 ≤ sizeLine by decide), fun t nt => ?_⟩
        have tp : t ≠ p := (ne_of_none ep nt).symm
        refine ⟨_, _, _, rfl, rfl, by rw [upd_ne tp.symm]; exact ep, by rw [List.length_map]; exact small1000 (by omega), ?_⟩
        have st := sm.trans (same_upd (o := .tup [.int o.1, .int o.2]) nt)
        have hT3 : OffsAt (upd (upd H2 t (.tup [.int o.1, .int o.2])) p (.lst (ts.map V.ref ++ [.ref t]))) (ts ++ [t]) (os ++ [o]) := by
          refine OffsAt.snoc ((hT.same (same_upd nt)).wrote (xs := ts.map V.ref) (by rw [upd_ne tp.symm]; exact ep)) ?_
          rw [upd_ne tp]; exact upd_same
        have s3 : Same H (upd (upd H2 t (.tup [.int o.1, .int o.2])) p (.lst (ts.map V.ref ++ [.ref t]))) := same_at st np
        have e3 : (upd (upd H2 t (.tup [.int o.1, .int o.2])) p (.lst (ts.map V.ref ++ [.ref t]))) p = some (.lst ((ts ++ [t]).map V.ref)) := by rw [List.map_append]; exact upd_same
        have ok3 : OffsOk (os ++ [o]) := fun x hx => by
          rcases List.mem_append.mp hx with hx | hx
          · exact ok x hx
          · rw [List.mem_singleton.mp hx]; exact oo
        generalize upd (upd H2 t (.tup [.int o.1, .int o.2])) p (.lst (ts.map V.ref ++ [.ref t])) = H3 at hT3 s3 e3 ⊢
        have hS3 := s3.seq hS
        refine ⟨_, rfl, _, _, rfl, rfl, _, rfl, ite2 (fun e => ?_) (fun e => ?_)⟩
        · have e1 : (0 : Int) < 0 + (i : Int) := of_decide_eq_true e
          refine ⟨_, rfl, _, rfl, _, _, rfl, rfl, _, _, _, _, _, rfl, hS3, by omega, by omega, by decide, by decide, by decide, rfl, _, rfl, ite2 (fun e => ?_) (fun e => ?_)⟩
          · have hk : i - 1 < (ts ++ [t]).length := by rw [List.length_append]; omega
            have hk2 : i - 1 < (os ++ [o]).length := by rw [← hT3.1]; exact hk
            obtain ⟨o4, o5, o6⟩ := hT3.2 (i - 1) _ (List.getElem?_eq_getElem hk)
            refine ⟨_, rfl, _, rfl, _, _, rfl, rfl, p, _, _, _, rfl, rfl, lstAt e3, (atI_in (i := 0 + (i : Int) - 1) (by omega) (by rw [show (0 + (i : Int) - 1).toNat = i - 1 by omega, List.getElem?_map, List.getElem?_eq_getElem hk]; rfl)), _, rfl, _, rfl, p, _, _, i, rfl, rfl, e3, (by rw [Int.zero_add]; exact ixN_at (by rw [List.length_map, List.length_append, tl]; exact Nat.lt_succ_self _)), ?_⟩
            refine ⟨(ts ++ [t]).set i (ts ++ [t])[i - 1], (os ++ [o]).set i o4, _, _, _, _, rfl, same_at s3 np, ?_, (hT3.set o6).wrote e3, ?_, ?_⟩
            · rw [upd_same, List.map_set]
            · intro x hx
              rcases List.mem_or_eq_of_mem_set hx with hx | hx
              · exact ok3 x hx
              · rw [hx]; exact ok3 _ (List.mem_of_getElem? o5)
            · rw [List.length_set, List.length_append, ol]; rfl
          · exact ⟨_, _, _, _, _, _, rfl, s3, e3, hT3, ok3, by rw [List.length_append, ol]; rfl⟩
        · refine iteF ?_
          exact ⟨_, _, _, _, _, _, rfl, s3, e3, hT3, ok3, by rw [List.length_append, ol]; rfl⟩
    · rintro σ H' ⟨ts, os, y1, y2, y3, y4, rfl, sm, ep, hT, ok, ol⟩
      exact ⟨_, rfl, q _ p ts os np sm ep hT ok (by omega)⟩
end
end TK

namespace TK
open PySem PySem.Spec PyProof.Rows L2
/-! Euclid, in at most so many turns -/
def capM : Nat := 8000000000 * 9000
def Turn (g i x y : Nat) : Prop := Nat.gcd x y = g ∧ y ≤ 9000 ∧ ((i = 0 ∧ x * y ≤ capM) ∨ (y < x ∧ x * y * 2 ^ i ≤ 2 * capM))
theorem Turn.step {g i x y : Nat} (h : Turn g i x y) (hy : y ≠ 0) : Turn g (i + 1) y (x % y) := by
  obtain ⟨h1, h2, h3⟩ := h
  have yp : 0 < y := Nat.pos_of_ne_zero hy
  have m1 := Nat.mod_lt x yp
  refine ⟨?_, by omega, .inr ⟨m1, ?_⟩⟩
  · rw [← h1, Nat.gcd_comm x y, Nat.gcd_rec y x, Nat.gcd_comm]
  · rcases h3 with ⟨rfl, h3⟩ | ⟨h3, h4⟩
    · have : y * (x % y) ≤ x * y := by rw [Nat.mul_comm x y]; exact Nat.mul_le_mul_left _ (Nat.mod_le _ _)
      rw [show (2 : Nat) ^ (0 + 1) = 2 from rfl]
      omega
    · have d := Nat.div_add_mod x y
      have q1 : 1 ≤ x / y := (Nat.le_div_iff_mul_le yp).mpr (by omega)
      have q2 : y * 1 ≤ y * (x / y) := Nat.mul_le_mul_left _ q1
      have q3 : 2 * (x % y) ≤ x := by omega
      have q4 : y * (2 * (x % y)) ≤ y * x := Nat.mul_le_mul_left _ q3
      have q5 : y * (x % y) * 2 ≤ x * y := by rw [Nat.mul_assoc, Nat.mul_comm (x % y) 2, Nat.mul_comm x y]; exact q4
      calc y * (x % y) * 2 ^ (i + 1) = y * (x % y) * 2 * 2 ^ i := by rw [Nat.pow_succ', Nat.mul_assoc]; simp [Nat.mul_assoc]
        _ ≤ x * y * 2 ^ i := Nat.mul_le_mul_right _ q5
        _ ≤ 2 * capM := h4
theorem Turn.zero {g x : Nat} {i : Nat} (h : Turn g i x 0) : x = g := by
  rw [← h.1, Nat.gcd_zero_right]
theorem Turn.done {g x y : Nat} (h : Turn g 400 x y) : x = g := by
  obtain ⟨h1, h2, h3⟩ := id h
  rcases h3 with ⟨e, _⟩ | ⟨h3, h4⟩
  · exact absurd e (by decide)
  · by_cases hy : y = 0
    · subst hy; exact h.zero
    · exfalso
      have p : 1 ≤ x * y := Nat.mul_pos (by omega) (by omega)
      have : 1 * 2 ^ 400 ≤ x * y * 2 ^ 400 := Nat.mul_le_mul_right _ p
      have k : ¬ 1 * 2 ^ 400 ≤ 2 * capM := by decide +kernel
      exact k (Nat.le_trans this h4)
section
variable {P : Program} {w : World} {K : PySem.W.Frag} {mg : Str → Option Value} {base : Heap}
/-! _law_lowest -/
def spLowest : Sp := fun vs H Q _ => ∃ (a b : Int), vs = [.int a, .int b] ∧ 0 ≤ a ∧ a ≤ 8000000000 ∧ 1 ≤ b ∧ b ≤ 9000 ∧ ∀ H' t, Same H H' → H' t = some (.tup [.int (a / gcdI a b), .int (b / gcdI a b)]) → Q (.ref t) H'
theorem ok_L_lowest {f : Addr} {fd : FuncData} (F : Fun K "_law_lowest" "_law_lowest" s_L_lowest f fd) (m_range : mg "range" = none) (m_abs : mg "abs" = none) : FnOk P w K mg base CX0 1 f fd ["_law_above", "_law_below"] spLowest := by
  refine F.ok sc_L_lowest (fun vs H Q E h => ?_) (fun cdv A outer s H vs Q E hr h => ?_)
  · obtain ⟨a, b, rfl, _⟩ := h
    rfl
  · obtain ⟨a, b, rfl, a0, a1, b1, b9, q⟩ := h
    have g1 := gcd_bd (a := a) (b := b) b1
    have g2 : gcdI a b < 1073741824 := by omega
    have ea : (if a < 0 then -a else a) = ((a.natAbs : Nat) : Int) := by rw [if_neg (by omega)]; omega
    have eb : b = ((b.natAbs : Nat) : Int) := by omega
    refine ⟨_, (pss_cons (ps_par (i := 2) (j := 3) rfl sc_L_lowest.nd rfl rfl (by decide) rfl rfl (pa_cons (pe_callB call_abs (by rfl) m_abs (by decide +kernel) (pa_cons (pv 0) pa_nil)) (pa_cons (pv 1) pa_nil)) rfl)
  (pss_cons (ps_for PassesOwn.never rfl (pi_range1 (by rfl) m_range (pa_cons pe_int pa_nil)) (pg_name (i := 4) sc_L_lowest.nd rfl (.inl rfl))
    (pss_cons (ps_if (pt_cmpR op_eq (pv 3) pe_int (nomark _)) (pss_one ps_break) pss_nil)
  (pss_one (ps_par (i := 2) (j := 3) rfl sc_L_lowest.nd rfl rfl (by decide) rfl rfl (pa_cons (pv 3) (pa_cons (pe_op op_sub (pv 2) (pe_op op_mul (pv 3) (pe_op op_fdiv (pv 2) (pv 3)))) pa_nil)) rfl))))
  (pss_one (ps_ret (pe_tup (pa_cons (pe_op op_fdiv (pv 0) (pv 2)) (pa_cons (pe_op op_fdiv (pv 1) (pv 2)) pa_nil))))))), ?_⟩
    refine ⟨_, rfl, _, rfl, _, rfl, _, _, rfl, ?_⟩
    have fin : ∀ (H1 : Hp) (x : Int) (y5 y6 : Option V), Same H H1 → x = gcdI a b →
        ∀ t1, H1 t1 = none → Q (.ref t1) (upd H1 t1 (.tup [.int (a / x), .int (b / x)])) := fun H1 x _ _ s1 e t1 n1 => by
      subst e
      exact q _ t1 (s1.trans (same_upd n1)) upd_same
    refine ⟨_, rfl, by decide, by decide, for_range (fun i σ H' => Same H H' ∧ ∃ (x y : Nat) (y4 : Option V), σ = [some (.int a), some (.int b), some (.int (x : Int)), some (.int (y : Int)), y4] ∧ Turn (Nat.gcd a.natAbs b.natAbs) i x y) ⟨Same.refl _, a.natAbs, b.natAbs, none, ?_, rfl, by omega, .inl ⟨rfl, ?_⟩⟩ ?_ ?_⟩
    · rw [← ea, ← eb]; rfl
    · exact Nat.mul_le_mul (by omega) (by omega)
    · rintro i σ H' hi ⟨s1, x, y, y4, rfl, T⟩
      refine ⟨_, rfl, rfl, _, rfl, ite2 (fun e => ?_) (fun e => ?_)⟩
      · have e1 : (y : Int) = 0 := V.int.inj (of_decide_eq_true e)
        have e2 : y = 0 := by omega
        subst e2
        have e3 : (x : Int) = gcdI a b := by rw [T.zero]; rfl
        exact ⟨_, rfl, _, rfl, _, _, rfl, rfl, ⟨by omega, by omega⟩, _, rfl, _, rfl, _, _, rfl, rfl, ⟨by omega, by omega⟩, (show 2 ≤ sizeLine by decide), fun t1 n1 => fin _ _ none none s1 e3 t1 n1⟩
      · have hy : y ≠ 0 := fun z => e (decide_eq_true (by rw [z]; rfl))
        have y9 := T.2.1
        have st := T.step hy
        refine ⟨_, rfl, _, rfl, _, rfl, _, rfl, _, rfl, _, _, rfl, rfl, ⟨by omega, by omega⟩, _, _, rfl, rfl, .inl ⟨by omega, by omega⟩, _, _, rfl, rfl, _, _, rfl, ?_⟩
        refine ⟨s1, y, x % y, some (.int (0 + (i : Int))), ?_, st⟩
        show [some (V.int a), some (V.int b), some (V.int (y : Int)), some (V.int ((x : Int) - (y : Int) * ((x : Int) / (y : Int)))), some (V.int (0 + (i : Int)))] = _
        rw [show (x : Int) - (y : Int) * ((x : Int) / (y : Int)) = ((x % y : Nat) : Int) by rw [Int.natCast_emod, Int.emod_def]]
    · rintro σ H' ⟨s1, x, y, y4, rfl, T⟩
      have e3 : (x : Int) = gcdI a b := by rw [T.done]; rfl
      exact ⟨_, rfl, _, rfl, _, _, rfl, rfl, ⟨by omega, by omega⟩, _, rfl, _, rfl, _, _, rfl, rfl, ⟨by omega, by omega⟩, (show 2 ≤ sizeLine by decide), fun t1 n1 => fin _ _ none none s1 e3 t1 n1⟩
end
end TK

namespace TK
open PySem PySem.Spec PyProof.Rows L2
theorem KsOk.of_filter {n : Nat} (p : Nat → Bool) : KsOk n ((List.range n).filter p) := by
  unfold KsOk
  refine List.filter_congr fun k hk => ?_
  by_cases h : p k = true
  · rw [h]
    exact decide_eq_true (List.mem_filter.mpr ⟨hk, h⟩)
  · rw [Bool.eq_false_iff.mpr h]
    exact decide_eq_false fun z => h (List.mem_filter.mp z).2
theorem KsOk.nil {n : Nat} : KsOk n [] := by
  have := KsOk.of_filter (n := n) fun _ => false
  rwa [List.filter_eq_nil_iff.mpr (by simp)] at this
theorem KsOk.all {n : Nat} : KsOk n (List.range n) := by
  have := KsOk.of_filter (n := n) fun _ => true
  rwa [List.filter_eq_self.mpr (by simp)] at this
theorem range_one {n k : Nat} (h : k < n) : (List.range n).filter (fun j => decide (j = k)) = [k] := by
  induction n with
  | zero => omega
  | succ n ih =>
    rw [List.range_succ, List.filter_append]
    by_cases e : k = n
    · subst e
      rw [List.filter_eq_nil_iff.mpr fun j hj => by
        have := List.mem_range.mp hj
        simp; omega]
      simp
    · rw [ih (by omega)]
      have : ¬ n = k := fun z => e z.symm
      simp [this]
theorem KsOk.one {n k : Nat} (h : k < n) : KsOk n [k] := by
  have := KsOk.of_filter (n := n) fun j => decide (j = k)
  rwa [range_one h] at this
theorem rgV_k (n : Nat) : rgV 0 (n : Int) = (List.range n).map kI := by
  unfold rgV
  rw [show ((n : Int) - 0).toNat = n by omega]
  refine List.map_congr_left fun k _ => ?_
  rw [Int.zero_add]
  rfl
/-! the same data -/
theorem eq_two {H : Hp} {t u : Addr} {x y : V} (h1 : H t = some (.tup [x, y])) (h2 : H u = some (.tup [x, y])) (fx : flat1 x = true) (fy : flat1 y = true) (n : Nat) : Eq2 H (n + 1) (.ref t) (.ref u) := by
  refine eq_flat (.inl h1) (.inl h2) (show (2 : Nat) ≤ 1000 by decide) (fun z hz => ?_) n
  rcases List.mem_cons.mp hz with rfl | hz
  · exact fx
  rcases List.mem_cons.mp hz with rfl | hz
  · exact fy
  · cases hz
theorem eq_item {H : Hp} {ts ts' : List Addr} {os : List Off} (a : OffsAt H ts os) (b : OffsAt H ts' os) {i : Nat} {x y : V} (hx : (ts.map V.ref)[i]? = some x) (hy : (ts'.map V.ref)[i]? = some y) (n : Nat) : Eq2 H (n + 1) x y := by
  obtain ⟨t, o, rfl, _, e1, e2⟩ := a.get hx
  obtain ⟨t', o', rfl, _, e3, e4⟩ := b.get hy
  have : o = o' := Option.some.inj (e1.symm.trans e3)
  subst this
  exact eq_two e2 e4 rfl rfl n
theorem eq_offsL {H : Hp} {p q : Addr} {ts ts' : List Addr} {os : List Off} (h1 : H p = some (.lst (ts.map V.ref))) (h2 : H q = some (.lst (ts'.map V.ref))) (a : OffsAt H ts os) (b : OffsAt H ts' os) (l8 : os.length ≤ 8) (n : Nat) : Eq2 H (n + 2) (.ref p) (.ref q) :=
  .inr ⟨p, q, _, _, rfl, rfl, .inl ⟨h1, h2⟩, by rw [List.length_map, List.length_map, a.1, b.1], by rw [List.length_map, a.1]; omega, fun _ _ _ hx hy => eq_item a b hx hy n⟩
theorem eq_offsT {H : Hp} {p q : Addr} {ts ts' : List Addr} {os : List Off} (h1 : H p = some (.tup (ts.map V.ref))) (h2 : H q = some (.tup (ts'.map V.ref))) (a : OffsAt H ts os) (b : OffsAt H ts' os) (l8 : os.length ≤ 8) (n : Nat) : Eq2 H (n + 2) (.ref p) (.ref q) :=
  .inr ⟨p, q, _, _, rfl, rfl, .inr ⟨.inl h1, .inl h2⟩, by rw [List.length_map, List.length_map, a.1, b.1], by rw [List.length_map, a.1]; omega, fun _ _ _ hx hy => eq_item a b hx hy n⟩
theorem eq_parts {H : Hp} {t u p q : Addr} {ts ts' : List Addr} {os : List Off} {b : Int} (e1 : H t = some (.tup [.ref p, .int b])) (e2 : H u = some (.tup [.ref q, .int b])) (h1 : H p = some (.tup (ts.map V.ref))) (h2 : H q = some (.tup (ts'.map V.ref))) (a : OffsAt H ts os) (c : OffsAt H ts' os) (l8 : os.length ≤ 8) : Eq2 H 3 (.ref t) (.ref u) := by
  refine .inr ⟨t, u, _, _, rfl, rfl, .inr ⟨.inl e1, .inl e2⟩, rfl, (show (2 : Nat) < 2 ^ 40 by decide), fun i x y hx hy => ?_⟩
  match i, hx, hy with
  | 0, hx, hy =>
    cases Option.some.inj hx; cases Option.some.inj hy
    exact eq_offsT h1 h2 a c l8 0
  | 1, hx, hy =>
    cases Option.some.inj hx; cases Option.some.inj hy
    exact .inl ⟨rfl, rfl⟩
  | i + 2, hx, _ => simp at hx
theorem eq_mean {H : Hp} {t u : Addr} {os : List Off} {b : Int} {ks : List Nat} (h1 : H t = some (meanT os b ks)) (h2 : H u = some (meanT os b ks)) : Eq2 H 3 (.ref t) (.ref u) := eq_two h1 h2 rfl rfl 2
/-- guests are made -/
theorem make_goG {K : PySem.W.Frag} {C : Addr} {H : Hp} {x dx a : Addr} {ts : List Addr} {os : List Off} {b : Int} {R : Hp → Prop} {E : XK} (n1 : H x = none) (n2 : H dx = none) (ne : dx ≠ x) (hS : SqS K H a (ts.map V.ref)) (hT : OffsAt H ts os) (ok : OffsOk os) (l8 : os.length ≤ 8) (b0 : 1 ≤ b) (b1 : b ≤ 1000)
    (k : ∀ H', GuAt C H' x os b → Same H H' → R H') : spInitG K C [.ref x, .ref a, .int b] (upd (upd H dx (.own x)) x (.ins C dx [])) (fun v H2 => v = .non ∧ R H2) E := by
  have sdx := same_upd (o := .own x) n2
  have nmm : (upd H dx (.own x)) x = none := by rw [upd_ne ne.symm]; exact n1
  have sm := sdx.trans (same_upd (o := .ins C dx []) nmm)
  exact ⟨x, a, dx, ts, os, b, rfl, upd_same, hS.same sm, hT.same sm, ok, l8, b0, b1, fun H' tk fr => ⟨rfl, k H' tk fun c o e => fr c o (sm _ _ e) (ne_of_none e n1)⟩⟩
/-- what holds of values that are no guests -/
structure OddT (K : PySem.W.Frag) (C : Addr) : Prop where
  nN : PySem.W.notFirst K C (.type "NoneType") = true
  nS : PySem.W.notFirst K C (.type "str") = true
  nT : PySem.W.notFirst K C (.type "tuple") = true
  kN : PySem.W.kitOne K (.type "NoneType") (.ref C) = some false
  kS : PySem.W.kitOne K (.type "str") (.ref C) = some false
  kT : PySem.W.kitOne K (.type "tuple") (.ref C) = some false
/-- what guests are not equal to -/
inductive Oth (C : Addr) (H : Hp) (os : List Off) (b : Int) : V → Prop where
  | gu {p : Addr} {qs : List Off} {c : Int} (g : GuAt C H p qs c) (n : ¬ (os = qs ∧ b = c)) : Oth C H os b (.ref p)
  | non : Oth C H os b .non
  | str (z : Str) : Oth C H os b (.str z)
  | tup {a : Addr} {xs : List V} (e : H a = some (.tup xs)) : Oth C H os b (.ref a)
theorem GuAt.frame {C : Addr} {H H' : Hp} {p : Addr} {os : List Off} {b : Int} (h : GuAt C H p os b) (s : ∀ c o, H c = some o → (∀ ys, o ≠ .lst ys) → H' c = some o) : GuAt C H' p os b := by
  obtain ⟨dx, a, ts, h1, h2, h3⟩ := h
  exact ⟨dx, a, ts, s _ _ h1 (by intro _ z; cases z), s _ _ h2 (by intro _ z; cases z), h3.1, fun i t e => by
    obtain ⟨o, g1, g2⟩ := h3.2 i t e
    exact ⟨o, g1, s _ _ g2 (by intro _ z; cases z)⟩⟩
theorem Oth.frame {C : Addr} {H H' : Hp} {os : List Off} {b : Int} {x : V} (h : Oth C H os b x) (s : ∀ c o, H c = some o → (∀ ys, o ≠ .lst ys) → H' c = some o) : Oth C H' os b x := by
  cases h with
  | gu g n => exact .gu (g.frame s) n
  | non => exact .non
  | str z => exact .str z
  | tup e => exact .tup (s _ _ e (by intro _ z; cases z))
theorem Oth.same {C : Addr} {H H' : Hp} {os : List Off} {b : Int} {x : V} (h : Oth C H os b x) (s : Same H H') : Oth C H' os b x := h.frame fun c o e _ => s c o e
theorem Oth.wrote {C : Addr} {H : Hp} {os : List Off} {b : Int} {x : V} {D : Addr} {xs : List V} {o : HO} (h : Oth C H os b x) (e : H D = some (.lst xs)) : Oth C (upd H D o) os b x := h.frame fun c z ez n => by
  rw [upd_ne (fun q => by subst q; rw [e] at ez; exact n xs (Option.some.inj ez).symm)]
  exact ez
theorem Oth.isIn {K : PySem.W.Frag} {C : Addr} {H : Hp} {os : List Off} {b : Int} {x : V} (T : OddT K C) (h : Oth C H os b x) : IsIn H x C ∨ Odd K C H x := by
  cases h with
  | gu g n => obtain ⟨dx, a, ts, h1, _⟩ := g; exact .inl ⟨_, dx, _, rfl, h1⟩
  | non => exact .inr (.non T.nN)
  | str z => exact .inr (.str z T.nS)
  | tup e => exact .inr (.tup e T.nT)
theorem Oth.eq {K : PySem.W.Frag} {C : Addr} {H : Hp} {os : List Off} {b : Int} {x : V} {p : Addr} {Q : VK} {E : XK} (T : OddT K C) (h : Oth C H os b x) (g : GuAt C H p os b) (q : Q (.bl false) H) : spEqG K C [.ref p, x] H Q E := by
  refine ⟨p, x, os, b, rfl, g, ?_⟩
  cases h with
  | @gu p' qs c g n =>
    refine .inl ⟨p', qs, c, rfl, g, ?_⟩
    rw [show (decide (os = qs) && decide (b = c)) = false by
      by_cases e1 : os = qs <;> by_cases e2 : b = c <;> simp [e1, e2]
      exact n ⟨e1, e2⟩]
    exact q
  | non => exact .inr ⟨_, .base .non, T.kN, q⟩
  | str z => exact .inr ⟨_, .base (.str z), T.kS, q⟩
  | tup e => exact .inr ⟨_, .base (.tup e), T.kT, q⟩
theorem OffsAt.drop1 {H : Hp} {ts : List Addr} {os : List Off} (h : OffsAt H ts os) : OffsAt H (ts.drop 1) (os.drop 1) := by
  refine ⟨by rw [List.length_drop, List.length_drop, h.1], fun i t e => ?_⟩
  rw [List.getElem?_drop] at e ⊢
  exact h.2 _ t e
def otherB (b : Int) : Int := b - 1 + 2 * (if decide (V.int b = V.int 1) = true then 1 else 0)
theorem otherB_ok {b : Int} (h0 : 1 ≤ b) (h1 : b ≤ 1000) : 1 ≤ otherB b ∧ otherB b ≤ 1000 ∧ b ≠ otherB b := by
  unfold otherB
  by_cases e : b = 1
  · subst e
    rw [if_pos (by decide)]
    omega
  · rw [if_neg (by simp [e])]
    omega
end TK

namespace TK
open PySem PySem.Spec PyProof.Rows L2
/-! lowest terms -/
def red (a b : Int) : Int × Int := (a / gcdI a b, b / gcdI a b)
theorem red_mul {a b : Int} (h0 : 0 ≤ a) (hb : 1 ≤ b) : ∃ g : Int, 0 < g ∧ a = (red a b).1 * g ∧ b = (red a b).2 * g ∧ 1 ≤ (red a b).2 ∧ 0 ≤ (red a b).1 ∧ Nat.Coprime (red a b).1.natAbs (red a b).2.natAbs := by
  have g0 := (gcd_bd (a := a) (b := b) hb).1
  have d1 : gcdI a b ∣ a := by unfold gcdI; exact Int.ofNat_dvd_left.mpr (Nat.gcd_dvd_left _ _)
  have d2 : gcdI a b ∣ b := by unfold gcdI; exact Int.ofNat_dvd_left.mpr (Nat.gcd_dvd_right _ _)
  have e1 : a / gcdI a b * gcdI a b = a := Int.ediv_mul_cancel d1
  have e2 : b / gcdI a b * gcdI a b = b := Int.ediv_mul_cancel d2
  refine ⟨gcdI a b, g0, e1.symm, e2.symm, ?_, Int.ediv_nonneg h0 (by omega), ?_⟩
  · show 1 ≤ b / gcdI a b
    have : 0 < b / gcdI a b := Int.ediv_pos_of_pos_of_dvd (by omega) (by omega) d2
    omega
  · show Nat.Coprime (a / gcdI a b).natAbs (b / gcdI a b).natAbs
    rw [Int.natAbs_ediv_of_dvd d1, Int.natAbs_ediv_of_dvd d2]
    unfold gcdI
    rw [Int.natAbs_natCast]
    exact Nat.coprime_div_gcd_div_gcd (Nat.gcd_pos_of_pos_right _ (by omega))
theorem red_cross {a b : Int} (h0 : 0 ≤ a) (hb : 1 ≤ b) : (red a b).1 * b = a * (red a b).2 := by
  obtain ⟨g, g0, e1, e2, _⟩ := red_mul h0 hb
  generalize red a b = r at *
  subst e1
  subst e2
  rw [Int.mul_assoc, Int.mul_comm r.2 g]
/-- cross products with the lowest terms -/
theorem red_le {a b c d : Int} (h0 : 0 ≤ a) (hb : 1 ≤ b) : c * (red a b).2 ≤ (red a b).1 * d ↔ c * b ≤ a * d := by
  obtain ⟨g, g0, e1, e2, _⟩ := red_mul h0 hb
  generalize red a b = r at *
  subst e1
  subst e2
  rw [show c * (r.2 * g) = c * r.2 * g from (Int.mul_assoc ..).symm, show r.1 * g * d = r.1 * d * g by rw [Int.mul_assoc, Int.mul_comm g d, ← Int.mul_assoc]]
  exact (Int.mul_le_mul_right g0).symm
theorem red_le' {a b c d : Int} (h0 : 0 ≤ a) (hb : 1 ≤ b) : (red a b).1 * d ≤ c * (red a b).2 ↔ a * d ≤ c * b := by
  obtain ⟨g, g0, e1, e2, _⟩ := red_mul h0 hb
  generalize red a b = r at *
  subst e1
  subst e2
  rw [show c * (r.2 * g) = c * r.2 * g from (Int.mul_assoc ..).symm, show r.1 * g * d = r.1 * d * g by rw [Int.mul_assoc, Int.mul_comm g d, ← Int.mul_assoc]]
  exact (Int.mul_le_mul_right g0).symm
theorem red_uniq {a b c d : Int} (h0 : 0 ≤ a) (hb : 1 ≤ b) (h1 : 0 ≤ c) (hd : 1 ≤ d) (e : a * d = c * b) : red a b = red c d := by
  obtain ⟨g, g0, a1, a2, a3, a4, a5⟩ := red_mul h0 hb
  obtain ⟨k, k0, c1, c2, c3, c4, c5⟩ := red_mul h1 hd
  generalize red a b = r at *
  generalize red c d = s at *
  have e2 : r.1 * s.2 = s.1 * r.2 := by
    rw [a1, a2, c1, c2] at e
    have : (r.1 * s.2) * (g * k) = (s.1 * r.2) * (g * k) := by
      calc r.1 * s.2 * (g * k) = r.1 * g * (s.2 * k) := by simp only [Int.mul_assoc, Int.mul_left_comm, Int.mul_comm]
        _ = s.1 * k * (r.2 * g) := e
        _ = s.1 * r.2 * (g * k) := by simp only [Int.mul_assoc, Int.mul_left_comm, Int.mul_comm]
    exact Int.eq_of_mul_eq_mul_right (Int.ne_of_gt (Int.mul_pos g0 k0)) this
  have n : r.1.natAbs * s.2.natAbs = s.1.natAbs * r.2.natAbs := by rw [← Int.natAbs_mul, ← Int.natAbs_mul, e2]
  have q1 : r.2.natAbs ∣ s.2.natAbs := (Nat.Coprime.symm a5).dvd_of_dvd_mul_left ⟨s.1.natAbs, by rw [n, Nat.mul_comm]⟩
  have q2 : s.2.natAbs ∣ r.2.natAbs := (Nat.Coprime.symm c5).dvd_of_dvd_mul_left ⟨r.1.natAbs, by rw [← n, Nat.mul_comm]⟩
  have q3 := Nat.dvd_antisymm q1 q2
  have q4 : r.2 = s.2 := by omega
  have q5 : r.1 = s.1 := by
    rw [q4] at e2
    exact Int.eq_of_mul_eq_mul_right (by omega) e2
  exact Prod.ext q5 q4
theorem red_zero : red 0 1 = (0, 1) := by decide
/-! the order by worth -/
def bef (v : Nat → Int) (j k : Nat) : Prop := v k < v j ∨ (v j = v k ∧ j < k)
instance {v : Nat → Int} {j k : Nat} : Decidable (bef v j k) := inferInstanceAs (Decidable (_ ∨ _))
theorem bef_asymm {v : Nat → Int} {j k : Nat} (h : bef v j k) : ¬ bef v k j := by
  unfold bef at *
  omega
theorem bef_irr {v : Nat → Int} {k : Nat} : ¬ bef v k k := by
  unfold bef
  omega
def aheadN (n : Nat) (v : Nat → Int) (k : Nat) : Nat := ((List.range n).filter fun j => decide (bef v j k)).length
structure Ordd (n : Nat) (v : Nat → Int) (S : List Nat) : Prop where
  pm : S.Perm (List.range n)
  pw : S.Pairwise (bef v)
theorem Ordd.ahead {n : Nat} {v : Nat → Int} {A B : List Nat} {k : Nat} (h : Ordd n v (A ++ k :: B)) : aheadN n v k = A.length := by
  unfold aheadN
  rw [← (h.pm.filter _).length_eq, List.filter_append, List.filter_cons, if_neg (by simp [bef_irr])]
  obtain ⟨_, h2, h3⟩ := List.pairwise_append.mp h.pw
  obtain ⟨h4, _⟩ := List.pairwise_cons.mp h2
  rw [List.filter_eq_self.mpr fun j hj => decide_eq_true (h3 j hj k List.mem_cons_self), List.filter_eq_nil_iff.mpr fun j hj => by
    simpa using bef_asymm (h4 j hj)]
  rw [List.append_nil]
def capT : Option Int → List Nat → List Nat
  | none, l => l
  | some c, l => l.take c.toNat
def capL : Option Int → Nat → Prop
  | none, _ => True
  | some c, a => (a : Int) < c
instance {c : Option Int} {a : Nat} : Decidable (capL c a) := by cases c <;> unfold capL <;> infer_instance
def capO : Option Int → Nat → Prop
  | none, _ => True
  | some c, a => (a : Int) ≤ c
instance {c : Option Int} {a : Nat} : Decidable (capO c a) := by cases c <;> unfold capO <;> infer_instance
def capN (c : Option Int) : Prop := ∀ x, c = some x → 0 ≤ x
def pickS (v : Nat → Int) (cap : Option Int) (S : List Nat) : List Nat := capT cap (S.filter fun k => decide (0 < v k))
def pickL (n : Nat) (v : Nat → Int) (cap : Option Int) : List Nat := (List.range n).filter fun k => decide (0 < v k) && decide (capL cap (aheadN n v k))
/-- who is worth something stands in front -/
theorem Ordd.front {n : Nat} {v : Nat → Int} {S : List Nat} (h : S.Pairwise (bef v)) : ∃ Z, S = (S.filter fun k => decide (0 < v k)) ++ Z ∧ ∀ z ∈ Z, v z ≤ 0 := by
  induction S with
  | nil => exact ⟨[], rfl, fun _ h => nomatch h⟩
  | cons a S ih =>
    obtain ⟨h1, h2⟩ := List.pairwise_cons.mp h
    by_cases ha : 0 < v a
    · obtain ⟨Z, e, hz⟩ := ih h2
      refine ⟨Z, ?_, hz⟩
      rw [List.filter_cons, if_pos (decide_eq_true ha), List.cons_append, ← e]
    · refine ⟨a :: S, ?_, fun z hz => ?_⟩
      · rw [List.filter_eq_nil_iff.mpr fun k hk => ?_]
        · rfl
        · have : v k ≤ 0 := by
            rcases List.mem_cons.mp hk with rfl | hk
            · omega
            · have := h1 k hk
              unfold bef at this
              omega
          simp; omega
      · rcases List.mem_cons.mp hz with rfl | hz
        · omega
        · have := h1 z hz
          unfold bef at this
          omega
theorem pick_mem {n : Nat} {v : Nat → Int} {S : List Nat} (h : Ordd n v S) {cap : Option Int} (hc : capN cap) (k : Nat) : k ∈ pickS v cap S ↔ k ∈ pickL n v cap := by
  obtain ⟨Z, e, hz⟩ := Ordd.front (n := n) h.pw
  have nd : S.Nodup := h.pm.nodup_iff.mpr List.nodup_range
  unfold pickL
  rw [List.mem_filter, List.mem_range, Bool.and_eq_true, decide_eq_true_iff, decide_eq_true_iff]
  have hk : k ∈ S ↔ k < n := by rw [h.pm.mem_iff, List.mem_range]
  unfold pickS
  generalize eW : (S.filter fun k => decide (0 < v k)) = W at e
  have hW : ∀ k, k ∈ W ↔ k ∈ S ∧ 0 < v k := fun k => by rw [← eW, List.mem_filter, decide_eq_true_iff]
  have pos : ∀ (A B : List Nat), W = A ++ k :: B → aheadN n v k = A.length := fun A B ew => by
    have : S = A ++ k :: (B ++ Z) := by rw [e, ew]; simp
    rw [this] at h
    exact h.ahead
  cases cap with
  | none =>
    show k ∈ W ↔ _
    rw [hW, hk]
    exact ⟨fun ⟨a, b⟩ => ⟨a, b, trivial⟩, fun ⟨a, b, _⟩ => ⟨a, b⟩⟩
  | some c =>
    have c0 := hc c rfl
    show k ∈ W.take c.toNat ↔ _
    constructor
    · intro hm
      obtain ⟨h1, h2⟩ := (hW k).mp (List.mem_of_mem_take hm)
      refine ⟨hk.mp h1, h2, ?_⟩
      obtain ⟨A, B, eAB⟩ := List.append_of_mem hm
      have ew : W = A ++ k :: (B ++ W.drop c.toNat) := by
        conv => lhs; rw [← List.take_append_drop c.toNat W, eAB]
        simp
      show ((aheadN n v k : Nat) : Int) < c
      rw [pos A _ ew]
      have : (W.take c.toNat).length ≤ c.toNat := by rw [List.length_take]; omega
      rw [eAB, List.length_append, List.length_cons] at this
      omega
    · rintro ⟨h1, h2, h3⟩
      obtain ⟨A, B, eAB⟩ := List.append_of_mem ((hW k).mpr ⟨hk.mpr h1, h2⟩)
      have h4 : ((aheadN n v k : Nat) : Int) < c := h3
      rw [pos A B eAB] at h4
      rw [eAB, List.take_append]
      refine List.mem_append_right _ ?_
      rw [show c.toNat - A.length = (c.toNat - A.length - 1) + 1 by omega, List.take_succ_cons]
      exact List.mem_cons_self
theorem pick_nd {n : Nat} {v : Nat → Int} {S : List Nat} (h : Ordd n v S) {cap : Option Int} : (pickS v cap S).Nodup := by
  have nd : (S.filter fun k => decide (0 < v k)).Nodup := List.Nodup.sublist List.filter_sublist (h.pm.nodup_iff.mpr List.nodup_range)
  unfold pickS
  cases cap with
  | none => exact nd
  | some c => exact List.Nodup.sublist (List.take_sublist _ _) nd
theorem pickL_nd {n : Nat} {v : Nat → Int} {cap : Option Int} : (pickL n v cap).Nodup := List.Nodup.sublist List.filter_sublist List.nodup_range
theorem pick_perm {n : Nat} {v : Nat → Int} {S : List Nat} (h : Ordd n v S) {cap : Option Int} (hc : capN cap) : (pickS v cap S).Perm (pickL n v cap) := (List.perm_ext_iff_of_nodup (pick_nd h) pickL_nd).mpr (pick_mem h hc)

theorem pickL_ok {n : Nat} {v : Nat → Int} {cap : Option Int} : KsOk n (pickL n v cap) := KsOk.of_filter _
end TK

namespace TK
open PySem PySem.Spec PyProof.Rows L2
theorem perm_sum {l m : List Int} (h : l.Perm m) : l.sum = m.sum := by
  induction h with
  | nil => rfl
  | cons x _ ih => simp [ih]
  | swap x y l => simp only [List.sum_cons]; omega
  | trans _ _ a b => exact a.trans b
theorem sum_erase {g : Nat → Int} {P : List Nat} {a : Nat} (h : a ∈ P) : (P.map g).sum = g a + ((P.erase a).map g).sum := by
  have := perm_sum ((List.perm_cons_erase h).map g)
  rw [this, List.map_cons, List.sum_cons]
theorem sum_sub {g : Nat → Int} : ∀ {A P : List Nat}, A.Nodup → (∀ k ∈ A, k ∈ P) → (∀ k ∈ P, 0 ≤ g k) → (A.map g).sum ≤ (P.map g).sum
  | [], P, _, _, h => by
    rw [List.map_nil, List.sum_nil]
    induction P with
    | nil => simp
    | cons p P ih =>
      rw [List.map_cons, List.sum_cons]
      have := h p List.mem_cons_self
      have := ih (fun k hk => by cases hk) fun k hk => h k (List.mem_cons_of_mem _ hk)
      omega
  | a :: A, P, nd, s, h => by
    obtain ⟨n1, n2⟩ := List.nodup_cons.mp nd
    have ha := s a List.mem_cons_self
    rw [sum_erase ha, List.map_cons, List.sum_cons]
    have := sum_sub (A := A) (P := P.erase a) n2 (fun k hk => (List.mem_erase_of_ne (fun e => n1 (by rw [← e]; exact hk))).mpr (s k (List.mem_cons_of_mem _ hk))) fun k hk => h k (List.mem_of_mem_erase hk)
    omega
theorem sum_le {f g : Nat → Int} : ∀ {A : List Nat}, (∀ k ∈ A, f k ≤ g k) → (A.map f).sum ≤ (A.map g).sum
  | [], _ => by simp
  | a :: A, h => by
    have h1 := h a List.mem_cons_self
    have h2 := sum_le (A := A) fun k hk => h k (List.mem_cons_of_mem _ hk)
    simp only [List.map_cons, List.sum_cons]
    omega
theorem sum_add (t : Int) (g : Nat → Int) : ∀ A : List Nat, (A.map fun k => t + g k).sum = t * (A.length : Int) + (A.map g).sum
  | [] => by simp
  | a :: A => by
    simp only [List.map_cons, List.sum_cons, List.length_cons, sum_add t g A]
    rw [Int.natCast_add, Int.mul_add]
    simp
    omega
theorem sum_if (P : List Nat) (g : Nat → Int) : ∀ A : List Nat, (A.map fun k => if k ∈ P then g k else 0).sum = ((A.filter fun k => decide (k ∈ P)).map g).sum
  | [] => by simp
  | a :: A => by
    rw [List.map_cons, List.sum_cons, List.filter_cons, sum_if P g A]
    by_cases h : a ∈ P
    · rw [if_pos h, if_pos (decide_eq_true h), List.map_cons, List.sum_cons]
    · rw [if_neg h, if_neg (by simp [h]), Int.zero_add]
theorem sum_cong {f g : Nat → Int} {A : List Nat} (h : ∀ k ∈ A, f k = g k) : (A.map f).sum = (A.map g).sum := by rw [List.map_congr_left h]
/-- the threshold -/
theorem pick_tau {n : Nat} {v : Nat → Int} {S : List Nat} (h : Ordd n v S) {cap : Option Int} : ∃ t : Int, 0 ≤ t ∧ (∀ k ∈ pickS v cap S, t ≤ v k) ∧ (∀ k ∈ S, k ∉ pickS v cap S → v k ≤ t) ∧ (t = 0 ∨ ∃ c, cap = some c ∧ c.toNat ≤ (pickS v cap S).length) := by
  obtain ⟨Z, e, hz⟩ := Ordd.front (n := n) h.pw
  unfold pickS
  generalize eW : (S.filter fun k => decide (0 < v k)) = W at e
  have hW : ∀ k ∈ W, 0 < v k := fun k hk => by
    rw [← eW, List.mem_filter, decide_eq_true_iff] at hk
    exact hk.2
  have full : ∃ t : Int, 0 ≤ t ∧ (∀ k ∈ W, t ≤ v k) ∧ (∀ k ∈ S, k ∉ W → v k ≤ t) ∧ t = 0 := by
    refine ⟨0, Int.le_refl _, fun k hk => Int.le_of_lt (hW k hk), fun k hk hn => ?_, rfl⟩
    rw [e] at hk
    exact (List.mem_append.mp hk).elim (fun h => absurd h hn) (hz k)
  cases cap with
  | none =>
    obtain ⟨t, t0, t1, t2, t3⟩ := full
    exact ⟨t, t0, t1, t2, .inl t3⟩
  | some c =>
    show ∃ t : Int, 0 ≤ t ∧ (∀ k ∈ W.take c.toNat, t ≤ v k) ∧ (∀ k ∈ S, k ∉ W.take c.toNat → v k ≤ t) ∧ (t = 0 ∨ ∃ c', some c = some c' ∧ c'.toNat ≤ (W.take c.toNat).length)
    by_cases hl : W.length ≤ c.toNat
    · rw [List.take_of_length_le hl]
      obtain ⟨t, t0, t1, t2, t3⟩ := full
      exact ⟨t, t0, t1, t2, .inl t3⟩
    · have hl2 : c.toNat < W.length := by omega
      have ed : W = W.take c.toNat ++ W[c.toNat] :: W.drop (c.toNat + 1) := by
        conv => lhs; rw [← List.take_append_drop c.toNat W, List.drop_eq_getElem_cons hl2]
      have es : S = W.take c.toNat ++ W[c.toNat] :: (W.drop (c.toNat + 1) ++ Z) := by
        rw [e]
        exact (congrArg (· ++ Z) ed).trans (by rw [List.append_assoc, List.cons_append])
      have pw := h.pw
      rw [es] at pw
      obtain ⟨_, p2, p3⟩ := List.pairwise_append.mp pw
      obtain ⟨p4, _⟩ := List.pairwise_cons.mp p2
      refine ⟨v W[c.toNat], Int.le_of_lt (hW _ (List.getElem_mem hl2)), fun k hk => ?_, fun k hk hn => ?_, .inr ⟨c, rfl, by rw [List.length_take]; omega⟩⟩
      · have := p3 k hk _ List.mem_cons_self
        unfold bef at this
        omega
      · rw [es] at hk
        rcases List.mem_append.mp hk with hk | hk
        · exact absurd hk hn
        · rcases List.mem_cons.mp hk with rfl | hk
          · exact Int.le_refl _
          · have := p4 k hk
            unfold bef at this
            omega
theorem pick_max {n : Nat} {v : Nat → Int} {S : List Nat} (h : Ordd n v S) {cap : Option Int} {L : List Nat} (kL : KsOk n L) (cL : capO cap L.length) : (L.map v).sum ≤ ((pickS v cap S).map v).sum := by
  obtain ⟨t, t0, t1, t2, t3⟩ := pick_tau h (cap := cap)
  have nL : L.Nodup := by rw [← kL]; exact List.Nodup.sublist List.filter_sublist List.nodup_range
  have nP := pick_nd h (cap := cap)
  generalize pickS v cap S = P at *
  have s1 : (L.map v).sum ≤ (L.map fun k => t + (if k ∈ P then v k - t else 0)).sum := sum_le fun k hk => by
    have kS : k ∈ S := h.pm.mem_iff.mpr (List.mem_range.mpr (kL.lt k hk))
    by_cases e : k ∈ P
    · rw [if_pos e]; omega
    · rw [if_neg e]
      have := t2 k kS e
      omega
  rw [sum_add t (fun k => if k ∈ P then v k - t else 0) L, sum_if P (fun k => v k - t) L] at s1
  have s2 : ((L.filter fun k => decide (k ∈ P)).map fun k => v k - t).sum ≤ (P.map fun k => v k - t).sum := sum_sub (List.Nodup.sublist List.filter_sublist nL) (fun k hk => by simpa using (List.mem_filter.mp hk).2) fun k hk => by
    have := t1 k hk
    omega
  have s3 : (P.map v).sum = t * (P.length : Int) + (P.map fun k => v k - t).sum := by
    rw [← sum_add t (fun k => v k - t) P]
    exact sum_cong fun k _ => by omega
  have s4 : t * (L.length : Int) ≤ t * (P.length : Int) := by
    rcases t3 with rfl | ⟨c, rfl, hc⟩
    · simp
    · have : (L.length : Int) ≤ c := cL
      exact Int.mul_le_mul_of_nonneg_left (by omega) t0
  omega
/-! excesses -/
def overF (os : List Off) (r : Int × Int) (k : Nat) : Int := (os.getD k (0, 1)).2 * ((os.getD k (0, 1)).1 * r.2 - r.1)
def exF (os : List Off) (r : Int × Int) (ks : List Nat) : Int := (ks.map (overF os r)).sum
theorem ex_eq (os : List Off) (r : Int × Int) : ∀ ks : List Nat, exF os r ks = r.2 * topF os ks - r.1 * wgtF os ks
  | [] => by simp [exF, topF, wgtF]
  | k :: ks => by
    have ih := ex_eq os r ks
    unfold exF topF wgtF at *
    simp only [List.map_cons, List.sum_cons, ih, overF]
    rw [Int.mul_add, Int.mul_add, Int.mul_sub]
    have e1 : (os.getD k (0, 1)).2 * ((os.getD k (0, 1)).1 * r.2) = r.2 * ((os.getD k (0, 1)).1 * (os.getD k (0, 1)).2) := by simp only [Int.mul_assoc, Int.mul_left_comm, Int.mul_comm]
    have e2 : (os.getD k (0, 1)).2 * r.1 = r.1 * (os.getD k (0, 1)).2 := Int.mul_comm ..
    rw [e1, e2]
    omega
def Allow (n : Nat) (cap : Option Int) (ks : List Nat) : Prop := KsOk n ks ∧ capO cap ks.length
def meanF (os : List Off) (b : Int) (ks : List Nat) : Int × Int := red (topF os ks) (b + wgtF os ks)
/-- a rate that some lot has -/
structure Rate (os : List Off) (b : Int) (cap : Option Int) (r : Int × Int) : Prop where
  lot : ∃ L, Allow os.length cap L ∧ exF os r L = r.1 * b
  low : ∃ x y : Int, 0 ≤ x ∧ 1 ≤ y ∧ r = red x y
  p1 : 0 ≤ r.1
  p2 : 1 ≤ r.2
theorem Rate.zero {os : List Off} {b : Int} {cap : Option Int} (hc : capN cap) : Rate os b cap (0, 1) := by
  refine ⟨⟨[], ⟨.nil, ?_⟩, by simp [exF]⟩, ⟨0, 1, by decide, by decide, red_zero.symm⟩, by decide, by decide⟩
  cases cap with
  | none => exact trivial
  | some c => exact hc c rfl
section
variable {os : List Off} {b : Int} {cap : Option Int} (ok : OffsOk os) (l8 : os.length ≤ 8) (b1 : 1 ≤ b)
include ok l8 b1
theorem mean_ex {L : List Nat} (kL : KsOk os.length L) : exF os (meanF os b L) L = (meanF os b L).1 * b := by
  have t8 := top_bd ok l8 kL
  have w8 := wgt_bd ok l8 kL
  have := red_cross (a := topF os L) (b := b + wgtF os L) t8.1 (by omega)
  rw [ex_eq]
  unfold meanF
  rw [Int.mul_add] at this
  rw [Int.mul_comm (red (topF os L) (b + wgtF os L)).2]
  omega
theorem mean_rate {L : List Nat} (aL : Allow os.length cap L) : Rate os b cap (meanF os b L) := by
  have t8 := top_bd ok l8 aL.1
  have w8 := wgt_bd ok l8 aL.1
  obtain ⟨g, _, _, _, h1, h2, _⟩ := red_mul (a := topF os L) (b := b + wgtF os L) t8.1 (by omega)
  exact ⟨⟨L, aL, mean_ex ok l8 b1 aL.1⟩, ⟨_, _, t8.1, by omega, rfl⟩, h2, h1⟩
/-- the best lot at a rate is at least worth the rate -/
theorem rate_le {r : Int × Int} {S : List Nat} (hr : Rate os b cap r) (hS : Ordd os.length (overF os r) S) {M : List Nat} (hM : exF os r M = exF os r (pickS (overF os r) cap S)) : r.1 * (b + wgtF os M) ≤ topF os M * r.2 := by
  obtain ⟨L, aL, e⟩ := hr.lot
  have h := pick_max hS aL.1 aL.2
  have h2 : exF os r L ≤ exF os r M := by rw [hM]; exact h
  rw [e, ex_eq] at h2
  rw [Int.mul_add, Int.mul_comm (topF os M)]
  omega
/-- no lot is worth more than a rate that its best lot has -/
theorem rate_top {r : Int × Int} {S : List Nat} (hS : Ordd os.length (overF os r) S) {M : List Nat} (hM : exF os r M = exF os r (pickS (overF os r) cap S)) (kM : KsOk os.length M) (e : meanF os b M = r) {L : List Nat} (aL : Allow os.length cap L) : exF os r L ≤ r.1 * b := by
  have h := pick_max hS aL.1 aL.2
  have h2 : exF os r L ≤ exF os r M := by rw [hM]; exact h
  have := mean_ex ok l8 b1 kM
  rw [e] at this
  omega
theorem rate_top' {r : Int × Int} {L : List Nat} (h : exF os r L ≤ r.1 * b) : topF os L * r.2 ≤ r.1 * (b + wgtF os L) := by
  rw [ex_eq] at h
  rw [Int.mul_add, Int.mul_comm (topF os L)]
  omega
/-- else the next rate is greater -/
theorem rate_lt {r : Int × Int} (hr : Rate os b cap r) {M : List Nat} (kM : KsOk os.length M) (h : r.1 * (b + wgtF os M) ≤ topF os M * r.2) (ne : meanF os b M ≠ r) : r.1 * (b + wgtF os M) < topF os M * r.2 := by
  have t8 := top_bd ok l8 kM
  have w8 := wgt_bd ok l8 kM
  obtain ⟨x, y, hx, hy, er⟩ := hr.low
  rcases Int.lt_or_eq_of_le h with h | h
  · exact h
  · refine absurd ?_ ne
    unfold meanF
    rw [er] at h ⊢
    refine red_uniq t8.1 (by omega) hx hy ?_
    have h1 := (red_le' (c := topF os M) (d := b + wgtF os M) hx hy).mp (Int.le_of_eq h)
    have h2 := (red_le (c := topF os M) (d := b + wgtF os M) hx hy).mp (Int.le_of_eq h.symm)
    rw [Int.mul_comm x] at h1 h2
    rw [Int.mul_comm x]
    omega
end
def lotsN : Nat → List (List Nat)
  | 0 => [[]]
  | n + 1 => lotsN n ++ (lotsN n).map (· ++ [n])
theorem lots_len : ∀ n, (lotsN n).length = 2 ^ n
  | 0 => rfl
  | n + 1 => by
    show (lotsN n ++ (lotsN n).map (· ++ [n])).length = _
    rw [List.length_append, List.length_map, lots_len n, Nat.pow_succ]
    omega
theorem KsOk.up {n : Nat} {L : List Nat} (h : KsOk n L) : KsOk (n + 1) L := by
  unfold KsOk
  rw [List.range_succ, List.filter_append, h, List.filter_cons, if_neg ?_, List.filter_nil, List.append_nil]
  intro e
  have := h.lt n (of_decide_eq_true e)
  omega
theorem KsOk.snoc {n : Nat} {L : List Nat} (h : KsOk n L) : KsOk (n + 1) (L ++ [n]) := by
  unfold KsOk
  rw [List.range_succ, List.filter_append, List.filter_cons, if_pos (by simp), List.filter_nil]
  congr 1
  conv => rhs; rw [← h]
  refine List.filter_congr fun k hk => ?_
  have := List.mem_range.mp hk
  have hne : ¬ k = n := by omega
  simp [hne]
theorem lots_mem : ∀ {n : Nat} {L : List Nat}, L ∈ lotsN n ↔ KsOk n L
  | 0, L => by
    show L ∈ [[]] ↔ _
    rw [List.mem_singleton]
    constructor
    · rintro rfl; exact .nil
    · intro h; exact h.symm
  | n + 1, L => by
    show L ∈ lotsN n ++ (lotsN n).map (· ++ [n]) ↔ _
    rw [List.mem_append, List.mem_map]
    constructor
    · rintro (h | ⟨M, h, rfl⟩)
      · exact (lots_mem.mp h).up
      · exact (lots_mem.mp h).snoc
    · intro h
      have e : L = (List.range n).filter (fun k => decide (k ∈ L)) ++ (if n ∈ L then [n] else []) := by
        conv => lhs; rw [← h]
        rw [List.range_succ, List.filter_append, List.filter_cons, List.filter_nil]
        congr 1
        by_cases hn : n ∈ L
        · rw [if_pos hn, if_pos (decide_eq_true hn)]
        · rw [if_neg hn, if_neg (by simp [hn])]
      have k0 := KsOk.of_filter (n := n) fun k => decide (k ∈ L)
      by_cases hn : n ∈ L
      · rw [if_pos hn] at e
        exact .inr ⟨_, lots_mem.mpr k0, e.symm⟩
      · rw [if_neg hn, List.append_nil] at e
        rw [e]
        exact .inl (lots_mem.mpr k0)
/-- how many lots are worth more -/
def muF (os : List Off) (b : Int) (r : Int × Int) : Nat := (lotsN os.length).countP fun L => decide (r.1 * (b + wgtF os L) < topF os L * r.2)
theorem count_lt {α : Type} {p q : α → Bool} : ∀ {l : List α}, (∀ x ∈ l, q x = true → p x = true) → (∃ x ∈ l, p x = true ∧ q x = false) → l.countP q < l.countP p
  | [], _, h => by obtain ⟨x, hx, _⟩ := h; cases hx
  | a :: l, h, e => by
    have mono : l.countP q ≤ l.countP p := List.countP_mono_left fun x hx hq => h x (List.mem_cons_of_mem _ hx) hq
    rw [List.countP_cons, List.countP_cons]
    obtain ⟨x, hx, h1, h2⟩ := e
    rcases List.mem_cons.mp hx with rfl | hx
    · rw [h1, h2]
      simp
      omega
    · have := count_lt (l := l) (fun y hy => h y (List.mem_cons_of_mem _ hy)) ⟨x, hx, h1, h2⟩
      have h3 := h a List.mem_cons_self
      cases e1 : q a with
      | false => cases p a <;> simp <;> omega
      | true => rw [h3 e1]; simp; omega
theorem mu_lt {os : List Off} {b : Int} (ok : OffsOk os) (l8 : os.length ≤ 8) (b1 : 1 ≤ b) {r : Int × Int} (p2 : 1 ≤ r.2) {M : List Nat} (kM : KsOk os.length M) (h : r.1 * (b + wgtF os M) < topF os M * r.2) : muF os b (meanF os b M) < muF os b r := by
  have t8 := top_bd ok l8 kM
  have w8 := wgt_bd ok l8 kM
  obtain ⟨g, g0, e1, e2, q2, q1, _⟩ := red_mul (a := topF os M) (b := b + wgtF os M) t8.1 (by omega)
  have hc := red_cross (a := topF os M) (b := b + wgtF os M) t8.1 (by omega)
  unfold muF meanF
  have h' : r.1 * (red (topF os M) (b + wgtF os M)).2 < (red (topF os M) (b + wgtF os M)).1 * r.2 := by
    refine Int.not_le.mp fun z => ?_
    have := (red_le' (c := r.1) (d := r.2) t8.1 (by omega)).mp z
    omega
  generalize red (topF os M) (b + wgtF os M) = s at *
  refine count_lt (fun L hL hq => ?_) ⟨M, lots_mem.mpr kM, decide_eq_true h, decide_eq_false (by omega)⟩
  have hq := of_decide_eq_true hq
  have wL := wgt_bd ok l8 (lots_mem.mp hL)
  refine decide_eq_true ?_
  have bp : 0 < b + wgtF os L := by omega
  generalize b + wgtF os L = B at *
  generalize topF os L = A at *
  have c1 : r.1 * s.2 * B < s.1 * r.2 * B := Int.mul_lt_mul_of_pos_right h' bp
  have c2 : s.1 * B * r.2 < A * s.2 * r.2 := Int.mul_lt_mul_of_pos_right hq (by omega)
  have c3 : r.1 * B * s.2 < A * r.2 * s.2 := by
    have e1 : r.1 * s.2 * B = r.1 * B * s.2 := by simp only [Int.mul_assoc, Int.mul_comm, Int.mul_left_comm]
    have e2 : s.1 * r.2 * B = s.1 * B * r.2 := by simp only [Int.mul_assoc, Int.mul_comm, Int.mul_left_comm]
    have e3 : A * s.2 * r.2 = A * r.2 * s.2 := by simp only [Int.mul_assoc, Int.mul_comm, Int.mul_left_comm]
    rw [← e1, ← e3]
    omega
  exact Int.lt_of_mul_lt_mul_right c3 (by omega)
end TK

namespace TK
open PySem PySem.Spec PyProof.Rows L2
abbrev s_Guests_picked : Stmt := inClass (topS 21) 7
theorem sc_Guests_picked : FnScope ["self", "rate", "most", "top", "bottom", "pairs", "wanted", "number", "charge", "weight", "loss"] ["self", "rate", "most"] (defScope s_Guests_picked) := ⟨rfl, rfl, rfl, by decide +kernel, rfl, by decide +kernel, by decide +kernel⟩
/-! an end of a slice that may be None -/
section
variable {X : Cx} {e : Expr} {te : TE}
theorem po_opt (h : PE X e te) : PO X (some e) (fun σ H Q => te σ H fun x H1 => (∃ i, x = .int i ∧ Q (some i) H1) ∨ (x = .non ∧ Q none H1)) := by
  refine ⟨fun pins s σ H Q I hw => ?_⟩
  rw [evalPart_some]
  refine thn (h.run pins s σ H _ I hw) fun u s1 ⟨x, H1, I1, r1, q1⟩ => ?_
  rcases q1 with ⟨i, rfl, q⟩ | ⟨rfl, q⟩
  · obtain ⟨t, rfl⟩ := r1
    exact ⟨some i, H1, I1, .int i t, q⟩
  · cases (show u = Value.none from r1)
    exact ⟨none, H1, I1, .none, q⟩
end
theorem gTup2 {K : PySem.W.Frag} {i j : Nat} {e : Addr} {x y : V} {σ : L2.St} {H : Hp} {Q : L2.St → Hp → Prop} (he : H e = some (.tup [x, y])) (σ' : L2.St) (hσ : (σ.set i (some x)).set j (some y) = σ') (h : Q σ' H) :
    gTup K 2 (gCons (gName i) (gCons (gName j) gNil)) (.ref e) σ H Q := by
  subst hσ
  exact ⟨_, _, rfl, tupAt he, rfl, _, _, rfl, _, _, rfl, rfl, h⟩
theorem gTupN {K : PySem.W.Frag} {i j k : Nat} {e t : Addr} {x y z : V} {σ : L2.St} {H : Hp} {Q : L2.St → Hp → Prop} (he : H e = some (.tup [x, .ref t])) (ht : H t = some (.tup [y, z])) (σ' : L2.St) (hσ : ((σ.set i (some x)).set j (some y)).set k (some z) = σ') (h : Q σ' H) :
    gTup K 2 (gCons (gName i) (gCons (gTup K 2 (gCons (gName j) (gCons (gName k) gNil))) gNil)) (.ref e) σ H Q := by
  subst hσ
  refine ⟨_, _, rfl, tupAt he, rfl, _, _, rfl, _, _, rfl, ?_⟩
  exact ⟨_, _, rfl, tupAt ht, rfl, _, _, rfl, _, _, rfl, rfl, rfl, h⟩
def capC : Option Int → V
  | none => .non
  | some c => .int c
theorem cut_cap (xs : List Nat) {cap : Option Int} (hc : capN cap) : cutV (xs.map kI) none cap = (capT cap xs).map kI := by
  unfold cutV
  rw [HT.sIx_none, List.drop_zero, Nat.sub_zero]
  cases cap with
  | none =>
    rw [HT.sIx_none, List.take_length]
    rfl
  | some c =>
    have c0 := hc c rfl
    obtain ⟨k, rfl⟩ : ∃ k : Nat, c = (k : Int) := ⟨c.toNat, by omega⟩
    rw [HT.sIx_nat]
    show _ = ((xs.take (k : Int).toNat).map kI)
    rw [Int.toNat_natCast, List.map_take, List.length_map]
    by_cases h : k ≤ xs.length
    · rw [Nat.min_eq_left h]
    · rw [Nat.min_eq_right (by omega), List.take_of_length_le (by rw [List.length_map]; exact Nat.le_refl _), List.take_of_length_le (by rw [List.length_map]; omega)]
theorem capT_len (xs : List Nat) (cap : Option Int) : (capT cap xs).length ≤ xs.length := by
  cases cap with
  | none => exact Nat.le_refl _
  | some c =>
    show (xs.take c.toNat).length ≤ _
    rw [List.length_take]
    omega
/-- two numbers of a pair -/
noncomputable def kOf (H : Hp) (x : V) : Int × Int := by
  classical
  exact if h : ∃ p : Int × Int, ∃ t, x = .ref t ∧ H t = some (.tup [.int p.1, .int p.2]) then h.choose else (0, 0)
theorem kOf_at {H : Hp} {t : Addr} {i j : Int} (h : H t = some (.tup [.int i, .int j])) : kOf H (.ref t) = (i, j) := by
  have e : ∃ p : Int × Int, ∃ t', (V.ref t) = .ref t' ∧ H t' = some (.tup [.int p.1, .int p.2]) := ⟨(i, j), t, rfl, h⟩
  unfold kOf
  rw [dif_pos e]
  obtain ⟨t', e1, e2⟩ := e.choose_spec
  cases e1
  rw [h] at e2
  injection e2 with e3
  injection e3 with e4
  injection e4 with e5 e6
  injection e6 with e7
  injection e5 with e8
  injection e7 with e9
  exact Prod.ext e8.symm e9.symm
theorem sorted_eq : ∀ {xs ys : List Int}, xs.Perm ys → xs.Pairwise (· ≤ ·) → ys.Pairwise (· ≤ ·) → xs = ys
  | [], ys, p, _, _ => (List.Perm.nil_eq p)
  | x :: xs, [], p, _, _ => absurd p.length_eq (by simp)
  | x :: xs, y :: ys, p, h, k => by
    obtain ⟨h1, h2⟩ := List.pairwise_cons.mp h
    obtain ⟨k1, k2⟩ := List.pairwise_cons.mp k
    have e : x = y := by
      have mx : x ∈ y :: ys := p.subset List.mem_cons_self
      have my : y ∈ x :: xs := p.symm.subset List.mem_cons_self
      rcases List.mem_cons.mp mx with e | mx
      · exact e
      rcases List.mem_cons.mp my with e | my
      · exact e.symm
      exact Int.le_antisymm (h1 y my) (k1 x mx)
    subst e
    rw [sorted_eq (List.perm_cons x |>.mp p) h2 k2]
theorem pickL_pw {n : Nat} {v : Nat → Int} {cap : Option Int} : ((pickL n v cap).map fun (k : Nat) => (k : Int)).Pairwise (· ≤ ·) := by
  rw [List.pairwise_map]
  refine List.Pairwise.imp (fun h => ?_) (List.Pairwise.sublist List.filter_sublist List.pairwise_lt_range)
  omega
/-- pairs of a loss and a number, at a row of addresses -/
def PairsAt (H : Hp) (us : List Addr) (v : Nat → Int) : Prop := ∀ (i : Nat) (u : Addr), us[i]? = some u → H u = some (.tup [.int (-(v i)), .int (i : Int)])
/-- the sorted pairs, as numbers -/
theorem sorted_pairs {H : Hp} {us : List Addr} {v : Nat → Int} {ys : List V} (hp : PairsAt H us v) (h1 : SrtO.Srtd (ltP (kOf H)) ys) (h2 : ys.Perm (us.map V.ref)) : ∃ S, Ordd us.length v S ∧ S.length = ys.length ∧ ∀ (i : Nat) (x : V), ys[i]? = some x → ∃ j u, S[i]? = some j ∧ x = .ref u ∧ H u = some (.tup [.int (-(v j)), .int (j : Int)]) := by
  have at1 : ∀ x ∈ ys, ∃ (j : Nat) (u : Addr), x = .ref u ∧ H u = some (.tup [.int (-(v j)), .int (j : Int)]) ∧ kOf H x = (-(v j), (j : Int)) := fun x hx => by
    have := h2.mem_iff.mp hx
    obtain ⟨u, hu, rfl⟩ := List.mem_map.mp this
    obtain ⟨j, hj⟩ := List.getElem?_of_mem hu
    exact ⟨j, u, rfl, hp j u hj, kOf_at (hp j u hj)⟩
  have pm : (ys.map fun x => (kOf H x).2.toNat).Perm (List.range us.length) := by
    refine (h2.map _).trans ?_
    rw [List.map_map]
    refine List.Perm.of_eq (List.ext_getElem (by simp) fun i a b => ?_)
    rw [List.getElem_map, List.getElem_range]
    have hi : i < us.length := by simpa using a
    show (kOf H (.ref us[i])).2.toNat = i
    rw [kOf_at (hp i _ (List.getElem?_eq_getElem hi))]
    exact Int.toNat_natCast i
  have nd : (ys.map fun x => (kOf H x).2.toNat).Nodup := pm.nodup_iff.mpr List.nodup_range
  refine ⟨ys.map fun x => (kOf H x).2.toNat, ⟨pm, ?_⟩, List.length_map .., fun i x hx => ?_⟩
  · rw [List.pairwise_map]
    have nd2 : ys.Pairwise fun x y => (kOf H x).2.toNat ≠ (kOf H y).2.toNat := List.pairwise_map.mp (List.nodup_iff_pairwise_ne.mp nd)
    refine List.Pairwise.imp_of_mem (fun {x y} hx hy h => ?_) (List.Pairwise.and h1 nd2)
    obtain ⟨j, u, _, _, e1⟩ := at1 x hx
    obtain ⟨k, w, _, _, e2⟩ := at1 y hy
    obtain ⟨g1, g2⟩ := h
    have g1 := SrtO.lexB_no.mp g1
    have a1 : (kOf H x).2.toNat = j := by rw [e1]; exact Int.toNat_natCast j
    have a2 : (kOf H y).2.toNat = k := by rw [e2]; exact Int.toNat_natCast k
    rw [a1, a2] at g2 ⊢
    rw [e1, e2] at g1
    simp only at g1
    unfold bef
    omega
  · obtain ⟨j, u, rfl, e1, e2⟩ := at1 x (List.mem_of_getElem? hx)
    refine ⟨j, u, ?_, rfl, e1⟩
    rw [List.getElem?_map, hx]
    show some (kOf H (.ref u)).2.toNat = some j
    rw [e2]
    exact congrArg some (Int.toNat_natCast j)
section
variable {P : Program} {w : World} {K : PySem.W.Frag} {mg : Str → Option Value} {base : Heap}
/-! Guests._picked -/
def spPicked (K : PySem.W.Frag) (C : Addr) : Sp := fun vs H Q _ => ∃ (p rt : Addr) (os : List Off) (b : Int) (r : Int × Int) (cap : Option Int), vs = [.ref p, .ref rt, capC cap] ∧ GuAt C H p os b ∧ OffsOk os ∧ os.length ≤ 8 ∧ H rt = some (.tup [.int r.1, .int r.2]) ∧ 0 ≤ r.2 ∧ r.2 ≤ 1000000 ∧ capN cap ∧
  ∀ H' t, Same H H' → (∃ S, Ordd os.length (overF os r) S) → H' t = some (.tup ((pickL os.length (overF os r) cap).map kI)) → Q (.ref t) H'
theorem ok_Guests_picked {f C : Addr} {fd : FuncData} (F : Fun K "_picked" "Guests._picked" s_Guests_picked f fd) (T : TxtG K C) (m_enumerate : mg "enumerate" = none) (m_sorted : mg "sorted" = none) (m_tuple : mg "tuple" = none) :
    FnOk P w K mg base CX0 1 f fd ["self", "rate", "most"] (spPicked K C) := by
  refine F.ok sc_Guests_picked (fun vs H Q E h => ?_) (fun cdv A outer s H vs Q E hr h => ?_)
  · obtain ⟨p, rt, os, b, r, cap, rfl, _⟩ := h
    rfl
  · obtain ⟨p, rt, os, b, r, cap, rfl, ⟨dx, a, ts, hp, hA, hT⟩, ok, l8, hr2, r20, r21, hc, q⟩ := h
    have tl : (ts.map V.ref).length = os.length := by rw [List.length_map, hT.1]
    refine ⟨_, (pss_cons (ps_asg (pv 1) (pg_tup (by rfl) (pgs_cons (pg_name (i := 3) sc_Guests_picked.nd rfl (.inr rfl)) (pgs_cons (pg_name (i := 4) sc_Guests_picked.nd rfl (.inr rfl)) pgs_nil))))
  (pss_cons (ps_setLc (i := 5) (own := [("number", 7), ("charge", 8), ("weight", 9)]) (by rfl) sc_Guests_picked.nd rfl rfl (sw_true rfl rfl rfl (by decide +kernel)) (pi_enumT (by rfl) m_enumerate (pa_cons (pe_fld (pv 0) rfl) pa_nil)) (blkOk_by (N := ["self", "rate", "most", "top", "bottom", "pairs", "wanted", "number", "charge", "weight", "loss"]) (sc := defScope s_Guests_picked) (by decide +kernel)) (fun _ _ _ _ _ => (pg_tupK (K := K) (n := 2) rfl (by rfl) (pgs_cons (pg_name (i := 7) sc_Guests_picked.nd rfl (.inl rfl)) (pgs_cons (pg_tupK (K := K) (n := 2) rfl (by rfl) (pgs_cons (pg_name (i := 8) sc_Guests_picked.nd rfl (.inl rfl)) (pgs_cons (pg_name (i := 9) sc_Guests_picked.nd rfl (.inl rfl)) pgs_nil))) pgs_nil)))) (fun _ _ _ _ _ => pts_nil) (fun _ _ _ _ _ => (pe_tup (pa_cons (pe_op op_mul (pv 9) (pe_op op_sub (pv 3) (pe_op op_mul (pv 8) (pv 4)))) (pa_cons (pv 7) pa_nil)))))
  (pss_cons (ps_setLc (i := 6) (own := [("loss", 10), ("number", 7)]) (by rfl) sc_Guests_picked.nd rfl rfl (sw_true rfl rfl rfl (by decide +kernel)) (pi_list (pe_callB cr_sortedPO (by rfl) m_sorted (by decide +kernel) (pa_cons (pv 5) pa_nil))) (blkOk_by (N := ["self", "rate", "most", "top", "bottom", "pairs", "wanted", "number", "charge", "weight", "loss"]) (sc := defScope s_Guests_picked) (by decide +kernel)) (fun _ _ _ _ _ => (pg_tupK (K := K) (n := 2) rfl (by rfl) (pgs_cons (pg_name (i := 10) sc_Guests_picked.nd rfl (.inl rfl)) (pgs_cons (pg_name (i := 7) sc_Guests_picked.nd rfl (.inl rfl)) pgs_nil)))) (fun _ _ _ _ _ => (pts_one (pt_cmpR op_lt (pv 10) pe_int (nomark _)))) (fun _ _ _ _ _ => (pv 7)))
  (pss_one (ps_ret (pe_callTy call_tuple_of (by rfl) m_tuple (by decide +kernel) (pa_cons (pe_callB cr_sorted (by rfl) m_sorted (by decide +kernel) (pa_cons (pe_slice sl_list (pv 6) po_none (po_opt (pv 2))) pa_nil)) pa_nil))))))), ?_⟩
    refine ⟨_, rfl, ?_⟩
    refine gTup2 hr2 [some (.ref p), some (.ref rt), some (capC cap), some (.int r.1), some (.int r.2), none, none, none, none, none, none] rfl ?_
    -- the pairs
    refine ⟨_, rfl, p, C, dx, _, _, rfl, hp, T.cl, T.nO, fldsG_offers _ _, a, _, rfl, tupAt hA, fun D nD => ?_⟩
    refine lc_it walk_enumT (fun i H' => ∃ us : List Addr, Same H H' ∧ H' D = some (.lst (us.map V.ref)) ∧ PairsAt H' us (overF os r) ∧ us.length = i) ⟨[], same_upd nD, upd_same, (fun _ _ h => nomatch h), rfl⟩ (fun i H' _ hq => same_tup hq.choose_spec.1 (tupAt hA)) (fun i x H1 H2 hi hq hy => ?_) (fun H' hq => ?_)
    · obtain ⟨us, s1, eD, hP, ul⟩ := hq
      obtain ⟨T0, x0, y0, rfl, nT, rfl, e1, e2⟩ := hy
      cases Option.some.inj e1
      obtain ⟨t, o, rfl, e3, e4, e5⟩ := hT.get e2
      have hi8 : i < 8 := by rw [tl] at hi; omega
      have sT := same_upd (o := .tup [.int (i : Nat), V.ref t]) nT
      have s2 := s1.trans sT
      have oo := ok o (List.mem_of_getElem? e4)
      have m1 := oo.c0
      have m2 := oo.c1
      have m3 := oo.w0
      have m4 := oo.w1
      refine gTupN upd_same (s2 _ _ e5) [some (.ref p), some (.ref rt), some (capC cap), some (.int r.1), some (.int r.2), none, none, some (.int (i : Nat)), some (.int o.1), some (.int o.2), none] (by simp [wipe]) ?_
      refine ⟨by simp [wipe], yesT ?_⟩
      refine ⟨_, rfl, _, rfl, _, rfl, _, rfl, _, _, rfl, rfl, .inl ⟨by omega, by omega⟩, _, _, rfl, rfl, _, _, rfl, rfl, .inl ⟨by omega, by omega⟩, ?_⟩
      refine ⟨_, rfl, (show (2 : Nat) ≤ sizeLine by decide), fun u nu => ?_⟩
      have su := same_upd (o := .tup [.int (o.2 * (r.1 - o.1 * r.2)), .int (i : Nat)]) nu
      have eD2 := su _ _ (sT _ _ eD)
      refine ⟨_, eD2, by rw [List.length_map, ul]; exact small1000 (by omega), us ++ [u], same_at (s2.trans su) nD, by rw [List.map_append]; exact upd_same, fun j u2 hj => ?_, by rw [List.length_append, ul]; rfl⟩
      by_cases hjl : j < us.length
      · rw [List.getElem?_append_left hjl] at hj
        have h3 := su _ _ (sT _ _ (hP j u2 hj))
        rw [upd_ne (ne_of h3 eD2 (by intro z; cases z))]
        exact h3
      · have hj3 := (List.getElem?_eq_some_iff.mp hj).1
        rw [List.length_append, List.length_singleton] at hj3
        obtain rfl : j = us.length := by omega
        rw [List.getElem?_append_right (Nat.le_refl _), Nat.sub_self] at hj
        cases Option.some.inj hj
        have uD : u ≠ D := (ne_of_none (sT _ _ eD) nu).symm
        rw [upd_ne uD, upd_same]
        have ev : overF os r us.length = -(o.2 * (r.1 - o.1 * r.2)) := by
          unfold overF
          rw [ul, List.getD_eq_getElem?_getD, e4]
          show o.2 * (o.1 * r.2 - r.1) = _
          rw [← Int.mul_neg, Int.neg_sub]
        rw [ev, Int.neg_neg, ul]
    obtain ⟨us, s1, eD, hP, ul⟩ := hq
    rw [tl] at ul
    -- the sorted pairs
    refine ⟨_, rfl, D, us.map V.ref, kOf H', rfl, lstAt eD, fun x hx => ?_, fun ys Y h1 h2 nY => ?_⟩
    · obtain ⟨u, hu, rfl⟩ := List.mem_map.mp hx
      obtain ⟨j, hj⟩ := List.getElem?_of_mem hu
      refine ⟨u, rfl, ?_⟩
      rw [kOf_at (hP j u hj)]
      exact hP j u hj
    have h3 : ys.Perm (us.map V.ref) := h2.perm
    obtain ⟨S, oS, lS, at2⟩ := sorted_pairs hP h1 h3
    rw [ul] at oS
    have yl : ys.length = os.length := by rw [h3.length_eq, List.length_map, ul]
    have sY := same_upd (o := .lst ys) nY
    have s2 := s1.trans sY
    refine ⟨Y, rfl, ⟨_, lstAt upd_same⟩, fun D2 nD2 => ?_⟩
    refine lc_list (K := K) (a := Y) (xs := ys) (fun i H3 => H3 = upd (upd H' Y (.lst ys)) D2 (.lst (((S.take i).filter fun k => decide (0 < overF os r k)).map kI))) rfl (fun i H3 _ hq => by subst hq; exact lstAt ((same_upd nD2) _ _ upd_same)) (fun i x H3 hx hq => ?_) (fun H3 hq => ?_)
    · subst hq
      obtain ⟨j, u, ej, rfl, eu⟩ := at2 i x hx
      have hi8 : i < 8 := by have := (List.getElem?_eq_some_iff.mp hx).1; omega
      have s3 := sY.trans (same_upd (o := .lst (((S.take i).filter fun k => decide (0 < overF os r k)).map kI)) nD2)
      have hz : (((S.take i).filter fun k => decide (0 < overF os r k)).map kI).length < sizeLine := by
        rw [List.length_map]
        have h4 := List.length_filter_le (fun k => decide (0 < overF os r k)) (S.take i)
        rw [List.length_take] at h4
        exact small1000 (by omega)
      refine gTup2 (s3 _ _ eu) [some (.ref p), some (.ref rt), some (capC cap), some (.int r.1), some (.int r.2), some (.ref D), none, some (.int (j : Int)), none, none, some (.int (-(overF os r j)))] (by simp [wipe]) ?_
      refine ⟨by simp [wipe], ?_⟩
      refine ⟨_, rfl, _, _, rfl, rfl, _, rfl, ?_⟩
      by_cases hv : 0 < overF os r j
      · rw [decide_eq_true (show -(overF os r j) < 0 by omega)]
        refine iteT ⟨_, rfl, _, upd_same, hz, ?_⟩
        rw [upd_twice, List.take_add_one, ej, List.filter_append, List.map_append]
        show _ = upd _ _ (.lst (_ ++ ([j].filter fun k => decide (0 < overF os r k)).map kI))
        rw [List.filter_cons, if_pos (decide_eq_true hv)]
        rfl
      · rw [decide_eq_false (show ¬ -(overF os r j) < 0 by omega)]
        refine iteF ?_
        rw [List.take_add_one, ej, List.filter_append]
        show _ = upd _ _ (.lst ((_ ++ ([j].filter fun k => decide (0 < overF os r k))).map kI))
        rw [List.filter_cons, if_neg (by simp [hv]), List.filter_nil, List.append_nil]
    subst hq
    rw [show ys.length = S.length from lS.symm, List.take_length]
    have s3 := s2.trans (same_upd (o := .lst ((S.filter fun k => decide (0 < overF os r k)).map kI)) nD2)
    have e3 : (upd (upd H' Y (.lst ys)) D2 (.lst ((S.filter fun k => decide (0 < overF os r k)).map kI))) D2 = some (.lst ((S.filter fun k => decide (0 < overF os r k)).map kI)) := upd_same
    generalize upd (upd H' Y (.lst ys)) D2 (.lst ((S.filter fun k => decide (0 < overF os r k)).map kI)) = H4 at s3 e3 ⊢
    have wl : (S.filter fun k => decide (0 < overF os r k)).length ≤ 8 := by
      have := List.length_filter_le (fun k => decide (0 < overF os r k)) S
      omega
    -- the first ones
    have pm := pick_perm oS hc
    have ml := capT_len (S.filter fun k => decide (0 < overF os r k)) cap
    have key : ∀ ns' : List Int, ns'.Perm ((capT cap (S.filter fun k => decide (0 < overF os r k))).map fun (k : Nat) => (k : Int)) → ns'.Pairwise (· ≤ ·) → ns'.map V.int = (pickL os.length (overF os r) cap).map kI := fun ns' h5 h6 => by
      rw [sorted_eq (h5.trans (pm.map _)) h6 pickL_pw, List.map_map]
      rfl
    have cc := cut_cap (S.filter fun k => decide (0 < overF os r k)) hc
    refine ⟨_, rfl, _, rfl, ?_⟩
    cases cap with
    | none =>
      refine .inr ⟨rfl, D2, _, rfl, lstAt e3, fun l nl => ?_⟩
      rw [cc]
      have sl := same_upd (o := .lst ((capT none (S.filter fun k => decide (0 < overF os r k))).map kI)) nl
      refine ⟨l, (capT none (S.filter fun k => decide (0 < overF os r k))).map fun (k : Nat) => (k : Int), rfl, by rw [List.map_map]; exact lstAt upd_same, by rw [List.length_map]; omega, fun ns' p2 pp pw np => ?_⟩
      rw [key ns' pp pw]
      have s4 := sl.trans (same_upd (o := .lst ((pickL os.length (overF os r) none).map kI)) np)
      exact ⟨p2, _, rfl, .inl ⟨lstAt upd_same, fun t nt => q _ t (s3.trans (s4.trans (same_upd nt))) ⟨S, oS⟩ upd_same⟩⟩
    | some c =>
      refine .inl ⟨c, rfl, D2, _, rfl, lstAt e3, fun l nl => ?_⟩
      rw [cc]
      have sl := same_upd (o := .lst ((capT (some c) (S.filter fun k => decide (0 < overF os r k))).map kI)) nl
      refine ⟨l, (capT (some c) (S.filter fun k => decide (0 < overF os r k))).map fun (k : Nat) => (k : Int), rfl, by rw [List.map_map]; exact lstAt upd_same, by rw [List.length_map]; omega, fun ns' p2 pp pw np => ?_⟩
      rw [key ns' pp pw]
      have s4 := sl.trans (same_upd (o := .lst ((pickL os.length (overF os r) (some c)).map kI)) np)
      exact ⟨p2, _, rfl, .inl ⟨lstAt upd_same, fun t nt => q _ t (s3.trans (s4.trans (same_upd nt))) ⟨S, oS⟩ upd_same⟩⟩
end
end TK

namespace TK
open PySem PySem.Spec PyProof.Rows L2
abbrev s_Guests_climbed : Stmt := inClass (topS 21) 6
theorem sc_Guests_climbed : FnScope ["self", "most", "rate", "lot", "pairs"] ["self", "most"] (defScope s_Guests_climbed) := ⟨rfl, rfl, rfl, by decide +kernel, rfl, by decide +kernel, by decide +kernel⟩
abbrev s_Guests_best : Stmt := inClass (topS 21) 3
theorem sc_Guests_best : FnScope ["self", "most", "rate", "lot"] ["self", "most"] (defScope s_Guests_best) := ⟨rfl, rfl, rfl, by decide +kernel, rfl, by decide +kernel, by decide +kernel⟩
theorem fldsG_off {m : Str} (a : Addr) (b : Int) (h1 : ¬ m = ("offers" : Str)) (h2 : ¬ m = ("aside" : Str)) : (fldsG a b).lookup m = none := by
  unfold fldsG
  rw [lookup_putF, if_neg h2, lookup_putF, if_neg h1]
  rfl
theorem fldsG_picked (a : Addr) (b : Int) : (fldsG a b).lookup ("_picked" : Str) = none := fldsG_off a b (by decide +kernel) (by decide +kernel)
theorem fldsG_climbed (a : Addr) (b : Int) : (fldsG a b).lookup ("_climbed" : Str) = none := fldsG_off a b (by decide +kernel) (by decide +kernel)
theorem fldsG_best (a : Addr) (b : Int) : (fldsG a b).lookup ("best" : Str) = none := fldsG_off a b (by decide +kernel) (by decide +kernel)
/-- pairs of ints as data -/
def dP (r : Int × Int) : PyData := .tuple [.int r.1, .int r.2]
theorem dP_shape (r : Int × Int) : SeqAt.shaped (dP r) = true := by
  show ((dP r).canLay0 && decide ((dP r).depth ≤ 64)) = true
  simp [dP, PyData.canLay0, PyData.canLayAll0, PyData.depth, PyData.depthAll]
theorem dP_eqv (r s : Int × Int) : PyData.eqv (dP r) (dP s) = decide (r = s) := by
  obtain ⟨a, b⟩ := r
  obtain ⟨c, d⟩ := s
  simp only [dP, PyData.eqv, PyData.eqvAll, Bool.and_true]
  by_cases h1 : a = c <;> by_cases h2 : b = d <;> simp [h1, h2]
theorem dP_at {K : PySem.W.Frag} {H : Hp} {a : Addr} {r : Int × Int} (h : H a = some (.tup [.int r.1, .int r.2])) : Dp K H (.ref a) (dP r) := .tup (tupAt h) (.cons (.int _) (.cons (.int _) .nil))
/-- the rate that no lot beats, and the lot that has it -/
structure Best (os : List Off) (b : Int) (cap : Option Int) (r : Int × Int) : Prop where
  rate : Rate os b cap r
  ord : ∃ S, Ordd os.length (overF os r) S
  has : meanF os b (pickL os.length (overF os r) cap) = r
theorem ex_pick {os : List Off} {r : Int × Int} {cap : Option Int} {S : List Nat} (oS : Ordd os.length (overF os r) S) (hc : capN cap) : exF os r (pickL os.length (overF os r) cap) = exF os r (pickS (overF os r) cap S) := (perm_sum ((pick_perm oS hc).map _)).symm
theorem capT_cap (xs : List Nat) {cap : Option Int} (hc : capN cap) : capO cap (capT cap xs).length := by
  cases cap with
  | none => exact trivial
  | some c =>
    have := hc c rfl
    show (((xs.take c.toNat).length : Nat) : Int) ≤ c
    rw [List.length_take]
    omega
theorem pickL_allow {os : List Off} {r : Int × Int} {cap : Option Int} {S : List Nat} (oS : Ordd os.length (overF os r) S) (hc : capN cap) : Allow os.length cap (pickL os.length (overF os r) cap) :=
  ⟨pickL_ok, by rw [← (pick_perm oS hc).length_eq]; exact capT_cap _ hc⟩
theorem Best.top {os : List Off} {b : Int} {cap : Option Int} {r : Int × Int} (ok : OffsOk os) (l8 : os.length ≤ 8) (b1 : 1 ≤ b) (hc : capN cap) (h : Best os b cap r) {L : List Nat} (aL : Allow os.length cap L) : exF os r L ≤ r.1 * b := by
  obtain ⟨S, oS⟩ := h.ord
  exact rate_top ok l8 b1 oS (ex_pick oS hc) pickL_ok h.has aL
theorem mean2 {os : List Off} {b : Int} (ok : OffsOk os) (l8 : os.length ≤ 8) (b0 : 1 ≤ b) (b1 : b ≤ 1000) {L : List Nat} (kL : KsOk os.length L) : (meanF os b L).2 ≤ 9000 := by
  have t8 := top_bd ok l8 kL
  have w8 := wgt_bd ok l8 kL
  have : (b + wgtF os L) / gcdI (topF os L) (b + wgtF os L) ≤ b + wgtF os L := Int.ediv_le_self _ (by omega)
  show (b + wgtF os L) / gcdI (topF os L) (b + wgtF os L) ≤ 9000
  omega
section
variable {P : Program} {w : World} {K : PySem.W.Frag} {mg : Str → Option Value} {base : Heap}
/-! Guests._climbed -/
def spClimbed (K : PySem.W.Frag) (C : Addr) : Sp := fun vs H Q _ => ∃ (p : Addr) (os : List Off) (b : Int) (cap : Option Int), vs = [.ref p, capC cap] ∧ GuAt C H p os b ∧ OffsOk os ∧ os.length ≤ 8 ∧ 1 ≤ b ∧ b ≤ 1000 ∧ capN cap ∧
  ∀ (H' : Hp) (q : Addr) (xs : List V) (t rt lt : Addr) (r : Int × Int), Same H H' → H' q = some (.lst (xs ++ [.ref t])) → H' t = some (.tup [.ref rt, .ref lt]) → H' rt = some (.tup [.int r.1, .int r.2]) → H' lt = some (.tup ((pickL os.length (overF os r) cap).map kI)) → Best os b cap r → Q (.ref q) H'
theorem ok_Guests_climbed {f C gP gM : Addr} {fd fdP fdM : FuncData} (F : Fun K "_climbed" "Guests._climbed" s_Guests_climbed f fd) (T : TxtG K C)
    (Me__picked : Meth K C "_picked" gP) (G__picked : FnOk P w K mg base CX0 1 gP fdP ["self", "rate", "most"] (spPicked K C)) (b__picked : Binds K fdP ["self", "rate", "most"] [])
    (Me_mean : Meth K C "mean" gM) (G_mean : FnOk P w K mg base CX0 1 gM fdM ["self", "lot"] (spMeanG K C)) (b_mean : Binds K fdM ["self", "lot"] []) : FnOk P w K mg base CX0 3 f fd ["self", "most"] (spClimbed K C) := by
  refine F.ok sc_Guests_climbed (fun vs H Q E h => ?_) (fun cdv A outer s H vs Q E hr h => ?_)
  · obtain ⟨p, os, b, cap, rfl, _⟩ := h
    rfl
  · obtain ⟨p, os, b, cap, rfl, gu, ok, l8, b0, b1, hc, q⟩ := h
    have ins : ∀ {H'}, Same H H' → ∃ dx a, H' p = some (.ins C dx (fldsG a b)) := fun s => by
      obtain ⟨dx, a, ts, h1, _⟩ := gu
      exact ⟨dx, a, s _ _ h1⟩
    refine ⟨_, (pss_cons (ps_cut (ps_if (PW.pt (pw_and (pt_cmpR op_notN (pv 1) pe_non (nomark _)) (pw_and1 (pt_cmpR op_lt (pv 1) pe_int (nomark _))))) (pss_one ps_never) pss_nil))
  (pss_cons (ps_set (i := 2) sc_Guests_climbed.nd rfl (.inl rfl) (pe_tup (pa_cons pe_int (pa_cons pe_int pa_nil))))
  (pss_cons (ps_set (i := 3) sc_Guests_climbed.nd rfl (.inl rfl) (pe_meth (pv 0) T.cl Me__picked G__picked (hr.mono (by decide)) b__picked .nil pass0 (pa_cons (pv 2) (pa_cons (pv 1) pa_nil))))
  (pss_cons (ps_set (i := 4) sc_Guests_climbed.nd rfl (.inl rfl) (pe_lst (pa_cons (pe_tup (pa_cons (pv 2) (pa_cons (pv 3) pa_nil))) pa_nil)))
  (pss_cons (ps_while PassesOwn.never (pt_cmpR (op_neD hr.units) (pe_meth (pv 0) T.cl Me_mean G_mean (hr.mono (by decide)) b_mean .nil pass0 (pa_cons (pv 3) pa_nil)) (pv 2) (nomark _)) (pss_cons (ps_set (i := 2) sc_Guests_climbed.nd rfl (.inl rfl) (pe_meth (pv 0) T.cl Me_mean G_mean (hr.mono (by decide)) b_mean .nil pass0 (pa_cons (pv 3) pa_nil)))
  (pss_cons (ps_set (i := 3) sc_Guests_climbed.nd rfl (.inl rfl) (pe_meth (pv 0) T.cl Me__picked G__picked (hr.mono (by decide)) b__picked .nil pass0 (pa_cons (pv 2) (pa_cons (pv 1) pa_nil))))
  (pss_one (ps_expr (pe_bm PySem.F.plainAttrs_list PySem.F.slot_list_append PySem.F.type_list_append mt_append (pv 4) (pa_cons (pe_tup (pa_cons (pv 2) (pa_cons (pv 3) pa_nil))) pa_nil)))))))
  (pss_one (ps_ret (pv 4)))))))), ?_⟩
    refine ⟨fun σ H' => H' = H ∧ σ = [some (.ref p), some (capC cap), none, none, none], ?_, ?_⟩
    · cases cap with
      | none => exact ⟨_, rfl, rfl, _, rfl, iteF (iteF ⟨rfl, rfl⟩)⟩
      | some c =>
        have c0 := hc c rfl
        refine ⟨_, rfl, rfl, _, rfl, iteT ⟨_, rfl, _, _, rfl, rfl, _, rfl, ?_⟩⟩
        rw [decide_eq_false (show ¬ c < 0 by omega)]
        exact iteF ⟨rfl, rfl⟩
    rintro σ H0 ⟨rfl, rfl⟩
    refine ⟨(show (2 : Nat) ≤ sizeLine by decide), fun rt0 nrt => ?_⟩
    have s1 := same_upd (o := .tup [V.int 0, .int 1]) nrt
    obtain ⟨dx1, a1, i1⟩ := ins s1
    refine ⟨_, rfl, p, dx1, _, rfl, i1, fldsG_picked _ _, _, rfl, _, rfl, p, rt0, os, b, (0, 1), cap, rfl, gu.same s1, ok, l8, upd_same, by decide, by decide, hc, fun H2 lt0 s2 oS0 e2 => ?_⟩
    have s12 := s1.trans s2
    refine ⟨_, rfl, _, rfl, (show (2 : Nat) ≤ sizeLine by decide), fun t0 nt0 => ?_⟩
    have s3 := same_upd (o := .tup [V.ref rt0, .ref lt0]) nt0
    refine ⟨(show (1 : Nat) ≤ sizeLine by decide), fun PL nPL => ?_⟩
    have s4 := same_upd (o := .lst [V.ref t0]) nPL
    have nPL0 : H0 PL = none := by
      cases z : H0 PL with
      | none => rfl
      | some o => rw [(s12.trans s3) _ _ z] at nPL; cases nPL
    have mu0 : muF os b (0, 1) ≤ 256 := by
      unfold muF
      refine Nat.le_trans List.countP_le_length ?_
      rw [lots_len]
      exact Nat.pow_le_pow_right (by decide) l8
    refine ⟨fun m σ H' => ∃ (rt lt t : Addr) (r : Int × Int) (xs : List V), σ = [some (.ref p), some (capC cap), some (.ref rt), some (.ref lt), some (.ref PL)] ∧ Same H0 H' ∧ H' PL = some (.lst (xs ++ [.ref t])) ∧ H' t = some (.tup [.ref rt, .ref lt]) ∧ H' rt = some (.tup [.int r.1, .int r.2]) ∧ H' lt = some (.tup ((pickL os.length (overF os r) cap).map kI)) ∧ Rate os b cap r ∧ (∃ S, Ordd os.length (overF os r) S) ∧ r.2 ≤ 9000 ∧ muF os b r = m ∧ xs.length + m ≤ 256,
      ⟨_, rt0, lt0, t0, (0, 1), [], rfl, s12.trans (s3.trans s4), upd_same, s4 _ _ upd_same, s4 _ _ (s3 _ _ (s2 _ _ upd_same)), s4 _ _ (s3 _ _ e2), .zero hc, oS0, by decide, rfl, by simpa using mu0⟩, ?_⟩
    rintro m σ H3 ⟨rt, lt, t, r, xs, rfl, s5, ePL, et, ert, elt, hR, ⟨S, oS⟩, r29, em, xl⟩
    have r20 := hR.p2
    obtain ⟨dx3, a3, i3⟩ := ins s5
    refine ⟨_, rfl, p, dx3, _, rfl, i3, fldsG_mean _ _, _, rfl, p, lt, os, b, _, rfl, gu.same s5, ok, l8, b0, b1, tupAt elt, pickL_ok, fun H4 mt s6 emt => ?_⟩
    have hm : H4 mt = some (.tup [.int (meanF os b (pickL os.length (overF os r) cap)).1, .int (meanF os b (pickL os.length (overF os r) cap)).2]) := emt
    have eM : exF os r (pickL os.length (overF os r) cap) = exF os r (pickS (overF os r) cap S) := ex_pick oS hc
    have aM : Allow os.length cap (pickL os.length (overF os r) cap) := pickL_allow oS hc
    generalize eP : pickL os.length (overF os r) cap = M at *
    refine ⟨_, rfl, dP (meanF os b M), dP r, dP_at hm, dP_at (s6 _ _ ert), dP_shape _, dP_shape _, _, rfl, ?_⟩
    rw [dP_eqv]
    have s56 := s5.trans s6
    by_cases e : meanF os b M = r
    · rw [decide_eq_true e]
      refine iteF ⟨_, rfl, q _ PL xs t rt lt r s56 (s6 _ _ ePL) (s6 _ _ et) (s6 _ _ ert) (by rw [eP]; exact s6 _ _ elt) ⟨hR, ⟨S, oS⟩, by rw [eP]; exact e⟩⟩
    · rw [decide_eq_false e]
      have lt1 := rate_lt ok l8 b0 hR aM.1 (rate_le ok l8 b0 hR oS eM) e
      have mu1 := mu_lt ok l8 b0 r20 aM.1 lt1
      have hR2 : Rate os b cap (meanF os b M) := mean_rate ok l8 b0 aM
      have r92 := mean2 ok l8 b0 b1 aM.1
      refine iteT ⟨fun σ H' => ∃ (rt lt t : Addr) (xs : List V), σ = [some (.ref p), some (capC cap), some (.ref rt), some (.ref lt), some (.ref PL)] ∧ Same H0 H' ∧ H' PL = some (.lst (xs ++ [.ref t])) ∧ H' t = some (.tup [.ref rt, .ref lt]) ∧ H' rt = some (.tup [.int (meanF os b M).1, .int (meanF os b M).2]) ∧ H' lt = some (.tup ((pickL os.length (overF os (meanF os b M)) cap).map kI)) ∧ (∃ S, Ordd os.length (overF os (meanF os b M)) S) ∧ xs.length + muF os b (meanF os b M) ≤ 256, ?_, ?_⟩
      · rintro σ' H' ⟨rt', lt', t', xs', h1, h2, h3, h4, h5, h6, h7, h8⟩
        exact ⟨muF os b (meanF os b M), by omega, rt', lt', t', meanF os b M, xs', h1, h2, h3, h4, h5, h6, hR2, h7, r92, rfl, h8⟩
      · obtain ⟨dx4, a4, i4⟩ := ins s56
        refine ⟨_, rfl, p, dx4, _, rfl, i4, fldsG_mean _ _, _, rfl, p, lt, os, b, M, rfl, gu.same s56, ok, l8, b0, b1, tupAt (s6 _ _ elt), aM.1, fun H5 rt2 s7 ert2 => ?_⟩
        have s57 := s56.trans s7
        obtain ⟨dx5, a5, i5⟩ := ins s57
        have hr2 : H5 rt2 = some (.tup [.int (meanF os b M).1, .int (meanF os b M).2]) := ert2
        refine ⟨_, rfl, p, dx5, _, rfl, i5, fldsG_picked _ _, _, rfl, _, rfl, p, rt2, os, b, meanF os b M, cap, rfl, gu.same s57, ok, l8, hr2, by have := hR2.p2; omega, by omega, hc, fun H6 lt2 s8 oS2 elt2 => ?_⟩
        have s58 := s57.trans s8
        have ePL6 := s8 _ _ (s7 _ _ (s6 _ _ ePL))
        refine ⟨_, rfl, .inl ⟨rfl, _, lstAt ePL6⟩, _, rfl, _, rfl, (show (2 : Nat) ≤ sizeLine by decide), fun t2 nt2 => ?_⟩
        have st2 := same_upd (o := .tup [V.ref rt2, .ref lt2]) nt2
        have ePL7 := st2 _ _ ePL6
        have Pt : t2 ≠ PL := (ne_of_none ePL6 nt2).symm
        refine ⟨_, _, _, rfl, rfl, ePL7, by rw [List.length_append]; exact small1000 (by simp only [List.length_singleton]; omega), ?_⟩
        have keep : ∀ c o, H6 c = some o → (∀ ys, o ≠ .lst ys) → (upd (upd H6 t2 (.tup [V.ref rt2, .ref lt2])) PL (.lst (xs ++ [V.ref t] ++ [.ref t2]))) c = some o := fun c o e n => by
          rw [upd_ne (fun z => by subst z; rw [ePL6] at e; exact n _ (Option.some.inj e).symm)]
          exact st2 _ _ e
        refine ⟨rt2, lt2, t2, xs ++ [.ref t], rfl, same_at (s58.trans st2) nPL0, upd_same, ?_, keep _ _ (s8 _ _ hr2) (by intro _ z; cases z), keep _ _ elt2 (by intro _ z; cases z), oS2, by rw [List.length_append, List.length_singleton]; omega⟩
        rw [upd_ne Pt]
        exact upd_same
/-! Guests.best -/
def spBest (K : PySem.W.Frag) (C : Addr) : Sp := fun vs H Q _ => ∃ (p : Addr) (os : List Off) (b : Int) (cap : Option Int), vs = [.ref p, capC cap] ∧ GuAt C H p os b ∧ OffsOk os ∧ os.length ≤ 8 ∧ 1 ≤ b ∧ b ≤ 1000 ∧ capN cap ∧
  ∀ (H' : Hp) (t rt lt : Addr) (r : Int × Int), Same H H' → H' t = some (.tup [.ref lt, .ref rt]) → H' rt = some (.tup [.int r.1, .int r.2]) → H' lt = some (.tup ((pickL os.length (overF os r) cap).map kI)) → Best os b cap r → Q (.ref t) H'
theorem at_last {xs : List V} {y : V} : atI (xs ++ [y]) (-1) = some y := by
  unfold atI ixN
  rw [if_neg (by decide), if_pos (by rw [List.length_append, List.length_singleton]; omega)]
  show (xs ++ [y])[((-1 : Int) + ((xs ++ [y]).length : Nat)).toNat]? = _
  rw [List.length_append, List.length_singleton, show ((-1 : Int) + ((xs.length + 1 : Nat) : Int)).toNat = xs.length by omega, List.getElem?_append_right (Nat.le_refl _), Nat.sub_self]
  rfl
theorem ok_Guests_best {f C gC : Addr} {fd fdC : FuncData} {dvs : List V} {kws : List (Str × V)} (F : FunD K "best" "Guests.best" (defArgs s_Guests_best) (defBody s_Guests_best) (defScope s_Guests_best) dvs kws f fd) (T : TxtG K C)
    (Me__climbed : Meth K C "_climbed" gC) (G__climbed : FnOk P w K mg base CX0 3 gC fdC ["self", "most"] (spClimbed K C)) (b__climbed : Binds K fdC ["self", "most"] []) : FnOk P w K mg base CX0 4 f fd ["self", "most"] (spBest K C) := by
  refine F.ok (CX := CX0) sc_Guests_best (fun vs H Q E h => ?_) (fun cdv A outer s H vs Q E hr h => ?_)
  · obtain ⟨p, os, b, cap, rfl, _⟩ := h
    rfl
  · obtain ⟨p, os, b, cap, rfl, gu, ok, l8, b0, b1, hc, q⟩ := h
    obtain ⟨dx, a, ts, hp, _⟩ := id gu
    refine ⟨_, PSs.nox (pss_cons (ps_asg (pe_ix ix_list (pe_meth (pv 0) T.cl Me__climbed G__climbed (hr.mono (by decide)) b__climbed .nil pass0 (pa_cons (pv 1) pa_nil)) (pe_un un_neg pe_int) (fun _ _ => rfl)) (pg_tup (by rfl) (pgs_cons (pg_name (i := 2) sc_Guests_best.nd rfl (.inl rfl)) (pgs_cons (pg_name (i := 3) sc_Guests_best.nd rfl (.inl rfl)) pgs_nil))))
  (pss_one (ps_ret (pe_tup (pa_cons (pv 3) (pa_cons (pv 2) pa_nil)))))), ?_⟩
    refine ⟨_, rfl, p, dx, _, rfl, hp, fldsG_climbed _ _, _, rfl, p, os, b, cap, rfl, gu, ok, l8, b0, b1, hc, fun H2 l xs t rt lt r s2 el et ert elt hb => ?_⟩
    refine ⟨_, rfl, _, _, _, _, rfl, rfl, lstAt el, at_last, ?_⟩
    refine ⟨_, _, rfl, tupAt et, rfl, _, _, rfl, _, _, rfl, rfl, ?_⟩
    refine ⟨_, rfl, _, rfl, (show (2 : Nat) ≤ sizeLine by decide), fun t2 nt2 => ?_⟩
    have s3 := same_upd (o := .tup [V.ref lt, .ref rt]) nt2
    exact q _ t2 rt lt r (s2.trans s3) upd_same (s3 _ _ ert) (s3 _ _ elt) hb
end
end TK

namespace TK
open PySem PySem.Spec PyProof.Rows L2
/-! the greatest mean -/
structure Gr (os : List Off) (b : Int) (cap : Option Int) (r : Int × Int) : Prop where
  low : ∃ x y : Int, 0 ≤ x ∧ 1 ≤ y ∧ r = red x y
  has : ∃ L, Allow os.length cap L ∧ r.1 * (b + wgtF os L) = topF os L * r.2
  top : ∀ L, Allow os.length cap L → topF os L * r.2 ≤ r.1 * (b + wgtF os L)
theorem red_one {x y c d : Int} (h0 : 0 ≤ x) (hb : 1 ≤ y) (h1 : 0 ≤ c) (hd : 1 ≤ d) (e1 : c * (red x y).2 ≤ (red x y).1 * d) (e2 : (red x y).1 * d ≤ c * (red x y).2) : red x y = red c d := by
  have h1' := (red_le (c := c) (d := d) h0 hb).mp e1
  have h2' := (red_le' (c := c) (d := d) h0 hb).mp e2
  exact red_uniq h0 hb h1 hd (by omega)
/-- two rates of lots that no lot beats are the same -/
theorem Gr.uniq {os os' : List Off} {b : Int} {cap : Option Int} {r s : Int × Int} (h : Gr os b cap r) (k : Gr os' b cap s) (ok : OffsOk os) (l8 : os.length ≤ 8) (b1 : 1 ≤ b) (ok' : OffsOk os') (l8' : os'.length ≤ 8)
    (m : ∀ L, Allow os.length cap L → ∃ M, Allow os'.length cap M ∧ topF os' M = topF os L ∧ wgtF os' M = wgtF os L)
    (m' : ∀ L, Allow os'.length cap L → ∃ M, Allow os.length cap M ∧ topF os M = topF os' L ∧ wgtF os M = wgtF os' L) : r = s := by
  obtain ⟨⟨x, y, hx, hy, er⟩, ⟨L, aL, eL⟩, tp⟩ := h
  obtain ⟨⟨x', y', hx', hy', es⟩, ⟨L', aL', eL'⟩, tp'⟩ := k
  obtain ⟨M, aM, M1, M2⟩ := m L aL
  obtain ⟨M', aM', M1', M2'⟩ := m' L' aL'
  have t1 := top_bd ok l8 aL.1
  have w1 := wgt_bd ok l8 aL.1
  have t2 := top_bd ok' l8' aL'.1
  have w2 := wgt_bd ok' l8' aL'.1
  have q1 := tp' M aM
  have q2 := tp M' aM'
  rw [M1, M2] at q1
  rw [M1', M2'] at q2
  -- r = mean of L, s = mean of L'
  have e1 : r = red (topF os L) (b + wgtF os L) := by
    rw [er] at eL ⊢
    exact red_one hx hy t1.1 (by omega) (by rw [eL]; exact Int.le_refl _) (by rw [eL]; exact Int.le_refl _)
  have e2 : s = red (topF os' L') (b + wgtF os' L') := by
    rw [es] at eL' ⊢
    exact red_one hx' hy' t2.1 (by omega) (by rw [eL']; exact Int.le_refl _) (by rw [eL']; exact Int.le_refl _)
  rw [e2] at q1
  rw [e1] at q2
  have q1 := (red_le (c := topF os L) (d := b + wgtF os L) t2.1 (by omega)).mp q1
  have q2 := (red_le (c := topF os' L') (d := b + wgtF os' L') t1.1 (by omega)).mp q2
  rw [e1, e2]
  exact red_uniq t1.1 (by omega) t2.1 (by omega) (by omega)
theorem Gr.one {os : List Off} {b : Int} {cap : Option Int} {r s : Int × Int} (h : Gr os b cap r) (k : Gr os b cap s) (ok : OffsOk os) (l8 : os.length ≤ 8) (b1 : 1 ≤ b) : r = s :=
  h.uniq k ok l8 b1 ok l8 (fun L a => ⟨L, a, rfl, rfl⟩) (fun L a => ⟨L, a, rfl, rfl⟩)
theorem Best.gr {os : List Off} {b : Int} {cap : Option Int} {r : Int × Int} (ok : OffsOk os) (l8 : os.length ≤ 8) (b1 : 1 ≤ b) (hc : capN cap) (h : Best os b cap r) : Gr os b cap r := by
  obtain ⟨L, aL, e⟩ := h.rate.lot
  refine ⟨h.rate.low, ⟨L, aL, ?_⟩, fun L aL => rate_top' ok l8 b1 (h.top ok l8 b1 hc aL)⟩
  rw [ex_eq] at e
  rw [Int.mul_add, Int.mul_comm (topF os L)]
  omega
/-! turned about -/
def backL (n : Nat) (L : List Nat) : List Nat := (List.range n).filter fun j => decide (n - 1 - j ∈ L)
theorem range_back (n : Nat) : (List.range n).reverse = (List.range n).map (fun j => n - 1 - j) := by
  refine List.ext_getElem (by simp) fun i h1 h2 => ?_
  simp [List.getElem_reverse, List.getElem_map, List.getElem_range]
theorem back_sum {n : Nat} {L : List Nat} (kL : KsOk n L) (g : Nat → Int) : (L.map g).sum = ((backL n L).map fun j => g (n - 1 - j)).sum := by
  have e1 := sum_if L g (List.range n)
  rw [kL] at e1
  rw [← e1]
  have e2 := perm_sum ((List.reverse_perm (List.range n)).map fun k => if k ∈ L then g k else 0)
  rw [← e2, range_back, List.map_map]
  have e3 := sum_if (backL n L) (fun j => g (n - 1 - j)) (List.range n)
  have e4 : (List.range n).filter (fun k => decide (k ∈ backL n L)) = backL n L := KsOk.of_filter _
  rw [e4] at e3
  rw [← e3]
  refine sum_cong fun k hk => ?_
  have hk := List.mem_range.mp hk
  show (if n - 1 - k ∈ L then g (n - 1 - k) else 0) = _
  by_cases h : n - 1 - k ∈ L
  · rw [if_pos h, if_pos (by unfold backL; exact List.mem_filter.mpr ⟨List.mem_range.mpr hk, decide_eq_true h⟩)]
  · rw [if_neg h, if_neg (fun z => h (by unfold backL at z; exact of_decide_eq_true (List.mem_filter.mp z).2))]
theorem sum_ones : ∀ L : List Nat, (L.map fun _ => (1 : Int)).sum = (L.length : Int)
  | [] => rfl
  | _ :: L => by
    rw [List.map_cons, List.sum_cons, sum_ones L, List.length_cons]
    omega
theorem back_len {n : Nat} {L : List Nat} (kL : KsOk n L) : (backL n L).length = L.length := by
  have := back_sum kL fun _ => 1
  rw [sum_ones, sum_ones] at this
  omega
theorem back_get {os : List Off} {j : Nat} (h : j < os.length) : os.reverse.getD j (0, 1) = os.getD (os.length - 1 - j) (0, 1) := by
  rw [List.getD_eq_getElem?_getD, List.getD_eq_getElem?_getD, List.getElem?_reverse h]
theorem back_get' {os : List Off} {j : Nat} (h : j < os.length) : os.reverse.getD (os.length - 1 - j) (0, 1) = os.getD j (0, 1) := by
  rw [back_get (by omega)]
  congr 1
  omega
theorem back_lot {os : List Off} {cap : Option Int} {L : List Nat} (aL : Allow os.length cap L) : ∃ M, Allow os.reverse.length cap M ∧ topF os.reverse M = topF os L ∧ wgtF os.reverse M = wgtF os L := by
  have kM : KsOk os.length (backL os.length L) := KsOk.of_filter _
  refine ⟨backL os.length L, ⟨by rw [List.length_reverse]; exact kM, by rw [back_len aL.1]; exact aL.2⟩, ?_, ?_⟩
  · unfold topF
    rw [back_sum aL.1]
    exact sum_cong fun j hj => by rw [back_get (kM.lt j hj)]
  · unfold wgtF
    rw [back_sum aL.1]
    exact sum_cong fun j hj => by rw [back_get (kM.lt j hj)]
theorem Gr.back {os : List Off} {b : Int} {cap : Option Int} {r s : Int × Int} (h : Gr os b cap r) (k : Gr os.reverse b cap s) (ok : OffsOk os) (l8 : os.length ≤ 8) (b1 : 1 ≤ b) : r = s := by
  refine h.uniq k ok l8 b1 (fun o ho => ok o (List.mem_reverse.mp ho)) (by rw [List.length_reverse]; exact l8) (fun L a => back_lot a) fun L a => ?_
  obtain ⟨M, h1, h2, h3⟩ := back_lot a
  rw [List.reverse_reverse] at h1 h2 h3
  exact ⟨M, h1, h2, h3⟩
end TK

namespace TK
open PySem PySem.Spec PyProof.Rows L2
theorem op_catAK {X : Cx} {K : PySem.W.Frag} (h : X.K = K) : OpR X (binaryOp .Add) (rCatA K) := h ▸ op_catA
/-- tuples of the lots, at a row of addresses -/
def LotsAt (H : Hp) (us : List Addr) (Ls : List (List Nat)) : Prop := us.length = Ls.length ∧ ∀ (i : Nat) (u : Addr), us[i]? = some u → ∃ L, Ls[i]? = some L ∧ H u = some (.tup (L.map kI))
theorem LotsAt.same {H H' : Hp} {us : List Addr} {Ls : List (List Nat)} (h : LotsAt H us Ls) (s : Same H H') : LotsAt H' us Ls := ⟨h.1, fun i u e => by
  obtain ⟨L, e1, e2⟩ := h.2 i u e
  exact ⟨L, e1, s _ _ e2⟩⟩
theorem LotsAt.keep {H : Hp} {D : Addr} {xs : List V} {o : HO} {us : List Addr} {Ls : List (List Nat)} (h : LotsAt H us Ls) (e : H D = some (.lst xs)) : LotsAt (upd H D o) us Ls := ⟨h.1, fun i u e1 => by
  obtain ⟨L, e2, e3⟩ := h.2 i u e1
  refine ⟨L, e2, ?_⟩
  rw [upd_ne (fun z => by subst z; rw [e] at e3; cases e3)]
  exact e3⟩
theorem LotsAt.app {H : Hp} {us vs : List Addr} {Ls Ms : List (List Nat)} (h : LotsAt H us Ls) (k : LotsAt H vs Ms) : LotsAt H (us ++ vs) (Ls ++ Ms) := ⟨by rw [List.length_append, List.length_append, h.1, k.1], fun i u e => by
  by_cases hi : i < us.length
  · rw [List.getElem?_append_left hi] at e
    rw [List.getElem?_append_left (by rw [← h.1]; exact hi)]
    exact h.2 i u e
  · rw [List.getElem?_append_right (by omega)] at e
    rw [List.getElem?_append_right (by rw [← h.1]; omega), ← h.1]
    exact k.2 _ u e⟩
theorem LotsAt.get {H : Hp} {us : List Addr} {Ls : List (List Nat)} (h : LotsAt H us Ls) {i : Nat} {x : V} (e : (us.map V.ref)[i]? = some x) : ∃ u L, x = .ref u ∧ us[i]? = some u ∧ Ls[i]? = some L ∧ H u = some (.tup (L.map kI)) := by
  rw [List.getElem?_map] at e
  cases e1 : us[i]? with
  | none => rw [e1] at e; cases e
  | some u =>
    rw [e1] at e
    cases Option.some.inj e
    obtain ⟨L, e2, e3⟩ := h.2 i u e1
    exact ⟨u, L, rfl, rfl, e2, e3⟩
theorem lots_le {n : Nat} (h : n ≤ 8) : (lotsN n).length ≤ 256 := by
  rw [lots_len]
  exact Nat.pow_le_pow_right (by decide) h
section
variable {P : Program} {w : World} {K : PySem.W.Frag} {mg : Str → Option Value} {base : Heap}
/-! _law_few -/
def spFew (K : PySem.W.Frag) : Sp := fun vs H Q _ => ∃ (a : Addr) (ns : List Int) (s : Int), vs = [.ref a, .int s] ∧ SqL K H a (ns.map V.int) ∧ 0 ≤ s ∧ s < ns.length ∧ ∀ n : Nat, n ≤ 8 → Q (.int (n : Int)) H
theorem ok_L_few {f : Addr} {fd : FuncData} (F : Fun K "_law_few" "_law_few" s_L_few f fd) (d_L_part : Def P w K mg base "_law_part" 1 ["_law_pool_here", "_law_spot", "_law_under", "_law_size"] (spPart K)) : FnOk P w K mg base CX0 2 f fd ["_law_pool_here", "_law_spot"] (spFew K) := by
  refine F.ok sc_L_few (fun vs H Q E h => ?_) (fun cdv A outer s H vs Q E hr h => ?_)
  · obtain ⟨a, ns, s, rfl, _⟩ := h
    rfl
  · obtain ⟨a, ns, s, rfl, hS, h0, h1, q⟩ := h
    have q' : ∀ z : Int, 0 ≤ z → z ≤ 8 → Q (.int z) H := fun z z0 z8 => by
      have := q z.toNat (by omega)
      rwa [Int.toNat_of_nonneg z0] at this
    have u0 := part_lo (ns := ns) (s := s) (u := 1) (z := 6) (by decide)
    have u1 := part_hi (ns := ns) (s := s) (u := 1) (z := 6) (by decide)
    have w0 := part_lo (ns := ns) (s := s) (u := 48) (z := 3) (by decide)
    have w1 := part_hi (ns := ns) (s := s) (u := 48) (z := 3) (by decide)
    refine ⟨_, (pss_cons (ps_set (i := 2) sc_L_few.nd rfl (.inl rfl) (pe_callD d_L_part (hr.mono (by decide)) (by rfl) (pa_cons (pv 0) (pa_cons (pv 1) (pa_cons pe_int (pa_cons pe_int pa_nil))))))
  (pss_cons (ps_if (pt_cmpR op_eq (pe_callD d_L_part (hr.mono (by decide)) (by rfl) (pa_cons (pv 0) (pa_cons (pv 1) (pa_cons pe_int (pa_cons pe_int pa_nil))))) pe_int (nomark _)) (pss_one (ps_set (i := 2) sc_L_few.nd rfl (.inl rfl) (pe_op op_add pe_int (pe_callD d_L_part (hr.mono (by decide)) (by rfl) (pa_cons (pv 0) (pa_cons (pv 1) (pa_cons pe_int (pa_cons pe_int pa_nil)))))))) pss_nil)
  (pss_one (ps_ret (pv 2))))), ?_⟩
    refine ⟨_, rfl, _, rfl, a, ns, s, 1, 6, rfl, hS, h0, h1, by decide, by decide, by decide, ?_⟩
    refine ⟨_, rfl, _, rfl, a, ns, s, 6, 8, rfl, hS, h0, h1, by decide, by decide, by decide, rfl, _, rfl, ite2 (fun e => ?_) (fun e => ?_)⟩
    · exact ⟨_, rfl, _, rfl, a, ns, s, 48, 3, rfl, hS, h0, h1, by decide, by decide, by decide, _, _, rfl, rfl, _, rfl, q' _ (by omega) (by omega)⟩
    · exact ⟨_, rfl, q' _ (by omega) (by omega)⟩
/-! _law_cap -/
def spCap (K : PySem.W.Frag) : Sp := fun vs H Q _ => ∃ (a : Addr) (ns : List Int) (s : Int), vs = [.ref a, .int s] ∧ SqL K H a (ns.map V.int) ∧ 0 ≤ s ∧ s + 5 ≤ ns.length ∧ ∀ cap H', Same H H' → capN cap → Q (capC cap) H'
theorem cap_at {z : Int} (h0 : 0 ≤ z) (h1 : z < 10) : ∃ c : Int, 0 ≤ c ∧ atI [V.int 0, .int 1, .int 1, .int 1, .int 2, .int 2, .int 3, .int 4, .int 5, .int 8] z = some (.int c) := by
  have : z = 0 ∨ z = 1 ∨ z = 2 ∨ z = 3 ∨ z = 4 ∨ z = 5 ∨ z = 6 ∨ z = 7 ∨ z = 8 ∨ z = 9 := by omega
  rcases this with rfl | rfl | rfl | rfl | rfl | rfl | rfl | rfl | rfl | rfl <;> exact ⟨_, by decide, rfl⟩
/-! _law_lots -/
def spLots : Sp := fun vs H Q _ => ∃ n : Nat, vs = [.int (n : Int)] ∧ n ≤ 8 ∧ ∀ (H' : Hp) (p : Addr) (us : List Addr), H p = none → Same H H' → H' p = some (.lst (us.map V.ref)) → LotsAt H' us (lotsN n) → Q (.ref p) H'
theorem ok_L_lots {f : Addr} {fd : FuncData} (F : Fun K "_law_lots" "_law_lots" s_L_lots f fd) (m_range : mg "range" = none) : FnOk P w K mg base CX0 1 f fd ["_law_number"] spLots := by
  refine F.ok sc_L_lots (fun vs H Q E h => ?_) (fun cdv A outer s H vs Q E hr h => ?_)
  · obtain ⟨n, rfl, _⟩ := h
    rfl
  · obtain ⟨n, rfl, n8, q⟩ := h
    refine ⟨_, (pss_cons (ps_set (i := 1) sc_L_lots.nd rfl (.inl rfl) (pe_lst (pa_cons (pe_tup pa_nil) pa_nil)))
  (pss_cons (ps_for PassesOwn.never rfl (pi_range1 (by rfl) m_range (pa_cons (pv 0) pa_nil)) (pg_name (i := 2) sc_L_lots.nd rfl (.inr rfl))
    (pss_one (ps_set (i := 1) sc_L_lots.nd rfl (.inl rfl) (pe_op op_cat (pv 1) (pe_lc (own := [("_law_lot", 3)]) (by rfl) sc_L_lots.nd (pi_list (pv 1)) (blkOk_by (N := ["_law_number", "_law_lots_here", "_law_k", "_law_lot"]) (sc := defScope s_L_lots) (by decide +kernel)) (fun _ _ _ _ _ => (pg_name (i := 3) sc_L_lots.nd rfl (.inl rfl))) (fun _ _ _ _ _ => pts_nil) (fun _ _ _ _ _ => (pe_op (op_catAK (K := K) rfl) (pv 3) (pe_tup (pa_cons (pv 2) pa_nil)))))))))
  (pss_one (ps_ret (pv 1))))), ?_⟩
    refine ⟨Nat.zero_le _, fun t0 nt0 => ?_⟩
    have st0 := same_upd (o := .tup []) nt0
    refine ⟨(show (1 : Nat) ≤ sizeLine by decide), fun p0 np0 => ?_⟩
    have sp0 := same_upd (o := .lst [V.ref t0]) np0
    refine ⟨_, rfl, _, rfl, by omega, by omega, for_range (fun i σ H' => ∃ (p : Addr) (us : List Addr) (y2 y3 : Option V), σ = [some (.int (n : Int)), some (.ref p), y2, y3] ∧ H p = none ∧ Same H H' ∧ H' p = some (.lst (us.map V.ref)) ∧ LotsAt H' us (lotsN i)) ⟨p0, [t0], none, none, rfl, none_of st0 np0, st0.trans sp0, upd_same, rfl, fun i u e => ?_⟩ ?_ ?_⟩
    · match i, e with
      | 0, e =>
        cases Option.some.inj e
        exact ⟨[], rfl, sp0 _ _ upd_same⟩
      | i + 1, e => simp at e
    · rintro i σ H1 hi ⟨p, us, y2, y3, rfl, np, s1, ep, hL⟩
      have i8 : i < 8 := by omega
      have ul : us.length ≤ 256 := by rw [hL.1]; exact lots_le (by omega)
      refine ⟨_, rfl, _, rfl, p, rfl, ⟨_, lstAt ep⟩, fun D nD => ?_⟩
      refine lc_list (K := K) (a := p) (xs := us.map V.ref) (fun j H' => ∃ ws : List Addr, Same H1 H' ∧ H' D = some (.lst (ws.map V.ref)) ∧ LotsAt H' ws (((lotsN i).take j).map (· ++ [i]))) ⟨[], same_upd nD, upd_same, rfl, fun _ _ e => nomatch e⟩ (fun j H' _ hq => lstAt (hq.choose_spec.1 _ _ ep)) (fun j x H2 hx hq => ?_) (fun H2 hq => ?_)
      · obtain ⟨ws, s2, eD, hW⟩ := hq
        obtain ⟨u, L, rfl, e1, e2, e3⟩ := (hL.same s2).get hx
        have hj := (List.getElem?_eq_some_iff.mp e1).1
        have wl : ws.length ≤ 256 := by
          rw [hW.1, List.length_map, List.length_take]
          have := hL.1
          omega
        have kL : KsOk i L := lots_mem.mp (List.mem_of_getElem? e2)
        have Ll : L.length ≤ 8 := by have := kL.len; omega
        have fin : ∀ (H3 : Hp) (z : Addr), Same H2 H3 → H3 z = some (.tup ((L ++ [i]).map kI)) → ∃ ys, H3 D = some (.lst ys) ∧ ys.length < sizeLine ∧ ∃ ws : List Addr, Same H1 (upd H3 D (.lst (ys ++ [V.ref z]))) ∧ (upd H3 D (.lst (ys ++ [V.ref z]))) D = some (.lst (ws.map V.ref)) ∧ LotsAt (upd H3 D (.lst (ys ++ [V.ref z]))) ws (((lotsN i).take (j + 1)).map (· ++ [i])) := fun H3 z s3 ez => by
          refine ⟨_, s3 _ _ eD, by rw [List.length_map]; exact small1000 (by omega), ws ++ [z], same_at (s2.trans s3) nD, by rw [List.map_append]; exact upd_same, ?_⟩
          rw [List.take_add_one, e2, List.map_append]
          refine LotsAt.app ((hW.same s3).keep (s3 _ _ eD)) ⟨rfl, fun k u e => ?_⟩
          match k, e with
          | 0, e =>
            cases Option.some.inj e
            refine ⟨_, rfl, ?_⟩
            rw [upd_ne (fun q => by subst q; rw [s3 _ _ eD] at ez; cases ez)]
            exact ez
          | k + 1, e => simp at e
        refine ⟨rfl, yesT ⟨_, rfl, _, rfl, (show (1 : Nat) ≤ sizeLine by decide), fun v nv => ?_⟩⟩
        have sv := same_upd (o := .tup [V.int (0 + (i : Int))]) nv
        have ei : V.int (0 + (i : Int)) = kI i := by rw [Int.zero_add]; rfl
        refine ⟨u, v, L.map kI, [V.int (0 + (i : Int))], rfl, rfl, tupAt (sv _ _ e3), tupAt upd_same, by rw [List.length_map]; exact Nat.le_of_lt (small1000 (show L.length + 1 ≤ 1000 by omega)), fun z => ?_, (fun _ z => nomatch z), fun _ _ z nz => ?_⟩
        · have : L = [] := List.map_eq_nil_iff.mp z
          subst this
          exact fin _ v sv (by rw [upd_same, ei]; rfl)
        · exact fin _ z (sv.trans (same_upd nz)) (by rw [upd_same, ei, List.map_append]; rfl)
      obtain ⟨ws, s2, eD, hW⟩ := hq
      rw [List.length_map, hL.1, List.take_length] at hW
      have wl : ws.length ≤ 256 := by rw [hW.1, List.length_map, ← hL.1]; exact ul
      refine ⟨p, D, _, _, rfl, rfl, s2 _ _ ep, eD, by rw [List.length_map, List.length_map]; exact Nat.le_of_lt (small1000 (by omega)), fun p2 np2 => ?_⟩
      have s3 := same_upd (o := .lst (us.map V.ref ++ ws.map V.ref)) np2
      exact ⟨p2, us ++ ws, _, _, rfl, none_of (s1.trans s2) np2, s1.trans (s2.trans s3), by rw [List.map_append]; exact upd_same, ((hL.same s2).app hW).same s3⟩
    · rintro σ H1 ⟨p, us, y2, y3, rfl, np, s1, ep, hL⟩
      refine ⟨_, rfl, q H1 p us np s1 ep ?_⟩
      have : ((n : Int) - 0).toNat = n := by omega
      simpa using hL
/-! _law_excess -/
def spExc (K : PySem.W.Frag) : Sp := fun vs H Q _ => ∃ (g rt l : Addr) (ts : List Addr) (os : List Off) (r : Int × Int) (ks : List Nat), vs = [.ref g, .ref rt, .ref l] ∧ SqL K H g (ts.map V.ref) ∧ OffsAt H ts os ∧ OffsOk os ∧ os.length ≤ 8 ∧ H rt = some (.tup [.int r.1, .int r.2]) ∧ 0 ≤ r.2 ∧ r.2 ≤ 1000000 ∧ H l = some (.tup (ks.map kI)) ∧ KsOk os.length ks ∧
  ∀ H', Same H H' → Q (.int (exF os r ks)) H'
end
end TK

namespace TK
open PySem PySem.Spec PyProof.Rows L2
/-- the greatest of the first lots -/
structure Gm (os : List Off) (b : Int) (cap : Option Int) (Ls : List (List Nat)) (x y : Int) : Prop where
  x0 : 0 ≤ x
  x1 : x ≤ 8000000000
  y0 : 1 ≤ y
  y1 : y ≤ 9000
  has : ∃ L, Allow os.length cap L ∧ x * (b + wgtF os L) = topF os L * y
  top : ∀ L ∈ Ls, capO cap L.length → topF os L * y ≤ x * (b + wgtF os L)
theorem Gm.zero {os : List Off} {b : Int} {cap : Option Int} (hc : capN cap) : Gm os b cap [] 0 1 := by
  refine ⟨by decide, by decide, by decide, by decide, ⟨[], ⟨.nil, ?_⟩, by simp [topF]⟩, fun _ h => nomatch h⟩
  cases cap with
  | none => exact trivial
  | some c => exact hc c rfl
theorem Gm.gr {os : List Off} {b : Int} {cap : Option Int} {x y : Int} (h : Gm os b cap (lotsN os.length) x y) : Gr os b cap (red x y) := by
  obtain ⟨L, aL, e⟩ := h.has
  refine ⟨⟨x, y, h.x0, h.y0, rfl⟩, ⟨L, aL, ?_⟩, fun L aL => ?_⟩
  · have h1 := (red_le' (c := topF os L) (d := b + wgtF os L) h.x0 h.y0).mpr (Int.le_of_eq e)
    have h2 := (red_le (c := topF os L) (d := b + wgtF os L) h.x0 h.y0).mpr (Int.le_of_eq e.symm)
    omega
  · exact (red_le h.x0 h.y0).mpr (h.top L (lots_mem.mpr aL.1) aL.2)
theorem Gm.stay {os : List Off} {b : Int} {cap : Option Int} {Ls : List (List Nat)} {x y : Int} {L : List Nat} (h : Gm os b cap Ls x y) (k : capO cap L.length → topF os L * y ≤ x * (b + wgtF os L)) : Gm os b cap (Ls ++ [L]) x y :=
  ⟨h.x0, h.x1, h.y0, h.y1, h.has, fun M hM => (List.mem_append.mp hM).elim (h.top M) fun e => by rw [List.mem_singleton.mp e]; exact k⟩
theorem Gm.move {os : List Off} {b : Int} {cap : Option Int} {Ls : List (List Nat)} {x y : Int} {L : List Nat} (h : Gm os b cap Ls x y) (ok : OffsOk os) (l8 : os.length ≤ 8) (b0 : 1 ≤ b) (b1 : b ≤ 1000) (kLs : ∀ M ∈ Ls, KsOk os.length M) (aL : Allow os.length cap L) (k : x * (b + wgtF os L) < topF os L * y) : Gm os b cap (Ls ++ [L]) (topF os L) (b + wgtF os L) := by
  have t8 := top_bd ok l8 aL.1
  have w8 := wgt_bd ok l8 aL.1
  refine ⟨t8.1, t8.2, by omega, by omega, ⟨L, aL, rfl⟩, fun M hM c => ?_⟩
  rcases List.mem_append.mp hM with hM | hM
  · have h1 := h.top M hM c
    have wM := wgt_bd ok l8 (kLs M hM)
    have y0 := h.y0
    have bp : 0 < b + wgtF os M := by omega
    have bq : 0 < b + wgtF os L := by omega
    generalize b + wgtF os M = B at *
    generalize b + wgtF os L = B' at *
    generalize topF os M = A at *
    generalize topF os L = A' at *
    -- A * y ≤ x * B, x * B' < A' * y; so A * B' ≤ A' * B
    have c1 : A * y * B' ≤ x * B * B' := Int.mul_le_mul_of_nonneg_right h1 (by omega)
    have c2 : x * B' * B ≤ A' * y * B := Int.mul_le_mul_of_nonneg_right (Int.le_of_lt k) (by omega)
    have e1 : x * B * B' = x * B' * B := by simp only [Int.mul_assoc, Int.mul_comm, Int.mul_left_comm]
    have e2 : A * y * B' = A * B' * y := by simp only [Int.mul_assoc, Int.mul_comm, Int.mul_left_comm]
    have e3 : A' * y * B = A' * B * y := by simp only [Int.mul_assoc, Int.mul_comm, Int.mul_left_comm]
    exact Int.le_of_mul_le_mul_right (a := y) (by omega) (by omega)
  · rw [List.mem_singleton.mp hM]
    exact Int.le_refl _
section
variable {P : Program} {w : World} {K : PySem.W.Frag} {mg : Str → Option Value} {base : Heap}
/-! _law_greatest_mean -/
def spGm (K : PySem.W.Frag) : Sp := fun vs H Q _ => ∃ (g : Addr) (ts : List Addr) (os : List Off) (b : Int) (cap : Option Int), vs = [.ref g, .int b, capC cap] ∧ SqL K H g (ts.map V.ref) ∧ OffsAt H ts os ∧ OffsOk os ∧ os.length ≤ 8 ∧ 1 ≤ b ∧ b ≤ 1000 ∧ capN cap ∧
  ∀ H' t (r : Int × Int), Same H H' → H' t = some (.tup [.int r.1, .int r.2]) → Gr os b cap r → r.2 ≤ 9000 → 0 ≤ r.2 → Q (.ref t) H'
end
end TK

/-! _law_tops: the greatest means by their sizes; _law_floor_of -/
namespace TK
open PySem PySem.Spec PyProof.Rows L2
/-- for each size, the greatest of the lots so far -/
def TopsAt (H : Hp) (os : List Off) (b : Int) (m : Nat → List (List Nat)) (es : List Addr) : Prop := es.length = os.length + 1 ∧ ∀ (c : Nat) (e : Addr), es[c]? = some e → ∃ x y : Int, H e = some (.tup [.int x, .int y]) ∧ Gm os b (some (c : Int)) (m c) x y
theorem TopsAt.mono {H H' : Hp} {os : List Off} {b : Int} {m : Nat → List (List Nat)} {es : List Addr} (h : TopsAt H os b m es) (k : ∀ e x y, H e = some (.tup [V.int x, .int y]) → H' e = some (.tup [V.int x, .int y])) : TopsAt H' os b m es := ⟨h.1, fun c e he => by
  obtain ⟨x, y, h1, h2⟩ := h.2 c e he
  exact ⟨x, y, k _ _ _ h1, h2⟩⟩
theorem TopsAt.same {H H' : Hp} {os : List Off} {b : Int} {m : Nat → List (List Nat)} {es : List Addr} (h : TopsAt H os b m es) (s : Same H H') : TopsAt H' os b m es := h.mono fun _ _ _ e => s _ _ e
theorem TopsAt.wrote {H : Hp} {os : List Off} {b : Int} {m : Nat → List (List Nat)} {es : List Addr} {D : Addr} {xs : List V} {o : HO} (h : TopsAt H os b m es) (e : H D = some (.lst xs)) : TopsAt (upd H D o) os b m es := h.mono fun a x y he => by
  rw [upd_ne (ne_of he e nofun)]; exact he
theorem TopsAt.get {H : Hp} {os : List Off} {b : Int} {m : Nat → List (List Nat)} {es : List Addr} (h : TopsAt H os b m es) {c : Nat} (hc : c ≤ os.length) : ∃ e x y, es[c]? = some e ∧ H e = some (.tup [V.int x, .int y]) ∧ Gm os b (some (c : Int)) (m c) x y := by
  have hl : c < es.length := by rw [h.1]; omega
  obtain ⟨x, y, h1, h2⟩ := h.2 c _ (List.getElem?_eq_getElem hl)
  exact ⟨_, x, y, List.getElem?_eq_getElem hl, h1, h2⟩
theorem TopsAt.re {H : Hp} {os : List Off} {b : Int} {m m' : Nat → List (List Nat)} {es : List Addr} (h : TopsAt H os b m es) (k : ∀ c x y, c ≤ os.length → Gm os b (some (c : Int)) (m c) x y → Gm os b (some (c : Int)) (m' c) x y) : TopsAt H os b m' es := ⟨h.1, fun c e he => by
  obtain ⟨x, y, h1, h2⟩ := h.2 c e he
  have := (List.getElem?_eq_some_iff.mp he).1
  exact ⟨x, y, h1, k c x y (by have := h.1; omega) h2⟩⟩
theorem TopsAt.set {H : Hp} {os : List Off} {b : Int} {m m' : Nat → List (List Nat)} {es : List Addr} {c : Nat} {t : Addr} {x y : Int} (h : TopsAt H os b m es) (e : H t = some (.tup [V.int x, .int y])) (G : Gm os b (some (c : Int)) (m' c) x y) (hm : ∀ d, d ≤ os.length → d ≠ c → m' d = m d) : TopsAt H os b m' (es.set c t) := ⟨by rw [List.length_set]; exact h.1, fun d a he => by
  rw [List.getElem?_set] at he
  by_cases hd : c = d
  · subst hd
    rw [if_pos rfl] at he
    by_cases hl : c < es.length
    · rw [if_pos hl] at he
      cases Option.some.inj he
      exact ⟨x, y, e, G⟩
    · rw [if_neg hl] at he; cases he
  · rw [if_neg hd] at he
    obtain ⟨x', y', h1, h2⟩ := h.2 d a he
    have := (List.getElem?_eq_some_iff.mp he).1
    exact ⟨x', y', h1, by rw [hm d (by have := h.1; omega) (Ne.symm hd)]; exact h2⟩⟩
theorem set_self {α : Type} {es : List α} {c : Nat} {e : α} (h : es[c]? = some e) : es.set c e = es := by
  refine List.ext_getElem? fun i => ?_
  rw [List.getElem?_set]
  by_cases hc : c = i
  · subst hc
    rw [if_pos rfl, if_pos (List.getElem?_eq_some_iff.mp h).1, h]
  · rw [if_neg hc]
theorem TopsAt.step {H : Hp} {os : List Off} {b : Int} {m m' : Nat → List (List Nat)} {es : List Addr} {c : Nat} {t : Addr} {x y : Int} (h : TopsAt H os b m es) (ht : es[c]? = some t) (e : H t = some (.tup [V.int x, .int y])) (G : Gm os b (some (c : Int)) (m' c) x y) (hm : ∀ d, d ≤ os.length → d ≠ c → m' d = m d) : TopsAt H os b m' es := by
  have := h.set e G hm
  rwa [set_self ht] at this
theorem capS (c : Nat) : capN (some (c : Int)) := fun x e => by cases e; exact Int.natCast_nonneg c
/-- lots told by their greatest means, for each size -/
def TopsR (H : Hp) (os : List Off) (b : Int) (es : List Addr) : Prop := es.length = os.length + 1 ∧ ∀ (c : Nat) (e : Addr), es[c]? = some e → ∃ r : Int × Int, H e = some (.tup [.int r.1, .int r.2]) ∧ Gr os b (some (c : Int)) r ∧ 0 ≤ r.1 ∧ r.1 ≤ 8000000000 ∧ 1 ≤ r.2 ∧ r.2 ≤ 9000
theorem TopsR.same {H H' : Hp} {os : List Off} {b : Int} {es : List Addr} (h : TopsR H os b es) (s : Same H H') : TopsR H' os b es := ⟨h.1, fun c e he => by
  obtain ⟨r, h1, h2⟩ := h.2 c e he
  exact ⟨r, s _ _ h1, h2⟩⟩
theorem red_bd {x y : Int} (x0 : 0 ≤ x) (x1 : x ≤ 8000000000) (y0 : 1 ≤ y) (y1 : y ≤ 9000) : 0 ≤ (red x y).1 ∧ (red x y).1 ≤ 8000000000 ∧ 1 ≤ (red x y).2 ∧ (red x y).2 ≤ 9000 := by
  obtain ⟨g, g1, e1, e2, h1, h2, _⟩ := red_mul x0 y0
  have a1 : x / gcdI x y ≤ x := Int.ediv_le_self _ (by omega)
  have a2 : y / gcdI x y ≤ y := Int.ediv_le_self _ (by omega)
  have a3 : (red x y).1 ≤ x := a1
  have a4 : (red x y).2 ≤ y := a2
  exact ⟨h2, by omega, h1, by omega⟩
section
variable {P : Program} {w : World} {K : PySem.W.Frag} {mg : Str → Option Value} {base : Heap}
def spTops (K : PySem.W.Frag) : Sp := fun vs H Q _ => ∃ (g : Addr) (ts : List Addr) (os : List Off) (b : Int), vs = [.ref g, .int b] ∧ SqL K H g (ts.map V.ref) ∧ OffsAt H ts os ∧ OffsOk os ∧ os.length ≤ 8 ∧ 1 ≤ b ∧ b ≤ 1000 ∧
  ∀ H' D es, Same H H' → H' D = some (.lst (es.map V.ref)) → TopsR H' os b es → Q (.ref D) H'
theorem ok_L_tops {f : Addr} {fd : FuncData} (F : Fun K "_law_tops" "_law_tops" s_L_tops f fd) (m_sum : mg "sum" = none) (m_len : mg "len" = none) (m_range : mg "range" = none) (d_L_lots : Def P w K mg base "_law_lots" 1 ["_law_number"] spLots) (d_L_lowest : Def P w K mg base "_law_lowest" 1 ["_law_above", "_law_below"] spLowest) :
    FnOk P w K mg base CX0 2 f fd ["_law_goods_here", "_law_beside_here"] (spTops K) := by
  refine F.ok sc_L_tops (fun vs H Q E h => ?_) (fun cdv A outer s H vs Q E hr h => ?_)
  · obtain ⟨g, ts, os, b, rfl, _⟩ := h
    rfl
  · obtain ⟨g, ts, os, b, rfl, hg, hT, ok, l8, b0, b1, q⟩ := h
    have tl : (ts.map V.ref).length = os.length := by rw [List.length_map, hT.1]
    refine ⟨_, (pss_cons (ps_setLc (i := 2) (own := [("_law_k", 7)]) (by rfl) sc_L_tops.nd rfl rfl (sw_true rfl rfl rfl (by decide +kernel)) (pi_range1 (by rfl) m_range (pa_cons (pe_op op_add (pe_callB call_len_seq (by rfl) m_len (by decide +kernel) (pa_cons (pv 0) pa_nil)) pe_int) pa_nil)) (blkOk_by (N := ["_law_goods_here", "_law_beside_here", "_law_tops_here", "_law_lot", "_law_one", "_law_two", "_law_size", "_law_k"]) (sc := defScope s_L_tops) (by decide +kernel)) (fun _ _ _ _ _ => (pg_name (i := 7) sc_L_tops.nd rfl (.inl rfl))) (fun _ _ _ _ _ => pts_nil) (fun _ _ _ _ _ => (pe_tup (pa_cons pe_int (pa_cons pe_int pa_nil)))))
  (pss_cons (ps_for PassesOwn.never rfl (pi_list (pe_callD d_L_lots (hr.mono (by decide)) (by rfl) (pa_cons (pe_callB call_len_seq (by rfl) m_len (by decide +kernel) (pa_cons (pv 0) pa_nil)) pa_nil))) (pg_name (i := 3) sc_L_tops.nd rfl (.inl rfl))
    (pss_cons (ps_set (i := 4) sc_L_tops.nd rfl (.inl rfl) (pe_callB (cr_sum rfl) (by rfl) m_sum (by decide +kernel) (pa_cons (pe_lc (own := [("_law_k", 7)]) (by rfl) sc_L_tops.nd (pi_tup (pv 3)) (blkOk_by (N := ["_law_goods_here", "_law_beside_here", "_law_tops_here", "_law_lot", "_law_one", "_law_two", "_law_size", "_law_k"]) (sc := defScope s_L_tops) (by decide +kernel)) (fun _ _ _ _ _ => (pg_name (i := 7) sc_L_tops.nd rfl (.inl rfl))) (fun _ _ _ _ _ => pts_nil) (fun _ _ _ _ _ => (pe_op op_mul (pe_ix (ix_tupK (K := K) rfl) (pe_ix (ix_listK (K := K) rfl) (pv 0) (pv 7) (fun _ _ => rfl)) pe_int (fun _ _ => rfl)) (pe_ix (ix_tupK (K := K) rfl) (pe_ix (ix_listK (K := K) rfl) (pv 0) (pv 7) (fun _ _ => rfl)) pe_int (fun _ _ => rfl))))) pa_nil)))
  (pss_cons (ps_set (i := 5) sc_L_tops.nd rfl (.inl rfl) (pe_op op_add (pv 1) (pe_callB (cr_sum rfl) (by rfl) m_sum (by decide +kernel) (pa_cons (pe_lc (own := [("_law_k", 7)]) (by rfl) sc_L_tops.nd (pi_tup (pv 3)) (blkOk_by (N := ["_law_goods_here", "_law_beside_here", "_law_tops_here", "_law_lot", "_law_one", "_law_two", "_law_size", "_law_k"]) (sc := defScope s_L_tops) (by decide +kernel)) (fun _ _ _ _ _ => (pg_name (i := 7) sc_L_tops.nd rfl (.inl rfl))) (fun _ _ _ _ _ => pts_nil) (fun _ _ _ _ _ => (pe_ix (ix_tupK (K := K) rfl) (pe_ix (ix_listK (K := K) rfl) (pv 0) (pv 7) (fun _ _ => rfl)) pe_int (fun _ _ => rfl)))) pa_nil))))
  (pss_one (ps_for PassesOwn.never rfl (pi_range2 (by rfl) m_range (pa_cons (pe_callB call_len_seq (by rfl) m_len (by decide +kernel) (pa_cons (pv 3) pa_nil)) (pa_cons (pe_op op_add (pe_callB call_len_seq (by rfl) m_len (by decide +kernel) (pa_cons (pv 0) pa_nil)) pe_int) pa_nil))) (pg_name (i := 6) sc_L_tops.nd rfl (.inl rfl))
    (pss_one (ps_if (pt_cmpR op_gt (pe_op op_mul (pv 4) (pe_ix ix_tup (pe_ix ix_list (pv 2) (pv 6) (fun _ _ => rfl)) pe_int (fun _ _ => rfl))) (pe_op op_mul (pe_ix ix_tup (pe_ix ix_list (pv 2) (pv 6) (fun _ _ => rfl)) pe_int (fun _ _ => rfl)) (pv 5)) (nomark _)) (pss_one (ps_asg (pe_tup (pa_cons (pv 4) (pa_cons (pv 5) pa_nil))) (pg_sub (pv 2) (pv 6) set_list))) pss_nil)))))))
  (pss_one (ps_ret (pe_lc (own := [("_law_one", 4), ("_law_two", 5)]) (by rfl) sc_L_tops.nd (pi_list (pv 2)) (blkOk_by (N := ["_law_goods_here", "_law_beside_here", "_law_tops_here", "_law_lot", "_law_one", "_law_two", "_law_size", "_law_k"]) (sc := defScope s_L_tops) (by decide +kernel)) (fun _ _ _ _ _ => (pg_tupK (K := K) (n := 2) rfl (by rfl) (pgs_cons (pg_name (i := 4) sc_L_tops.nd rfl (.inl rfl)) (pgs_cons (pg_name (i := 5) sc_L_tops.nd rfl (.inl rfl)) pgs_nil)))) (fun _ _ _ _ _ => pts_nil) (fun _ _ _ _ _ => (pe_callD d_L_lowest (hr.mono (by decide)) (by rfl) (pa_cons (pv 4) (pa_cons (pv 5) pa_nil))))))))), ?_⟩
    refine ⟨_, rfl, g, _, rfl, .inl hg, _, _, rfl, rfl, _, rfl, by omega, by omega, fun D nD => ?_⟩
    have n9 : ((((ts.map V.ref).length : Nat) : Int) + 1 - 0).toNat = os.length + 1 ∧ (((ts.map V.ref).length : Nat) : Int) + 1 = ((os.length + 1 : Nat) : Int) := ⟨by omega, by omega⟩
    refine lc_range (fun i H' => ∃ es : List Addr, es.length = i ∧ Same H H' ∧ H' D = some (.lst (es.map V.ref)) ∧ ∀ e ∈ es, H' e = some (.tup [.int 0, .int 1])) ⟨[], rfl, same_upd nD, upd_same, nofun⟩ (fun i H1 hi hq => ?_) (fun H1 hq => ?_)
    · obtain ⟨es, el, s1, eD, hE⟩ := hq
      have hi9 : i ≤ 8 := by omega
      refine ⟨rfl, yesT ⟨(show (2 : Nat) ≤ sizeLine by decide), fun e ne => ?_⟩⟩
      have se := same_upd (o := .tup [V.int 0, .int 1]) ne
      have e1 := upd_same (H := H1) (a := e) (o := .tup [V.int 0, .int 1])
      generalize upd H1 e (.tup [V.int 0, .int 1]) = H2 at se e1 ⊢
      have eD2 := se _ _ eD
      refine ⟨_, eD2, by rw [List.length_map]; exact small1000 (by omega), es ++ [e], by rw [List.length_append, el]; rfl, same_at (s1.trans se) nD, by rw [upd_same, List.map_append]; rfl, fun x hx => ?_⟩
      rcases List.mem_append.mp hx with hx | hx
      · rw [upd_ne (ne_of (se _ _ (hE x hx)) eD2 nofun)]; exact se _ _ (hE x hx)
      · rw [List.mem_singleton.mp hx, upd_ne (ne_of e1 eD2 nofun)]; exact e1
    obtain ⟨es0, el0, s1, eD, hE⟩ := hq
    have el0 : es0.length = os.length + 1 := by rw [el0]; omega
    refine ⟨_, rfl, g, _, rfl, .inl (s1.seq hg), os.length, by rw [tl]; rfl, l8, fun H2 lp us nlp s2 elp hL => ?_⟩
    have eD2 := s2 _ _ eD
    have s12 := s1.trans s2
    have lD : lp ≠ D := (ne_of_none eD nlp).symm
    have T0 : TopsAt H2 os b (fun _ => (lotsN os.length).take 0) es0 := ⟨el0, fun c e he => ⟨0, 1, s2 _ _ (hE e (List.mem_of_getElem? he)), .zero (capS c)⟩⟩
    have kp0 : ∀ {H'}, (∀ c o, H2 c = some o → c ≠ D → H' c = some o) → Same H H' := fun k c o e => k _ _ (s12 _ _ e) (ne_of_none e nD)
    have lots8 := lots_le l8
    refine ⟨lp, rfl, ⟨_, lstAt elp⟩, for_list (K := K) (a := lp) (xs := us.map V.ref) (fun i σ H' => ∃ (es : List Addr) (y3 y4 y5 y6 : Option V), σ = [some (.ref g), some (.int b), some (.ref D), y3, y4, y5, y6, none] ∧ (∀ c o, H2 c = some o → c ≠ D → H' c = some o) ∧ H' D = some (.lst (es.map V.ref)) ∧ TopsAt H' os b (fun _ => (lotsN os.length).take i) es) ⟨es0, _, _, _, _, rfl, fun _ _ e _ => e, eD2, T0⟩ (fun i σ H' _ hq => by
      obtain ⟨_, _, _, _, _, rfl, k, _⟩ := hq
      exact lstAt (k _ _ elp lD)) ?_ ?_⟩
    · rintro i x σ H3 hx ⟨es, y3, y4, y5, y6, rfl, k3, eD3, hE3⟩
      have s03 := kp0 k3
      have hL3 : LotsAt H3 us (lotsN os.length) := ⟨hL.1, fun j u e => by
        obtain ⟨L, h1, h2⟩ := hL.2 j u e
        exact ⟨L, h1, k3 _ _ h2 (ne_of h2 eD2 nofun)⟩⟩
      obtain ⟨l, ks, rfl, e1, e2, hl⟩ := hL3.get hx
      have kok : KsOk os.length ks := lots_mem.mp (List.mem_of_getElem? e2)
      have kl := kok.len
      have w8 := wgt_bd ok l8 kok
      have t8 := top_bd ok l8 kok
      have eT : (lotsN os.length).take (i + 1) = (lotsN os.length).take i ++ [ks] := by rw [List.take_add_one, e2]; rfl
      have kLs : ∀ M ∈ (lotsN os.length).take i, KsOk os.length M := fun M hM => lots_mem.mp (List.mem_of_mem_take hM)
      refine ⟨_, rfl, l, rfl, ⟨_, tupAt hl⟩, fun D1 nD1 => ?_⟩
      refine lc_tup (K := K) (a := l) (xs := ks.map kI) (fun i H' => H' = upd H3 D1 (.lst (((ks.map fun k => (os.getD k (0, 1)).1 * (os.getD k (0, 1)).2).map V.int).take i))) rfl (fun i H' _ hq => by subst hq; exact tupAt ((same_upd nD1) _ _ hl)) (fun i x H' hx hq => ?_) (fun H' hq => ?_)
      · subst hq
        obtain ⟨k, ek, rfl⟩ := kI_at hx
        have hi8 : i < 8 := by have := (List.getElem?_eq_some_iff.mp ek).1; omega
        have s3 := s03.trans (same_upd (o := .lst (((ks.map fun k => (os.getD k (0, 1)).1 * (os.getD k (0, 1)).2).map V.int).take i)) nD1)
        obtain ⟨t, t1, t2, t3⟩ := offs_at (hT.same s3) (kok.lt k (List.mem_of_getElem? ek))
        have oo := getD_ok ok (kok.lt k (List.mem_of_getElem? ek))
        have m1 := oo.c0
        have m2 := oo.c1
        refine ⟨rfl, yesT ⟨_, rfl, _, rfl, _, _, _, _, rfl, rfl, s3.seq hg, t2, _, _, _, _, rfl, rfl, tupAt t3, rfl, _, rfl, _, rfl, _, _, _, _, rfl, rfl, s3.seq hg, t2, _, _, _, _, rfl, rfl, tupAt t3, rfl, _, _, rfl, rfl, .inl ⟨by omega, by omega⟩, _, upd_same, by rw [List.length_take]; exact small1000 (by omega), ?_⟩⟩
        rw [upd_twice, List.take_add_one, List.getElem?_map, List.getElem?_map, ek]
        rfl
      subst hq
      rw [List.take_of_length_le (by rw [List.length_map, List.length_map, List.length_map]; omega)]
      have s3 := same_upd (o := .lst ((ks.map fun k => (os.getD k (0, 1)).1 * (os.getD k (0, 1)).2).map V.int)) nD1
      refine ⟨D1, _, rfl, lstAt upd_same, ?_⟩
      generalize upd H3 D1 (.lst ((ks.map fun k => (os.getD k (0, 1)).1 * (os.getD k (0, 1)).2).map V.int)) = H4 at s3 ⊢
      have s13 := s03.trans s3
      refine ⟨_, rfl, _, rfl, l, rfl, ⟨_, tupAt (s3 _ _ hl)⟩, fun D2 nD2 => ?_⟩
      refine lc_tup (K := K) (a := l) (xs := ks.map kI) (fun i H' => H' = upd H4 D2 (.lst (((ks.map fun k => (os.getD k (0, 1)).2).map V.int).take i))) rfl (fun i H' _ hq => by subst hq; exact tupAt ((same_upd nD2) _ _ (s3 _ _ hl))) (fun i x H' hx hq => ?_) (fun H' hq => ?_)
      · subst hq
        obtain ⟨k, ek, rfl⟩ := kI_at hx
        have hi8 : i < 8 := by have := (List.getElem?_eq_some_iff.mp ek).1; omega
        have s4 := s13.trans (same_upd (o := .lst (((ks.map fun k => (os.getD k (0, 1)).2).map V.int).take i)) nD2)
        obtain ⟨t, t1, t2, t3⟩ := offs_at (hT.same s4) (kok.lt k (List.mem_of_getElem? ek))
        refine ⟨rfl, yesT ⟨_, rfl, _, rfl, _, _, _, _, rfl, rfl, s4.seq hg, t2, _, _, _, _, rfl, rfl, tupAt t3, rfl, _, upd_same, by rw [List.length_take]; exact small1000 (by omega), ?_⟩⟩
        rw [upd_twice, List.take_add_one, List.getElem?_map, List.getElem?_map, ek]
        rfl
      subst hq
      rw [List.take_of_length_le (by rw [List.length_map, List.length_map, List.length_map]; omega)]
      have s4 := s3.trans (same_upd (o := .lst ((ks.map fun k => (os.getD k (0, 1)).2).map V.int)) nD2)
      refine ⟨D2, _, rfl, lstAt upd_same, _, _, rfl, rfl, ?_⟩
      generalize upd H4 D2 (.lst ((ks.map fun k => (os.getD k (0, 1)).2).map V.int)) = H5 at s4 ⊢
      have eD5 := s4 _ _ eD3
      have hE5 := hE3.same s4
      have hl5 := s4 _ _ hl
      have s05 := s03.trans s4
      have kk : ks.length = (ks.map kI).length := by rw [List.length_map]
      refine ⟨_, rfl, l, _, rfl, .inr (tupAt hl5), _, rfl, g, _, rfl, .inl (s05.seq hg), _, _, rfl, rfl, _, _, rfl, ⟨by omega, by omega, by omega, by omega⟩, for_range (fun j σ H' => ∃ (es : List Addr) (y6 : Option V), σ = [some (.ref g), some (.int b), some (.ref D), some (.ref l), some (.int (topF os ks)), some (.int (b + wgtF os ks)), y6, none] ∧ (∀ c o, H5 c = some o → c ≠ D → H' c = some o) ∧ H' D = some (.lst (es.map V.ref)) ∧ TopsAt H' os b (fun c => if c < ks.length + j then (lotsN os.length).take (i + 1) else (lotsN os.length).take i) es) ⟨es, _, rfl, fun _ _ e _ => e, eD5, hE5.re fun c x y hc h => ?_⟩ ?_ ?_⟩
      · show Gm os b (some (c : Int)) (if c < ks.length + 0 then _ else _) x y
        by_cases hk : c < ks.length + 0
        · rw [if_pos hk, eT]
          exact h.stay fun z => by have z' : ((ks.length : Nat) : Int) ≤ (c : Int) := z; omega
        · rw [if_neg hk]; exact h
      · rintro j σ H6 hj ⟨fs, y6', rfl, k6, eD6, hE6⟩
        have hc : ks.length + j ≤ os.length := by omega
        obtain ⟨e, x0, y0, ee, he, hG⟩ := hE6.get hc
        rw [if_neg (by omega)] at hG
        have ecI : (((ks.map kI).length : Nat) : Int) + (j : Int) = ((ks.length + j : Nat) : Int) := by omega
        rw [ecI]
        have at_c : atI (fs.map V.ref) ((ks.length + j : Nat) : Int) = some (V.ref e) := atI_in (Int.natCast_nonneg _) (by rw [Int.toNat_natCast, List.getElem?_map, ee]; rfl)
        have x1 := hG.x0
        have x2 := hG.x1
        have y1 := hG.y0
        have y2 := hG.y1
        have sD6 := lstAt (K := K) eD6
        refine ⟨_, rfl, _, rfl, _, rfl, _, _, _, _, rfl, rfl, sD6, at_c, _, _, _, _, rfl, rfl, tupAt he, rfl, _, _, rfl, rfl, .inl ⟨by have := t8.1; show _ < topF os ks; omega, by have := t8.2; show topF os ks < _; omega⟩, _, rfl, _, rfl, _, _, _, _, rfl, rfl, sD6, at_c, _, _, _, _, rfl, rfl, tupAt he, rfl, _, rfl, _, _, rfl, rfl, .inl ⟨by omega, by omega⟩, _, _, rfl, rfl, _, rfl, ite2 (fun hgt => ?_) (fun hgt => ?_)⟩
        · have gt : x0 * (b + wgtF os ks) < topF os ks * y0 := of_decide_eq_true hgt
          refine ⟨_, rfl, _, rfl, (show (2 : Nat) ≤ sizeLine by decide), fun t nt => ?_⟩
          have st := same_upd (o := .tup [V.int (topF os ks), .int (b + wgtF os ks)]) nt
          have et := upd_same (H := H6) (a := t) (o := .tup [V.int (topF os ks), .int (b + wgtF os ks)])
          generalize upd H6 t (.tup [V.int (topF os ks), .int (b + wgtF os ks)]) = H7 at st et ⊢
          have eD7 := st _ _ eD6
          refine ⟨_, rfl, _, rfl, D, _, _, ks.length + j, rfl, rfl, eD7, ixN_at (by rw [List.length_map, hE6.1]; omega), fs.set (ks.length + j) t, _, rfl, fun c o e' n => by rw [upd_ne n]; exact st _ _ (k6 _ _ e' n), by rw [upd_same, List.map_set], ?_⟩
          refine TopsAt.wrote ((hE6.same st).set et ?_ fun d hd hn => ?_) eD7
          · show Gm os b (some ((ks.length + j : Nat) : Int)) (if ks.length + j < ks.length + (j + 1) then _ else _) _ _
            rw [if_pos (by omega), eT]
            exact hG.move ok l8 b0 b1 kLs ⟨kok, show ((ks.length : Nat) : Int) ≤ ((ks.length + j : Nat) : Int) by omega⟩ gt
          · show (if d < ks.length + (j + 1) then _ else _) = if d < ks.length + j then _ else _
            by_cases h : d < ks.length + j
            · rw [if_pos h, if_pos (by omega)]
            · rw [if_neg h, if_neg (by omega)]
        · have le : topF os ks * y0 ≤ x0 * (b + wgtF os ks) := Int.not_lt.mp fun z => hgt (decide_eq_true z)
          refine ⟨fs, _, rfl, k6, eD6, hE6.step ee he ?_ fun d hd hn => ?_⟩
          · show Gm os b (some ((ks.length + j : Nat) : Int)) (if ks.length + j < ks.length + (j + 1) then _ else _) _ _
            rw [if_pos (by omega), eT]
            exact hG.stay fun _ => le
          · show (if d < ks.length + (j + 1) then _ else _) = if d < ks.length + j then _ else _
            by_cases h : d < ks.length + j
            · rw [if_pos h, if_pos (by omega)]
            · rw [if_neg h, if_neg (by omega)]
      · rintro σ H6 ⟨fs, y6', rfl, k6, eD6, hE6⟩
        refine ⟨fs, _, _, _, _, rfl, fun c o e n => k6 _ _ (s4 _ _ (k3 _ _ e n)) n, eD6, hE6.re fun c x y hc h => ?_⟩
        have h : Gm os b (some (c : Int)) (if c < ks.length + _ then _ else _) x y := h
        rw [if_pos (by omega)] at h
        exact h
    · rintro σ H3 ⟨es, y3, y4, y5, y6, rfl, k3, eD3, hE3⟩
      have s03 := kp0 k3
      have hE3 : TopsAt H3 os b (fun _ => lotsN os.length) es := hE3.re fun c x y _ h => by
        have h : Gm os b (some (c : Int)) ((lotsN os.length).take _) x y := h
        rw [List.length_map, hL.1, List.take_length] at h
        exact h
      refine ⟨_, rfl, D, rfl, ⟨_, lstAt eD3⟩, fun R nR => ?_⟩
      refine lc_list (K := K) (a := D) (xs := es.map V.ref) (fun i H' => ∃ rs : List Addr, rs.length = i ∧ Same H3 H' ∧ H' R = some (.lst (rs.map V.ref)) ∧ ∀ (c : Nat) (e : Addr), rs[c]? = some e → ∃ r : Int × Int, H' e = some (.tup [.int r.1, .int r.2]) ∧ Gr os b (some (c : Int)) r ∧ 0 ≤ r.1 ∧ r.1 ≤ 8000000000 ∧ 1 ≤ r.2 ∧ r.2 ≤ 9000) ⟨[], rfl, same_upd nR, upd_same, nofun⟩ (fun i H' _ hq => by
        obtain ⟨_, _, s, _⟩ := hq
        exact lstAt (s _ _ eD3)) (fun i x H4 hx hq => ?_) (fun H4 hq => ?_)
      · obtain ⟨rs, rl, s4, eR, hR⟩ := hq
        rw [List.getElem?_map] at hx
        cases ex : es[i]? with
        | none => rw [ex] at hx; cases hx
        | some e =>
        rw [ex] at hx
        cases Option.some.inj hx
        have hi := (List.getElem?_eq_some_iff.mp ex).1
        have hi9 : i ≤ 8 := by have := hE3.1; omega
        obtain ⟨x0, y0, he, hG⟩ := (hE3.same s4).2 i e ex
        refine gTup2 he [some (.ref g), some (.int b), some (.ref D), y3, some (.int x0), some (.int y0), y6, none] (by simp [wipe, L2.start]) ?_
        refine ⟨by simp [wipe, L2.start], yesT ⟨_, rfl, _, rfl, x0, y0, rfl, hG.x0, hG.x1, hG.y0, hG.y1, fun H5 t s5 et => ?_⟩⟩
        have eR5 := s5 _ _ eR
        refine ⟨_, eR5, by rw [List.length_map, rl]; exact small1000 (by omega), rs ++ [t], by rw [List.length_append, rl]; rfl, same_at (s4.trans s5) nR, by rw [upd_same, List.map_append]; rfl, fun c e' he' => ?_⟩
        have keep : ∀ a r, H5 a = some (.tup r) → (upd H5 R (.lst (rs.map V.ref ++ [V.ref t]))) a = some (.tup r) := fun a r e => by rw [upd_ne (ne_of e eR5 nofun)]; exact e
        rw [List.getElem?_append] at he'
        split at he'
        · obtain ⟨r, h1, h2⟩ := hR c e' he'
          exact ⟨r, keep _ _ (s5 _ _ h1), h2⟩
        · have ec : c = i := by
            have := (List.getElem?_eq_some_iff.mp he').1
            rw [List.length_singleton] at this
            omega
          subst ec
          rw [rl, Nat.sub_self] at he'
          cases Option.some.inj he'
          exact ⟨red x0 y0, keep _ _ et, hG.gr, red_bd hG.x0 hG.x1 hG.y0 hG.y1⟩
      · obtain ⟨rs, rl, s4, eR, hR⟩ := hq
        rw [List.length_map, hE3.1] at rl
        exact q H4 R rs (s03.trans s4) eR ⟨rl, hR⟩
def spFloorOf (K : PySem.W.Frag) : Sp := fun vs H Q _ => ∃ (t : Addr) (v : Int) (r : Int × Int), vs = [.int v, .ref t] ∧ SqT K H t [.int r.1, .int r.2] ∧ 0 ≤ r.1 ∧ r.1 ≤ 8000000000 ∧ 1 ≤ r.2 ∧ r.2 ≤ 9000 ∧ v = (r.1 + r.2 - 1) / r.2 ∧ Q (.bl true) H
theorem ok_L_floor_of {f : Addr} {fd : FuncData} (F : Fun K "_law_floor_of" "_law_floor_of" s_L_floor_of f fd) (d_L_integer : Def P w K mg base "_law_integer" 1 ["_law_got"] spInteger) : FnOk P w K mg base CX0 2 f fd ["_law_got", "_law_rate"] (spFloorOf K) := by
  refine F.ok sc_L_floor_of (fun vs H Q E h => ?_) (fun cdv A outer s H vs Q E hr h => ?_)
  · obtain ⟨t, v, r, rfl, _⟩ := h
    rfl
  · obtain ⟨t, v, r, rfl, ht, x0, x1, y0, y1, ev, q⟩ := h
    have h1 : v * r.2 ≥ r.1 := by
      have := Int.mul_ediv_add_emod (r.1 + r.2 - 1) r.2
      have m := Int.emod_lt_of_pos (r.1 + r.2 - 1) (show 0 < r.2 by omega)
      rw [← ev, Int.mul_comm] at this
      omega
    have h2 : (v - 1) * r.2 < r.1 := by
      have := Int.mul_ediv_add_emod (r.1 + r.2 - 1) r.2
      have m := Int.emod_nonneg (r.1 + r.2 - 1) (show r.2 ≠ 0 by omega)
      rw [← ev, Int.mul_comm] at this
      rw [Int.sub_mul]
      omega
    refine ⟨_, (pss_one (ps_ret (pe_and (pe_callD d_L_integer (hr.mono (by decide)) (by rfl) (pa_cons (pv 0) pa_nil)) (pe_and (pe_cmpR op_ge (pe_op op_mul (pv 0) (pe_ix ix_tup (pv 1) pe_int (fun _ _ => rfl))) (pe_ix ix_tup (pv 1) pe_int (fun _ _ => rfl)) (nomark _)) (pe_one (pe_cmpR op_lt (pe_op op_mul (pe_op op_sub (pv 0) pe_int) (pe_ix ix_tup (pv 1) pe_int (fun _ _ => rfl))) (pe_ix ix_tup (pv 1) pe_int (fun _ _ => rfl)) (nomark _))))))), ?_⟩
    have vp : v ≤ 8000009000 := by
      have : (r.1 + r.2 - 1) / r.2 ≤ r.1 + r.2 - 1 := Int.ediv_le_self _ (by omega)
      omega
    have v0 : 0 ≤ v := by rw [ev]; exact Int.ediv_nonneg (by omega) (by omega)
    refine ⟨_, rfl, v, rfl, _, rfl, ?_⟩
    refine iteT ⟨_, rfl, _, rfl, _, _, _, _, rfl, rfl, ht, rfl, _, _, rfl, rfl, .inl ⟨by omega, by omega⟩, _, rfl, _, _, _, _, rfl, rfl, ht, rfl, _, _, rfl, rfl, _, rfl, ?_⟩
    rw [decide_eq_true h1]
    refine iteT ⟨_, rfl, _, _, rfl, rfl, _, rfl, _, _, _, _, rfl, rfl, ht, rfl, _, _, rfl, rfl, .inl ⟨by omega, by omega⟩, _, rfl, _, _, _, _, rfl, rfl, ht, rfl, _, _, rfl, rfl, ?_⟩
    show Q (.bl (decide ((v - 1) * r.2 < r.1))) H
    rw [decide_eq_true h2]
    exact q
end
end TK

namespace TK
open PySem PySem.Spec PyProof.Rows L2
/-- what right links keep -/
structure LOk (zs : List Nam) (ts : List Tie) : Prop where
  nm : ∀ z ∈ zs, Nm z
  nd : zs.Nodup
  l1 : 1 ≤ zs.length
  l6 : zs.length ≤ 6
  t12 : ts.length ≤ 12
  a : ∀ t ∈ ts, t.1 ∈ zs
  b : ∀ t ∈ ts, t.2.1 ∈ zs
  ne : ∀ t ∈ ts, t.1 ≠ t.2.1
  h0 : ∀ t ∈ ts, 0 ≤ t.2.2
  h9 : ∀ t ∈ ts, t.2.2 ≤ 1000000000
/-! the object -/
def fldsL (a b : Addr) : List (Str × V) := putF "links" (.ref b) (putF "names" (.ref a) [])
theorem fldsL_names (a b : Addr) : (fldsL a b).lookup ("names" : Str) = some (.ref a) := by
  unfold fldsL
  rw [lookup_putF, if_neg (by decide +kernel), lookup_putF, if_pos rfl]
theorem fldsL_links (a b : Addr) : (fldsL a b).lookup ("links" : Str) = some (.ref b) := by
  unfold fldsL
  rw [lookup_putF, if_pos rfl]
structure TxtL (K : PySem.W.Frag) (C : Addr) : Prop where
  cl : Cls K C
  nN : NoAttr K C "names"
  nL : NoAttr K C "links"
def LkAt (C : Addr) (H : Hp) (p : Addr) (zs : List Nam) (ts : List Tie) : Prop := ∃ dx a b es, H p = some (.ins C dx (fldsL a b)) ∧ TL H a (zs.map vN) ∧ H b = some (.tup (es.map V.ref)) ∧ TiesAt H es ts
theorem LkAt.same {C : Addr} {H H' : Hp} {p : Addr} {zs : List Nam} {ts : List Tie} (h : LkAt C H p zs ts) (s : Same H H') : LkAt C H' p zs ts := by
  obtain ⟨dx, a, b, es, h1, h2, h5, h6⟩ := h
  exact ⟨dx, a, b, es, s _ _ h1, h2.same s, s _ _ h5, h6.same s⟩
theorem LOk.ns {zs : List Nam} {ts : List Tie} (h : LOk zs ts) : NsOk zs := ⟨fun z hz => .inl (h.nm z hz), h.nd, h.l1, h.l6⟩
theorem LOk.eo {zs : List Nam} {ts : List Tie} (h : LOk zs ts) : EOk zs ts := ⟨h.a, h.b, h.h0⟩
def spCheckN (K : PySem.W.Frag) : Sp := fun vs H Q _ => ∃ (a : Addr) (m : Int) (zs : List (List Nat)), vs = [.ref a, .int m, .bl false] ∧ SqS K H a (zs.map vN) ∧ 1 ≤ zs.length ∧ (zs.length : Int) ≤ m ∧ zs.length ≤ 6 ∧ (∀ z ∈ zs, Nm z) ∧ zs.Nodup ∧ ∀ H', Same H H' → Q .non H'
section
variable {P : Program} {w : World} {K : PySem.W.Frag} {mg : Str → Option Value} {base : Heap}
theorem ok_check_range {f : Addr} {fd : FuncData} (F : Fun K "check_range" "check_range" s_check_range f fd) : FnOk P w K mg base CX0 1 f fd ["number", "low", "high"] spRange := by
  refine F.ok sc_check_range (fun vs H Q E h => ?_) (fun cdv A outer s H vs Q E hr h => ?_)
  · obtain ⟨a, lo, hi, rfl, _⟩ := h
    rfl
  · obtain ⟨a, lo, hi, rfl, h1, h2, q⟩ := h
    refine ⟨_, (pss_one (ps_if (pt_not (pt_chain op_le op_le (pv 1) (pv 0) (pv 2))) (pss_one ps_never) pss_nil)), ?_⟩
    refine ⟨_, rfl, _, rfl, _, _, rfl, rfl, _, rfl, ?_⟩
    rw [decide_eq_true h1]
    refine iteT ⟨_, rfl, _, _, rfl, rfl, _, rfl, ?_⟩
    rw [decide_eq_true h2]
    exact iteF q
theorem ok_check_namesN {f : Addr} {fd : FuncData} {dvs : List V} {kws : List (Str × V)} (F : FunD K "check_names" "check_names" (defArgs s_check_names) (defBody s_check_names) (defScope s_check_names) dvs kws f fd) (m_len : mg "len" = none) (m_enumerate : mg "enumerate" = none)
    (d_check_size : Def P w K mg base "check_size" 1 ["size", "low", "high"] spRange) (d_is_name : Def P w K mg base "is_name" 1 ["word"] spIsNameH) : FnOk P w K mg base CX0 2 f fd ["names", "most", "hook"] (spCheckN K) := by
  refine F.ok (CX := CX0) sc_check_names (fun vs H Q E h => ?_) (fun cdv A outer s H vs Q E hr h => ?_)
  · obtain ⟨a, m, zs, rfl, _⟩ := h
    rfl
  · obtain ⟨a, m, zs, rfl, hS, l1, l2, l6, nm, nd, q⟩ := h
    have hp : ∀ (i : Nat) (x : V) (H2 : Hp), Same H H2 → (zs.map vN)[i]? = some x → ∃ z, zs[i]? = some z ∧ x = vN z ∧ Nm z := fun i x H2 _ hx => by
      obtain ⟨z, ez, rfl⟩ := vN_at hx
      exact ⟨z, ez, rfl, nm z (List.mem_of_getElem? ez)⟩
    rcases hS with hS | hS
    · refine ⟨_, PSs.nox (pss_cons (ps_expr (pe_callD d_check_size (hr.mono (by decide)) (by rfl) (pa_cons (pe_callB call_len_seq (by rfl) m_len (by decide +kernel) (pa_cons (pv 0) pa_nil)) (pa_cons pe_int (pa_cons (pv 1) pa_nil)))))
  (pss_one (ps_for PassesOwn.never rfl (pi_enum (by rfl) m_enumerate (pa_cons (pv 0) pa_nil)) (pg_tup (by rfl) (pgs_cons (pg_name (i := 3) sc_check_names.nd rfl (.inl rfl)) (pgs_cons (pg_name (i := 4) sc_check_names.nd rfl (.inl rfl)) pgs_nil)))
    (pss_cons (ps_if (PW.pt (pw_and (pt_not (pt_val (pe_callD d_is_name (hr.mono (by decide)) (by rfl) (pa_cons (pv 4) pa_nil)))) (pw_and1 (pt_not (PW.pt (pw_and (pt_val (pv 2)) (pw_and1 (pt_cmpR op_eq (pv 4) pe_str (nomark _))))))))) (pss_one ps_never) pss_nil)
  (pss_one (ps_if (pt_cmpR op_in_seq (pv 4) (pe_slice sl_list (pv 0) po_none (po_some (pv 3))) (by rfl)) (pss_one ps_never) pss_nil)))))), ?_⟩
      refine ⟨_, rfl, _, _, rfl, .inl hS, _, rfl, _, _, _, rfl, by rw [List.length_map]; omega, by rw [List.length_map]; omega, ?_⟩
      refine ⟨_, rfl, _, _, rfl, hS, for_it walk_enum (fun i σ H2 => Same H H2 ∧ ∃ y1 y2 : Option V, σ = [some (.ref a), some (.int m), some (.bl false), y1, y2]) ⟨Same.refl H, _, _, rfl⟩ (fun i σ H2 _ hp => hp.1.seq hS) ?_ ?_⟩
      · rintro i x σ H2 H3 hi ⟨sm, y1, y2, rfl⟩ ⟨T, v1, v2, rfl, nT, rfl, e1, e2⟩
        cases e1
        obtain ⟨z, ez, rfl, hz⟩ := hp i _ H2 sm e2
        have sm3 := sm.trans (same_upd (o := .tup [.int (i : Nat), vN z]) nT)
        refine ⟨_, _, rfl, tupAt upd_same, rfl, _, _, rfl, _, _, rfl, rfl, ?_⟩
        refine ⟨_, rfl, z, rfl, .inl hz, fun H4 s4 => ⟨_, rfl, ?_⟩⟩
        have sm4 := sm3.trans s4
        rw [nz_nm hz]
        refine iteF (iteF ?_)
        refine ⟨_, rfl, _, rfl, _, rfl, _, rfl, _, _, rfl, sm4.seq hS, fun p np => ?_⟩
        rw [cut_names]
        have sp := same_upd (o := .lst ((zs.take i).map vN)) np
        refine ⟨p, _, rfl, .inl (lstAt upd_same), rfl, nms_flat _, _, rfl, ?_⟩
        rw [in_nm, decide_eq_false (not_before nd ez)]
        exact iteF ⟨sm4.trans sp, _, _, rfl⟩
      · rintro σ H2 ⟨sm, y1, y2, rfl⟩
        exact q _ sm
    · refine ⟨_, PSs.nox (pss_cons (ps_expr (pe_callD d_check_size (hr.mono (by decide)) (by rfl) (pa_cons (pe_callB call_len_seq (by rfl) m_len (by decide +kernel) (pa_cons (pv 0) pa_nil)) (pa_cons pe_int (pa_cons (pv 1) pa_nil)))))
  (pss_one (ps_for PassesOwn.never rfl (pi_enumT (by rfl) m_enumerate (pa_cons (pv 0) pa_nil)) (pg_tup (by rfl) (pgs_cons (pg_name (i := 3) sc_check_names.nd rfl (.inl rfl)) (pgs_cons (pg_name (i := 4) sc_check_names.nd rfl (.inl rfl)) pgs_nil)))
    (pss_cons (ps_if (PW.pt (pw_and (pt_not (pt_val (pe_callD d_is_name (hr.mono (by decide)) (by rfl) (pa_cons (pv 4) pa_nil)))) (pw_and1 (pt_not (PW.pt (pw_and (pt_val (pv 2)) (pw_and1 (pt_cmpR op_eq (pv 4) pe_str (nomark _))))))))) (pss_one ps_never) pss_nil)
  (pss_one (ps_if (pt_cmpR op_in_seq (pv 4) (pe_slice sl_tup (pv 0) po_none (po_some (pv 3))) (by rfl)) (pss_one ps_never) pss_nil)))))), ?_⟩
      refine ⟨_, rfl, _, _, rfl, .inr hS, _, rfl, _, _, _, rfl, by rw [List.length_map]; omega, by rw [List.length_map]; omega, ?_⟩
      refine ⟨_, rfl, _, _, rfl, hS, for_it walk_enumT (fun i σ H2 => Same H H2 ∧ ∃ y1 y2 : Option V, σ = [some (.ref a), some (.int m), some (.bl false), y1, y2]) ⟨Same.refl H, _, _, rfl⟩ (fun i σ H2 _ hp => same_tup (hp.1) hS) ?_ ?_⟩
      · rintro i x σ H2 H3 hi ⟨sm, y1, y2, rfl⟩ ⟨T, v1, v2, rfl, nT, rfl, e1, e2⟩
        cases e1
        obtain ⟨z, ez, rfl, hz⟩ := hp i _ H2 sm e2
        have sm3 := sm.trans (same_upd (o := .tup [.int (i : Nat), vN z]) nT)
        refine ⟨_, _, rfl, tupAt upd_same, rfl, _, _, rfl, _, _, rfl, rfl, ?_⟩
        refine ⟨_, rfl, z, rfl, .inl hz, fun H4 s4 => ⟨_, rfl, ?_⟩⟩
        have sm4 := sm3.trans s4
        rw [nz_nm hz]
        refine iteF (iteF ?_)
        refine ⟨_, rfl, _, rfl, _, rfl, _, rfl, _, _, rfl, same_tup (sm4) hS, (by rintro ⟨_, hw⟩; rw [HT.sIx_nat] at hw; have hi' : i < (zs.map vN).length := hi; omega), fun p np => ?_⟩
        rw [cut_names]
        have sp := same_upd (o := .tup ((zs.take i).map vN)) np
        refine ⟨p, _, rfl, .inr (tupAt upd_same), rfl, nms_flat _, _, rfl, ?_⟩
        rw [in_nm, decide_eq_false (not_before nd ez)]
        exact iteF ⟨sm4.trans sp, _, _, rfl⟩
      · rintro σ H2 ⟨sm, y1, y2, rfl⟩
        exact q _ sm
/-! _check_links -/
def spCheckL (K : PySem.W.Frag) : Sp := fun vs H Q _ => ∃ (a b : Addr) (zs : List Nam) (es : List Addr) (ts : List Tie), vs = [.ref a, .ref b] ∧ SqS K H a (zs.map vN) ∧ SqS K H b (es.map V.ref) ∧ TiesAt H es ts ∧ LOk zs ts ∧ ∀ H', Same H H' → Q .non H'
theorem ok_check_links {f : Addr} {fd : FuncData} {t1 t2 : Tok} (F : Fun K "_check_links" "_check_links" s_check_links f fd) (m_len : mg "len" = none) (g_MOST_LINKS : mg "MOST_LINKS" = some (.int 12 t1)) (g_MOST_TOLL : mg "MOST_TOLL" = some (.int 1000000000 t2))
    (d_check_size : Def P w K mg base "check_size" 1 ["size", "low", "high"] spRange) (d_check_range : Def P w K mg base "check_range" 1 ["number", "low", "high"] spRange) (d_check_known : Def P w K mg base "check_known" 1 ["names", "known"] (spKnown K)) :
    FnOk P w K mg base CX0 2 f fd ["names", "links"] (spCheckL K) := by
  refine F.ok sc_check_links (fun vs H Q E h => ?_) (fun cdv A outer s H vs Q E hr h => ?_)
  · obtain ⟨a, b, zs, es, ts, rfl, _⟩ := h
    rfl
  · obtain ⟨a, b, zs, es, ts, rfl, hA, hB, hT, ok, q⟩ := h
    have el : (es.map V.ref).length = ts.length := by rw [List.length_map, hT.1]
    have t12 := ok.t12
    rcases hB with hB | hB
    · refine ⟨_, (pss_cons (ps_expr (pe_callD d_check_size (hr.mono (by decide)) (by rfl) (pa_cons (pe_callB call_len_seq (by rfl) m_len (by decide +kernel) (pa_cons (pv 1) pa_nil)) (pa_cons pe_int (pa_cons (pe_glob (v := .int 12) (by rfl) g_MOST_LINKS ⟨_, rfl⟩) pa_nil)))))
  (pss_one (ps_for PassesOwn.never rfl (pi_list (pv 1)) (pg_tup (by rfl) (pgs_cons (pg_name (i := 2) sc_check_links.nd rfl (.inl rfl)) (pgs_cons (pg_name (i := 3) sc_check_links.nd rfl (.inl rfl)) (pgs_cons (pg_name (i := 4) sc_check_links.nd rfl (.inl rfl)) pgs_nil))))
    (pss_cons (ps_expr (pe_callD d_check_known (hr.mono (by decide)) (by rfl) (pa_cons (pe_lst (pa_cons (pv 2) (pa_cons (pv 3) pa_nil))) (pa_cons (pv 0) pa_nil))))
  (pss_cons (ps_if (pt_cmpR op_eq (pv 2) (pv 3) (nomark _)) (pss_one ps_never) pss_nil)
  (pss_one (ps_expr (pe_callD d_check_range (hr.mono (by decide)) (by rfl) (pa_cons (pv 4) (pa_cons pe_int (pa_cons (pe_glob (v := .int 1000000000) (by rfl) g_MOST_TOLL ⟨_, rfl⟩) pa_nil))))))))))), ?_⟩
      refine ⟨_, rfl, _, _, rfl, .inl hB, _, _, _, rfl, by omega, by rw [el]; omega, ?_⟩
      refine ⟨_, rfl, b, rfl, ⟨_, hB⟩, for_list (K := K) (a := b) (xs := es.map V.ref) (fun i σ H2 => Same H H2 ∧ ∃ y1 y2 y3 : Option V, σ = [some (.ref a), some (.ref b), y1, y2, y3]) ⟨Same.refl H, _, _, _, rfl⟩ (fun i σ H2 _ hp => hp.1.seq hB) ?_ ?_⟩
      · rintro i x σ H2 hx ⟨sm, y1, y2, y3, rfl⟩
        obtain ⟨e, t, rfl, _, et, ht⟩ := ties_at hT hx
        have tm := mem_at et
        have ht2 := sm _ _ ht
        refine ⟨_, _, rfl, tupAt ht2, rfl, _, _, rfl, _, _, rfl, _, _, rfl, rfl, ?_⟩
        refine ⟨_, rfl, _, rfl, (show (2 : Nat) ≤ sizeLine by decide), fun p np => ?_⟩
        have sp := same_upd (o := .lst [vN t.1, vN t.2.1]) np
        refine ⟨_, rfl, p, a, [t.1, t.2.1], zs, rfl, .inl (lstAt upd_same), hA.same (sm.trans sp), ?_, ?_⟩
        · intro z hz
          rcases List.mem_cons.mp hz with rfl | hz
          · exact ok.a _ tm
          · rw [List.mem_singleton.mp hz]; exact ok.b _ tm
        refine ⟨_, rfl, _, rfl, rfl, _, rfl, ?_⟩
        rw [eq_nm, decide_eq_false (ok.ne _ tm)]
        refine iteF ⟨_, rfl, _, _, _, rfl, ok.h0 _ tm, ok.h9 _ tm, sm.trans sp, _, _, _, rfl⟩
      · rintro σ H2 ⟨sm, y1, y2, y3, rfl⟩
        exact q _ sm
    · refine ⟨_, (pss_cons (ps_expr (pe_callD d_check_size (hr.mono (by decide)) (by rfl) (pa_cons (pe_callB call_len_seq (by rfl) m_len (by decide +kernel) (pa_cons (pv 1) pa_nil)) (pa_cons pe_int (pa_cons (pe_glob (v := .int 12) (by rfl) g_MOST_LINKS ⟨_, rfl⟩) pa_nil)))))
  (pss_one (ps_for PassesOwn.never rfl (pi_tup (pv 1)) (pg_tup (by rfl) (pgs_cons (pg_name (i := 2) sc_check_links.nd rfl (.inl rfl)) (pgs_cons (pg_name (i := 3) sc_check_links.nd rfl (.inl rfl)) (pgs_cons (pg_name (i := 4) sc_check_links.nd rfl (.inl rfl)) pgs_nil))))
    (pss_cons (ps_expr (pe_callD d_check_known (hr.mono (by decide)) (by rfl) (pa_cons (pe_lst (pa_cons (pv 2) (pa_cons (pv 3) pa_nil))) (pa_cons (pv 0) pa_nil))))
  (pss_cons (ps_if (pt_cmpR op_eq (pv 2) (pv 3) (nomark _)) (pss_one ps_never) pss_nil)
  (pss_one (ps_expr (pe_callD d_check_range (hr.mono (by decide)) (by rfl) (pa_cons (pv 4) (pa_cons pe_int (pa_cons (pe_glob (v := .int 1000000000) (by rfl) g_MOST_TOLL ⟨_, rfl⟩) pa_nil))))))))))), ?_⟩
      refine ⟨_, rfl, _, _, rfl, .inr hB, _, _, _, rfl, by omega, by rw [el]; omega, ?_⟩
      refine ⟨_, rfl, b, rfl, ⟨_, hB⟩, for_tup (K := K) (a := b) (xs := es.map V.ref) (fun i σ H2 => Same H H2 ∧ ∃ y1 y2 y3 : Option V, σ = [some (.ref a), some (.ref b), y1, y2, y3]) ⟨Same.refl H, _, _, _, rfl⟩ (fun i σ H2 _ hp => same_tup hp.1 hB) ?_ ?_⟩
      · rintro i x σ H2 hx ⟨sm, y1, y2, y3, rfl⟩
        obtain ⟨e, t, rfl, _, et, ht⟩ := ties_at hT hx
        have tm := mem_at et
        have ht2 := sm _ _ ht
        refine ⟨_, _, rfl, tupAt ht2, rfl, _, _, rfl, _, _, rfl, _, _, rfl, rfl, ?_⟩
        refine ⟨_, rfl, _, rfl, (show (2 : Nat) ≤ sizeLine by decide), fun p np => ?_⟩
        have sp := same_upd (o := .lst [vN t.1, vN t.2.1]) np
        refine ⟨_, rfl, p, a, [t.1, t.2.1], zs, rfl, .inl (lstAt upd_same), hA.same (sm.trans sp), ?_, ?_⟩
        · intro z hz
          rcases List.mem_cons.mp hz with rfl | hz
          · exact ok.a _ tm
          · rw [List.mem_singleton.mp hz]; exact ok.b _ tm
        refine ⟨_, rfl, _, rfl, rfl, _, rfl, ?_⟩
        rw [eq_nm, decide_eq_false (ok.ne _ tm)]
        refine iteF ⟨_, rfl, _, _, _, rfl, ok.h0 _ tm, ok.h9 _ tm, sm.trans sp, _, _, _, rfl⟩
      · rintro σ H2 ⟨sm, y1, y2, y3, rfl⟩
        exact q _ sm
end
end TK

namespace TK
open PySem PySem.Spec PyProof.Rows L2
abbrev s_Links_init : Stmt := inClass (topS 33) 0
theorem sc_Links_init : FnScope ["self", "names", "links", "giver", "taker", "toll"] ["self", "names", "links"] (defScope s_Links_init) := ⟨rfl, rfl, rfl, by decide +kernel, rfl, by decide +kernel, by decide +kernel⟩
theorem sqL_frame {K : PySem.W.Frag} {H H' : Hp} {a p C dx : Addr} {fs : List (Str × V)} {xs : List V} (h : SqL K H a xs) (hp : H p = some (.ins C dx fs)) (f : ∀ c x, H c = some x → c ≠ p → H' c = some x) : SqL K H' a xs := by
  rcases h with h | h
  · exact .inl (rd_frame h hp (by intro z; cases z) (by intro _ z; cases z) f)
  · exact .inr h
section
variable {P : Program} {w : World} {K : PySem.W.Frag} {mg : Str → Option Value} {base : Heap}
/-! Links.__init__ -/
def spInitL (K : PySem.W.Frag) (C : Addr) : Sp := fun vs H Q _ => ∃ (p a b dx : Addr) (zs : List Nam) (es : List Addr) (ts : List Tie), vs = [.ref p, .ref a, .ref b] ∧ H p = some (.ins C dx []) ∧ (SqL K H a (zs.map vN) ∨ TL H a (zs.map vN)) ∧ SqS K H b (es.map V.ref) ∧ TiesAt H es ts ∧ LOk zs ts ∧
  ∀ H', LkAt C H' p zs ts → (∀ c o, H c = some o → c ≠ p → H' c = some o) → Q .non H'
theorem ok_Links {f C : Addr} {fd : FuncData} {dvs : List V} {kws : List (Str × V)} (F : FunD K "__init__" "Links.__init__" (defArgs s_Links_init) (defBody s_Links_init) (defScope s_Links_init) dvs kws f fd) (T : TxtL K C) (m_tuple : mg "tuple" = none)
    (d_check_names : DefD P w K mg base "check_names" 2 ["names", "most", "hook"] (spCheckN K) [.bl false]) (d_check_links : Def P w K mg base "_check_links" 2 ["names", "links"] (spCheckL K)) :
    FnOk P w K mg base CX0 3 f fd ["self", "names", "links"] (spInitL K C) := by
  refine F.ok (CX := CX0) sc_Links_init (fun vs H Q E h => ?_) (fun cdv A outer s H vs Q E hr h => ?_)
  · obtain ⟨p, a, b, dx, zs, es, ts, rfl, _⟩ := h
    rfl
  · obtain ⟨p, a, b, dx, zs, es, ts, rfl, hp, hA, hB, hT, ok, q⟩ := h
    have el : (es.map V.ref).length = ts.length := by rw [List.length_map, hT.1]
    have t12 := ok.t12
    have hS : SqS K H a (zs.map vN) := hA.elim .inl fun h => .inr h.sq
    rcases hB with hB | hB
    · refine ⟨_, PSs.nox (pss_cons (ps_expr (pe_callDD d_check_names (hr.mono (by decide)) (by rfl) (pa_cons (pv 1) (pa_cons pe_int pa_nil))))
  (pss_cons (ps_expr (pe_callD d_check_links (hr.mono (by decide)) (by rfl) (pa_cons (pv 1) (pa_cons (pv 2) pa_nil))))
  (pss_cons (ps_fld (pv 0) (pe_callTy call_tuple_of (by rfl) m_tuple (by decide +kernel) (pa_cons (pv 1) pa_nil)) rfl)
  (pss_one (ps_fld (pv 0) (pe_callTy call_tuple_of (by rfl) m_tuple (by decide +kernel) (pa_cons (pe_lc (own := [("giver", 3), ("taker", 4), ("toll", 5)]) (by rfl) sc_Links_init.nd (pi_list (pv 2)) (blkOk_by (N := ["self", "names", "links", "giver", "taker", "toll"]) (sc := defScope s_Links_init) (by decide +kernel)) (fun _ _ _ _ _ => (pg_tupK (K := K) (n := 3) rfl (by rfl) (pgs_cons (pg_name (i := 3) sc_Links_init.nd rfl (.inl rfl)) (pgs_cons (pg_name (i := 4) sc_Links_init.nd rfl (.inl rfl)) (pgs_cons (pg_name (i := 5) sc_Links_init.nd rfl (.inl rfl)) pgs_nil))))) (fun _ _ _ _ _ => pts_nil) (fun _ _ _ _ _ => (pe_tup (pa_cons (pv 3) (pa_cons (pv 4) (pa_cons (pv 5) pa_nil)))))) pa_nil)) rfl))))), ?_⟩
      refine ⟨_, rfl, a, 6, zs, rfl, hS, ok.l1, by have := ok.l6; omega, ok.l6, ok.nm, ok.nd, fun H1 s1 => ?_⟩
      refine ⟨_, rfl, _, rfl, a, b, zs, es, ts, rfl, hS.same s1, .inl (s1.seq hB), hT.same s1, ok, fun H2 s2 => ?_⟩
      have s12 := s1.trans s2
      refine ⟨_, rfl, a, zs.map vN, rfl, ?_⟩
      rcases hA with hL | hU
      · refine .inl ⟨s12.seq hL, fun l nl => ?_⟩
        have s3 := s12.trans (same_upd (o := .tup (zs.map vN)) nl)
        have hl3 : TL (upd H2 l (.tup (zs.map vN))) l (zs.map vN) := .inl upd_same
        have hp3 := s3 _ _ hp
        refine ⟨_, rfl, p, C, dx, [], rfl, hp3, T.cl, T.nN, by decide, ?_⟩
        generalize eH3 : (upd H2 l (.tup (zs.map vN)) : Hp) = H3 at s3 hp3 hl3 ⊢
        clear eH3
        have f4 : ∀ (fs : List (Str × V)) c x, H3 c = some x → c ≠ p → (upd H3 p (.ins C dx fs)) c = some x := fun fs c x e n => by rw [upd_ne n]; exact e
        have hB4 := sqL_frame (s3.seq hB) hp3 (f4 (putF "names" (.ref l) []))
        have hp4 : (upd H3 p (.ins C dx (putF "names" (.ref l) []))) p = some (.ins C dx (putF "names" (.ref l) [])) := upd_same
        have hl4 := tl_frame hl3 hp3 (f4 (putF "names" (.ref l) []))
        have hT4 : TiesAt (upd H3 p (.ins C dx (putF "names" (.ref l) []))) es ts := ⟨hT.1, fun i e he => by
          obtain ⟨t, h1, h2⟩ := hT.2 i e he
          exact ⟨t, h1, f4 _ _ _ (s3 _ _ h2) (ne_of (s3 _ _ h2) hp3 (by intro z; cases z))⟩⟩
        have f5 : ∀ c x, H c = some x → c ≠ p → (upd H3 p (.ins C dx (putF "names" (.ref l) []))) c = some x := fun c x e n => f4 _ c x (s3 _ _ e) n
        generalize eH4 : (upd H3 p (.ins C dx (putF "names" (.ref l) [])) : Hp) = H4 at hB4 hp4 hl4 hT4 f5 ⊢
        clear eH4
        refine ⟨_, rfl, b, rfl, ⟨_, hB4⟩, fun D nD => ?_⟩
        have sD := same_upd (o := .lst []) nD
        refine lc_list (K := K) (a := b) (xs := es.map V.ref) (fun i H' => ∃ es' : List Addr, Same H4 H' ∧ H' D = some (.lst (es'.map V.ref)) ∧ TiesAt H' es' (ts.take i)) ⟨[], sD, upd_same, rfl, fun _ _ h => nomatch h⟩ (fun i H' _ hq => hq.choose_spec.1.seq hB4) (fun i x H' hx hq => ?_) (fun H' hq => ?_)
        · obtain ⟨es', s5, hD5, hT5⟩ := hq
          obtain ⟨e, t, rfl, _, et, ht⟩ := ties_at hT4 hx
          have hi : i < ts.length := (List.getElem?_eq_some_iff.mp et).1
          have l5 : es'.length = i := by rw [hT5.1, List.length_take]; omega
          refine ⟨_, _, rfl, tupAt (s5 _ _ ht), rfl, _, _, rfl, _, _, rfl, _, _, rfl, rfl, rfl, yesT ⟨_, rfl, _, rfl, _, rfl, (show (3 : Nat) ≤ sizeLine by decide), fun q5 nq => ⟨_, (same_upd nq) _ _ hD5, ?_, ?_⟩⟩⟩
          · rw [List.length_map]; exact small1000 (by omega)
          · have sq := same_upd (o := .tup [vN t.1, vN t.2.1, .int t.2.2]) nq
            have Dq : D ≠ q5 := ne_of_none hD5 nq
            have fD : ∀ c x, H' c = some x → c ≠ D → (upd (upd H' q5 (.tup [vN t.1, vN t.2.1, .int t.2.2])) D (.lst (es'.map V.ref ++ [.ref q5]))) c = some x := fun c x e n => by rw [upd_ne n]; exact sq _ _ e
            refine ⟨es' ++ [q5], fun c x e => fD c x (s5 _ _ e) (ne_of_none e nD), by rw [List.map_append]; exact upd_same, ?_⟩
            rw [List.take_add_one, et]
            refine ⟨by rw [List.length_append, List.length_append, hT5.1]; rfl, (TiesAt.snoc (H := upd (upd H' q5 (.tup [vN t.1, vN t.2.1, .int t.2.2])) D (.lst (es'.map V.ref ++ [.ref q5]))) ⟨hT5.1, fun j e he => ?_⟩ (Same.refl _) ?_).2⟩
            · obtain ⟨t', h1, h2⟩ := hT5.2 j e he
              exact ⟨t', h1, fD _ _ h2 (ne_of h2 hD5 (by intro z; cases z))⟩
            · show _ = _
              rw [upd_ne Dq.symm]; exact upd_same
        · obtain ⟨es', s5, hD5, hT5⟩ := hq
          rw [List.take_of_length_le (by rw [el]; exact Nat.le_refl _)] at hT5
          refine ⟨D, _, rfl, .inl ⟨lstAt hD5, fun m nm => ?_⟩⟩
          have sm := s5.trans (same_upd (o := .tup (es'.map V.ref)) nm)
          have pm : p ≠ m := ne_of_none (s5 _ _ hp4) nm
          refine ⟨_, rfl, p, C, dx, _, rfl, sm _ _ hp4, T.cl, T.nL, Nat.lt_of_le_of_lt (putF_len _ _ _) (by decide), ?_⟩
          have f6 : ∀ (fs : List (Str × V)) c x, H4 c = some x → c ≠ p → (upd (upd H' m (.tup (es'.map V.ref))) p (.ins C dx fs)) c = some x := fun fs c x e n => by rw [upd_ne n]; exact sm _ _ e
          refine q _ ⟨dx, l, m, es', upd_same, tl_frame hl4 hp4 (f6 _), by rw [upd_ne pm.symm]; exact upd_same, ?_⟩ fun c x e n => f6 _ c x (f5 c x e n) n
          refine ⟨hT5.1, fun j e he => ?_⟩
          obtain ⟨t', h1, h2⟩ := hT5.2 j e he
          have e1 := (same_upd (o := .tup (es'.map V.ref)) nm) _ _ h2
          exact ⟨t', h1, by show _ = _; rw [upd_ne (ne_of e1 (sm _ _ hp4) (by intro z; cases z))]; exact e1⟩
      · refine .inr ⟨(hU.same s12).sq, ?_⟩
        have s3 := s12
        have hl3 := hU.same s12
        have hp3 := s3 _ _ hp
        refine ⟨_, rfl, p, C, dx, [], rfl, hp3, T.cl, T.nN, by decide, ?_⟩
        generalize eH3 : (H2 : Hp) = H3 at s3 hp3 hl3 ⊢
        clear eH3
        have f4 : ∀ (fs : List (Str × V)) c x, H3 c = some x → c ≠ p → (upd H3 p (.ins C dx fs)) c = some x := fun fs c x e n => by rw [upd_ne n]; exact e
        have hB4 := sqL_frame (s3.seq hB) hp3 (f4 (putF "names" (.ref a) []))
        have hp4 : (upd H3 p (.ins C dx (putF "names" (.ref a) []))) p = some (.ins C dx (putF "names" (.ref a) [])) := upd_same
        have hl4 := tl_frame hl3 hp3 (f4 (putF "names" (.ref a) []))
        have hT4 : TiesAt (upd H3 p (.ins C dx (putF "names" (.ref a) []))) es ts := ⟨hT.1, fun i e he => by
          obtain ⟨t, h1, h2⟩ := hT.2 i e he
          exact ⟨t, h1, f4 _ _ _ (s3 _ _ h2) (ne_of (s3 _ _ h2) hp3 (by intro z; cases z))⟩⟩
        have f5 : ∀ c x, H c = some x → c ≠ p → (upd H3 p (.ins C dx (putF "names" (.ref a) []))) c = some x := fun c x e n => f4 _ c x (s3 _ _ e) n
        generalize eH4 : (upd H3 p (.ins C dx (putF "names" (.ref a) [])) : Hp) = H4 at hB4 hp4 hl4 hT4 f5 ⊢
        clear eH4
        refine ⟨_, rfl, b, rfl, ⟨_, hB4⟩, fun D nD => ?_⟩
        have sD := same_upd (o := .lst []) nD
        refine lc_list (K := K) (a := b) (xs := es.map V.ref) (fun i H' => ∃ es' : List Addr, Same H4 H' ∧ H' D = some (.lst (es'.map V.ref)) ∧ TiesAt H' es' (ts.take i)) ⟨[], sD, upd_same, rfl, fun _ _ h => nomatch h⟩ (fun i H' _ hq => hq.choose_spec.1.seq hB4) (fun i x H' hx hq => ?_) (fun H' hq => ?_)
        · obtain ⟨es', s5, hD5, hT5⟩ := hq
          obtain ⟨e, t, rfl, _, et, ht⟩ := ties_at hT4 hx
          have hi : i < ts.length := (List.getElem?_eq_some_iff.mp et).1
          have l5 : es'.length = i := by rw [hT5.1, List.length_take]; omega
          refine ⟨_, _, rfl, tupAt (s5 _ _ ht), rfl, _, _, rfl, _, _, rfl, _, _, rfl, rfl, rfl, yesT ⟨_, rfl, _, rfl, _, rfl, (show (3 : Nat) ≤ sizeLine by decide), fun q5 nq => ⟨_, (same_upd nq) _ _ hD5, ?_, ?_⟩⟩⟩
          · rw [List.length_map]; exact small1000 (by omega)
          · have sq := same_upd (o := .tup [vN t.1, vN t.2.1, .int t.2.2]) nq
            have Dq : D ≠ q5 := ne_of_none hD5 nq
            have fD : ∀ c x, H' c = some x → c ≠ D → (upd (upd H' q5 (.tup [vN t.1, vN t.2.1, .int t.2.2])) D (.lst (es'.map V.ref ++ [.ref q5]))) c = some x := fun c x e n => by rw [upd_ne n]; exact sq _ _ e
            refine ⟨es' ++ [q5], fun c x e => fD c x (s5 _ _ e) (ne_of_none e nD), by rw [List.map_append]; exact upd_same, ?_⟩
            rw [List.take_add_one, et]
            refine ⟨by rw [List.length_append, List.length_append, hT5.1]; rfl, (TiesAt.snoc (H := upd (upd H' q5 (.tup [vN t.1, vN t.2.1, .int t.2.2])) D (.lst (es'.map V.ref ++ [.ref q5]))) ⟨hT5.1, fun j e he => ?_⟩ (Same.refl _) ?_).2⟩
            · obtain ⟨t', h1, h2⟩ := hT5.2 j e he
              exact ⟨t', h1, fD _ _ h2 (ne_of h2 hD5 (by intro z; cases z))⟩
            · show _ = _
              rw [upd_ne Dq.symm]; exact upd_same
        · obtain ⟨es', s5, hD5, hT5⟩ := hq
          rw [List.take_of_length_le (by rw [el]; exact Nat.le_refl _)] at hT5
          refine ⟨D, _, rfl, .inl ⟨lstAt hD5, fun m nm => ?_⟩⟩
          have sm := s5.trans (same_upd (o := .tup (es'.map V.ref)) nm)
          have pm : p ≠ m := ne_of_none (s5 _ _ hp4) nm
          refine ⟨_, rfl, p, C, dx, _, rfl, sm _ _ hp4, T.cl, T.nL, Nat.lt_of_le_of_lt (putF_len _ _ _) (by decide), ?_⟩
          have f6 : ∀ (fs : List (Str × V)) c x, H4 c = some x → c ≠ p → (upd (upd H' m (.tup (es'.map V.ref))) p (.ins C dx fs)) c = some x := fun fs c x e n => by rw [upd_ne n]; exact sm _ _ e
          refine q _ ⟨dx, a, m, es', upd_same, tl_frame hl4 hp4 (f6 _), by rw [upd_ne pm.symm]; exact upd_same, ?_⟩ fun c x e n => f6 _ c x (f5 c x e n) n
          refine ⟨hT5.1, fun j e he => ?_⟩
          obtain ⟨t', h1, h2⟩ := hT5.2 j e he
          have e1 := (same_upd (o := .tup (es'.map V.ref)) nm) _ _ h2
          exact ⟨t', h1, by show _ = _; rw [upd_ne (ne_of e1 (sm _ _ hp4) (by intro z; cases z))]; exact e1⟩
    · refine ⟨_, PSs.nox (pss_cons (ps_expr (pe_callDD d_check_names (hr.mono (by decide)) (by rfl) (pa_cons (pv 1) (pa_cons pe_int pa_nil))))
  (pss_cons (ps_expr (pe_callD d_check_links (hr.mono (by decide)) (by rfl) (pa_cons (pv 1) (pa_cons (pv 2) pa_nil))))
  (pss_cons (ps_fld (pv 0) (pe_callTy call_tuple_of (by rfl) m_tuple (by decide +kernel) (pa_cons (pv 1) pa_nil)) rfl)
  (pss_one (ps_fld (pv 0) (pe_callTy call_tuple_of (by rfl) m_tuple (by decide +kernel) (pa_cons (pe_lc (own := [("giver", 3), ("taker", 4), ("toll", 5)]) (by rfl) sc_Links_init.nd (pi_tup (pv 2)) (blkOk_by (N := ["self", "names", "links", "giver", "taker", "toll"]) (sc := defScope s_Links_init) (by decide +kernel)) (fun _ _ _ _ _ => (pg_tupK (K := K) (n := 3) rfl (by rfl) (pgs_cons (pg_name (i := 3) sc_Links_init.nd rfl (.inl rfl)) (pgs_cons (pg_name (i := 4) sc_Links_init.nd rfl (.inl rfl)) (pgs_cons (pg_name (i := 5) sc_Links_init.nd rfl (.inl rfl)) pgs_nil))))) (fun _ _ _ _ _ => pts_nil) (fun _ _ _ _ _ => (pe_tup (pa_cons (pv 3) (pa_cons (pv 4) (pa_cons (pv 5) pa_nil)))))) pa_nil)) rfl))))), ?_⟩
      refine ⟨_, rfl, a, 6, zs, rfl, hS, ok.l1, by have := ok.l6; omega, ok.l6, ok.nm, ok.nd, fun H1 s1 => ?_⟩
      refine ⟨_, rfl, _, rfl, a, b, zs, es, ts, rfl, hS.same s1, .inr (same_tup s1 hB), hT.same s1, ok, fun H2 s2 => ?_⟩
      have s12 := s1.trans s2
      refine ⟨_, rfl, a, zs.map vN, rfl, ?_⟩
      rcases hA with hL | hU
      · refine .inl ⟨s12.seq hL, fun l nl => ?_⟩
        have s3 := s12.trans (same_upd (o := .tup (zs.map vN)) nl)
        have hl3 : TL (upd H2 l (.tup (zs.map vN))) l (zs.map vN) := .inl upd_same
        have hp3 := s3 _ _ hp
        refine ⟨_, rfl, p, C, dx, [], rfl, hp3, T.cl, T.nN, by decide, ?_⟩
        generalize eH3 : (upd H2 l (.tup (zs.map vN)) : Hp) = H3 at s3 hp3 hl3 ⊢
        clear eH3
        have f4 : ∀ (fs : List (Str × V)) c x, H3 c = some x → c ≠ p → (upd H3 p (.ins C dx fs)) c = some x := fun fs c x e n => by rw [upd_ne n]; exact e
        have hB4 := sqT_frame (same_tup s3 hB) hp3 (f4 (putF "names" (.ref l) []))
        have hp4 : (upd H3 p (.ins C dx (putF "names" (.ref l) []))) p = some (.ins C dx (putF "names" (.ref l) [])) := upd_same
        have hl4 := tl_frame hl3 hp3 (f4 (putF "names" (.ref l) []))
        have hT4 : TiesAt (upd H3 p (.ins C dx (putF "names" (.ref l) []))) es ts := ⟨hT.1, fun i e he => by
          obtain ⟨t, h1, h2⟩ := hT.2 i e he
          exact ⟨t, h1, f4 _ _ _ (s3 _ _ h2) (ne_of (s3 _ _ h2) hp3 (by intro z; cases z))⟩⟩
        have f5 : ∀ c x, H c = some x → c ≠ p → (upd H3 p (.ins C dx (putF "names" (.ref l) []))) c = some x := fun c x e n => f4 _ c x (s3 _ _ e) n
        generalize eH4 : (upd H3 p (.ins C dx (putF "names" (.ref l) [])) : Hp) = H4 at hB4 hp4 hl4 hT4 f5 ⊢
        clear eH4
        refine ⟨_, rfl, b, rfl, ⟨_, hB4⟩, fun D nD => ?_⟩
        have sD := same_upd (o := .lst []) nD
        refine lc_tup (K := K) (a := b) (xs := es.map V.ref) (fun i H' => ∃ es' : List Addr, Same H4 H' ∧ H' D = some (.lst (es'.map V.ref)) ∧ TiesAt H' es' (ts.take i)) ⟨[], sD, upd_same, rfl, fun _ _ h => nomatch h⟩ (fun i H' _ hq => same_tup hq.choose_spec.1 hB4) (fun i x H' hx hq => ?_) (fun H' hq => ?_)
        · obtain ⟨es', s5, hD5, hT5⟩ := hq
          obtain ⟨e, t, rfl, _, et, ht⟩ := ties_at hT4 hx
          have hi : i < ts.length := (List.getElem?_eq_some_iff.mp et).1
          have l5 : es'.length = i := by rw [hT5.1, List.length_take]; omega
          refine ⟨_, _, rfl, tupAt (s5 _ _ ht), rfl, _, _, rfl, _, _, rfl, _, _, rfl, rfl, rfl, yesT ⟨_, rfl, _, rfl, _, rfl, (show (3 : Nat) ≤ sizeLine by decide), fun q5 nq => ⟨_, (same_upd nq) _ _ hD5, ?_, ?_⟩⟩⟩
          · rw [List.length_map]; exact small1000 (by omega)
          · have sq := same_upd (o := .tup [vN t.1, vN t.2.1, .int t.2.2]) nq
            have Dq : D ≠ q5 := ne_of_none hD5 nq
            have fD : ∀ c x, H' c = some x → c ≠ D → (upd (upd H' q5 (.tup [vN t.1, vN t.2.1, .int t.2.2])) D (.lst (es'.map V.ref ++ [.ref q5]))) c = some x := fun c x e n => by rw [upd_ne n]; exact sq _ _ e
            refine ⟨es' ++ [q5], fun c x e => fD c x (s5 _ _ e) (ne_of_none e nD), by rw [List.map_append]; exact upd_same, ?_⟩
            rw [List.take_add_one, et]
            refine ⟨by rw [List.length_append, List.length_append, hT5.1]; rfl, (TiesAt.snoc (H := upd (upd H' q5 (.tup [vN t.1, vN t.2.1, .int t.2.2])) D (.lst (es'.map V.ref ++ [.ref q5]))) ⟨hT5.1, fun j e he => ?_⟩ (Same.refl _) ?_).2⟩
            · obtain ⟨t', h1, h2⟩ := hT5.2 j e he
              exact ⟨t', h1, fD _ _ h2 (ne_of h2 hD5 (by intro z; cases z))⟩
            · show _ = _
              rw [upd_ne Dq.symm]; exact upd_same
        · obtain ⟨es', s5, hD5, hT5⟩ := hq
          rw [List.take_of_length_le (by rw [el]; exact Nat.le_refl _)] at hT5
          refine ⟨D, _, rfl, .inl ⟨lstAt hD5, fun m nm => ?_⟩⟩
          have sm := s5.trans (same_upd (o := .tup (es'.map V.ref)) nm)
          have pm : p ≠ m := ne_of_none (s5 _ _ hp4) nm
          refine ⟨_, rfl, p, C, dx, _, rfl, sm _ _ hp4, T.cl, T.nL, Nat.lt_of_le_of_lt (putF_len _ _ _) (by decide), ?_⟩
          have f6 : ∀ (fs : List (Str × V)) c x, H4 c = some x → c ≠ p → (upd (upd H' m (.tup (es'.map V.ref))) p (.ins C dx fs)) c = some x := fun fs c x e n => by rw [upd_ne n]; exact sm _ _ e
          refine q _ ⟨dx, l, m, es', upd_same, tl_frame hl4 hp4 (f6 _), by rw [upd_ne pm.symm]; exact upd_same, ?_⟩ fun c x e n => f6 _ c x (f5 c x e n) n
          refine ⟨hT5.1, fun j e he => ?_⟩
          obtain ⟨t', h1, h2⟩ := hT5.2 j e he
          have e1 := (same_upd (o := .tup (es'.map V.ref)) nm) _ _ h2
          exact ⟨t', h1, by show _ = _; rw [upd_ne (ne_of e1 (sm _ _ hp4) (by intro z; cases z))]; exact e1⟩
      · refine .inr ⟨(hU.same s12).sq, ?_⟩
        have s3 := s12
        have hl3 := hU.same s12
        have hp3 := s3 _ _ hp
        refine ⟨_, rfl, p, C, dx, [], rfl, hp3, T.cl, T.nN, by decide, ?_⟩
        generalize eH3 : (H2 : Hp) = H3 at s3 hp3 hl3 ⊢
        clear eH3
        have f4 : ∀ (fs : List (Str × V)) c x, H3 c = some x → c ≠ p → (upd H3 p (.ins C dx fs)) c = some x := fun fs c x e n => by rw [upd_ne n]; exact e
        have hB4 := sqT_frame (same_tup s3 hB) hp3 (f4 (putF "names" (.ref a) []))
        have hp4 : (upd H3 p (.ins C dx (putF "names" (.ref a) []))) p = some (.ins C dx (putF "names" (.ref a) [])) := upd_same
        have hl4 := tl_frame hl3 hp3 (f4 (putF "names" (.ref a) []))
        have hT4 : TiesAt (upd H3 p (.ins C dx (putF "names" (.ref a) []))) es ts := ⟨hT.1, fun i e he => by
          obtain ⟨t, h1, h2⟩ := hT.2 i e he
          exact ⟨t, h1, f4 _ _ _ (s3 _ _ h2) (ne_of (s3 _ _ h2) hp3 (by intro z; cases z))⟩⟩
        have f5 : ∀ c x, H c = some x → c ≠ p → (upd H3 p (.ins C dx (putF "names" (.ref a) []))) c = some x := fun c x e n => f4 _ c x (s3 _ _ e) n
        generalize eH4 : (upd H3 p (.ins C dx (putF "names" (.ref a) [])) : Hp) = H4 at hB4 hp4 hl4 hT4 f5 ⊢
        clear eH4
        refine ⟨_, rfl, b, rfl, ⟨_, hB4⟩, fun D nD => ?_⟩
        have sD := same_upd (o := .lst []) nD
        refine lc_tup (K := K) (a := b) (xs := es.map V.ref) (fun i H' => ∃ es' : List Addr, Same H4 H' ∧ H' D = some (.lst (es'.map V.ref)) ∧ TiesAt H' es' (ts.take i)) ⟨[], sD, upd_same, rfl, fun _ _ h => nomatch h⟩ (fun i H' _ hq => same_tup hq.choose_spec.1 hB4) (fun i x H' hx hq => ?_) (fun H' hq => ?_)
        · obtain ⟨es', s5, hD5, hT5⟩ := hq
          obtain ⟨e, t, rfl, _, et, ht⟩ := ties_at hT4 hx
          have hi : i < ts.length := (List.getElem?_eq_some_iff.mp et).1
          have l5 : es'.length = i := by rw [hT5.1, List.length_take]; omega
          refine ⟨_, _, rfl, tupAt (s5 _ _ ht), rfl, _, _, rfl, _, _, rfl, _, _, rfl, rfl, rfl, yesT ⟨_, rfl, _, rfl, _, rfl, (show (3 : Nat) ≤ sizeLine by decide), fun q5 nq => ⟨_, (same_upd nq) _ _ hD5, ?_, ?_⟩⟩⟩
          · rw [List.length_map]; exact small1000 (by omega)
          · have sq := same_upd (o := .tup [vN t.1, vN t.2.1, .int t.2.2]) nq
            have Dq : D ≠ q5 := ne_of_none hD5 nq
            have fD : ∀ c x, H' c = some x → c ≠ D → (upd (upd H' q5 (.tup [vN t.1, vN t.2.1, .int t.2.2])) D (.lst (es'.map V.ref ++ [.ref q5]))) c = some x := fun c x e n => by rw [upd_ne n]; exact sq _ _ e
            refine ⟨es' ++ [q5], fun c x e => fD c x (s5 _ _ e) (ne_of_none e nD), by rw [List.map_append]; exact upd_same, ?_⟩
            rw [List.take_add_one, et]
            refine ⟨by rw [List.length_append, List.length_append, hT5.1]; rfl, (TiesAt.snoc (H := upd (upd H' q5 (.tup [vN t.1, vN t.2.1, .int t.2.2])) D (.lst (es'.map V.ref ++ [.ref q5]))) ⟨hT5.1, fun j e he => ?_⟩ (Same.refl _) ?_).2⟩
            · obtain ⟨t', h1, h2⟩ := hT5.2 j e he
              exact ⟨t', h1, fD _ _ h2 (ne_of h2 hD5 (by intro z; cases z))⟩
            · show _ = _
              rw [upd_ne Dq.symm]; exact upd_same
        · obtain ⟨es', s5, hD5, hT5⟩ := hq
          rw [List.take_of_length_le (by rw [el]; exact Nat.le_refl _)] at hT5
          refine ⟨D, _, rfl, .inl ⟨lstAt hD5, fun m nm => ?_⟩⟩
          have sm := s5.trans (same_upd (o := .tup (es'.map V.ref)) nm)
          have pm : p ≠ m := ne_of_none (s5 _ _ hp4) nm
          refine ⟨_, rfl, p, C, dx, _, rfl, sm _ _ hp4, T.cl, T.nL, Nat.lt_of_le_of_lt (putF_len _ _ _) (by decide), ?_⟩
          have f6 : ∀ (fs : List (Str × V)) c x, H4 c = some x → c ≠ p → (upd (upd H' m (.tup (es'.map V.ref))) p (.ins C dx fs)) c = some x := fun fs c x e n => by rw [upd_ne n]; exact sm _ _ e
          refine q _ ⟨dx, a, m, es', upd_same, tl_frame hl4 hp4 (f6 _), by rw [upd_ne pm.symm]; exact upd_same, ?_⟩ fun c x e n => f6 _ c x (f5 c x e n) n
          refine ⟨hT5.1, fun j e he => ?_⟩
          obtain ⟨t', h1, h2⟩ := hT5.2 j e he
          have e1 := (same_upd (o := .tup (es'.map V.ref)) nm) _ _ h2
          exact ⟨t', h1, by show _ = _; rw [upd_ne (ne_of e1 (sm _ _ hp4) (by intro z; cases z))]; exact e1⟩
end
end TK

namespace TK
open PySem PySem.Spec PyProof.Rows L2
theorem eqv_nms : ∀ zs us : List Nam, PyData.eqvAll (zs.map fun z => PyData.str (sOf z)) (us.map fun z => PyData.str (sOf z)) = decide (zs = us)
  | [], [] => by simp [PyData.eqvAll]
  | [], q :: qs => by simp [PyData.eqvAll]
  | o :: os, [] => by simp [PyData.eqvAll]
  | o :: os, q :: qs => by
    simp only [List.map_cons, PyData.eqvAll, PyData.eqv]
    rw [eqv_nms os qs]
    by_cases h1 : o = q
    · subst h1
      by_cases h2 : os = qs <;> simp [h2]
    · have : (sOf o == sOf q) = false := by
        cases e : (sOf o == sOf q) with
        | false => rfl
        | true => exact absurd (sOf_inj (eq_of_beq e)) h1
      simp [h1, this]
theorem eqv_nmT (zs us : List Nam) : PyData.eqv (.tuple (zs.map fun z => PyData.str (sOf z))) (.tuple (us.map fun z => PyData.str (sOf z))) = decide (zs = us) := by
  simp only [PyData.eqv]
  exact eqv_nms zs us
/-! ties as data -/
def dT (t : Tie) : PyData := .tuple [.str (sOf t.1), .str (sOf t.2.1), .int t.2.2]
theorem ties_dp {K : PySem.W.Frag} {H : Hp} : ∀ {es : List Addr} {ts : List Tie}, TiesAt H es ts → DpAll K H (es.map V.ref) (ts.map dT)
  | [], [], _ => .nil
  | [], o :: os, h => by cases h.1
  | t :: ts, [], h => by cases h.1
  | t :: ts, o :: os, h => by
    obtain ⟨o', h1, h2⟩ := h.2 0 t rfl
    cases Option.some.inj h1
    exact .cons (.tup (tupAt h2) (.cons (.str _) (.cons (.str _) (.cons (.int _) .nil)))) (ties_dp ⟨Nat.succ.inj h.1, fun i t' a => h.2 (i + 1) t' a⟩)
theorem ties_lay : ∀ {ts : List Tie}, (∀ t ∈ ts, NmH t.1 ∧ NmH t.2.1) → PyData.canLayAll0 (ts.map dT) = true ∧ PyData.depthAll (ts.map dT) ≤ 2
  | [], _ => ⟨by simp [PyData.canLayAll0], by simp [PyData.depthAll]⟩
  | o :: os, h => by
    obtain ⟨h1, h2⟩ := ties_lay (ts := os) fun t m => h t (List.mem_cons_of_mem _ m)
    obtain ⟨n1, n2⟩ := h o List.mem_cons_self
    refine ⟨?_, ?_⟩
    · simp only [List.map_cons, PyData.canLayAll0, Bool.and_eq_true]
      exact ⟨by simp [dT, PyData.canLay0, PyData.canLayAll0, nmH_ok n1, nmH_ok n2], h1⟩
    · simp only [List.map_cons, PyData.depthAll]
      have : (dT o).depth ≤ 2 := by simp [dT, PyData.depth, PyData.depthAll]
      omega
theorem shape_ties {ts : List Tie} (h : ∀ t ∈ ts, NmH t.1 ∧ NmH t.2.1) : SeqAt.shaped (.list (ts.map dT)) = true := by
  obtain ⟨h1, h2⟩ := ties_lay h
  show ((PyData.list _).canLay0 && decide ((PyData.list _).depth ≤ 64)) = true
  rw [show (PyData.list (ts.map dT)).canLay0 = true by simp only [PyData.canLay0, h1], show (PyData.list (ts.map dT)).depth = PyData.depthAll (ts.map dT) + 1 by simp only [PyData.depth]]
  exact decide_eq_true (by omega)
theorem TiesAt.take {H : Hp} {es : List Addr} {ts : List Tie} (h : TiesAt H es ts) (k : Nat) : TiesAt H (es.take k) (ts.take k) := by
  refine ⟨by rw [List.length_take, List.length_take, h.1], fun i e he => ?_⟩
  rw [List.getElem?_take] at he
  split at he
  · rename_i hi
    obtain ⟨t, h1, h2⟩ := h.2 i e he
    exact ⟨t, by rw [List.getElem?_take, if_pos hi]; exact h1, h2⟩
  · cases he
theorem TiesAt.drop {H : Hp} {es : List Addr} {ts : List Tie} (h : TiesAt H es ts) (k : Nat) : TiesAt H (es.drop k) (ts.drop k) := by
  refine ⟨by rw [List.length_drop, List.length_drop, h.1], fun i e he => ?_⟩
  rw [List.getElem?_drop] at he
  obtain ⟨t, h1, h2⟩ := h.2 _ e he
  exact ⟨t, by rw [List.getElem?_drop]; exact h1, h2⟩
theorem cut_to_l (xs : List V) (i : Nat) : cutV xs none (some ((i : Nat) : Int)) = xs.take i := by
  unfold cutV
  rw [HT.sIx_none, List.drop_zero, Nat.sub_zero, HT.sIx_nat]
  by_cases h : i ≤ xs.length
  · rw [Nat.min_eq_left h]
  · rw [Nat.min_eq_right (by omega), List.take_length, List.take_of_length_le (by omega)]
theorem eqv_tie (o q : Tie) : PyData.eqv (dT o) (dT q) = decide (o = q) := by
  obtain ⟨a, b, c⟩ := o
  obtain ⟨a', b', c'⟩ := q
  have h : ∀ x y : Nam, (sOf x == sOf y) = decide (x = y) := fun x y => by
    by_cases e : x = y
    · subst e; simp
    · rw [decide_eq_false e]
      cases e2 : (sOf x == sOf y) with
      | false => rfl
      | true => exact absurd (sOf_inj (eq_of_beq e2)) e
  simp only [dT, PyData.eqv, PyData.eqvAll, h, Bool.and_true, Prod.mk.injEq, Bool.decide_and]
  by_cases e : c = c' <;> simp [e]
theorem eqv_ties : ∀ os qs : List Tie, PyData.eqvAll (os.map dT) (qs.map dT) = decide (os = qs)
  | [], [] => by simp [PyData.eqvAll]
  | [], q :: qs => by simp [PyData.eqvAll]
  | o :: os, [] => by simp [PyData.eqvAll]
  | o :: os, q :: qs => by
    simp only [List.map_cons, PyData.eqvAll]
    rw [eqv_ties os qs, eqv_tie]
    by_cases h1 : o = q <;> by_cases h2 : os = qs <;> simp [h1, h2]
theorem eqv_tiesT (os qs : List Tie) : PyData.eqv (.tuple (os.map dT)) (.tuple (qs.map dT)) = decide (os = qs) := by
  simp only [PyData.eqv]
  exact eqv_ties os qs
theorem eqv_tiesL (os qs : List Tie) : PyData.eqv (.list (os.map dT)) (.list (qs.map dT)) = decide (os = qs) := by
  simp only [PyData.eqv]
  exact eqv_ties os qs
theorem shape_tiesT {ts : List Tie} (h : ∀ t ∈ ts, NmH t.1 ∧ NmH t.2.1) : SeqAt.shaped (.tuple (ts.map dT)) = true := by
  obtain ⟨h1, h2⟩ := ties_lay h
  show ((PyData.tuple _).canLay0 && decide ((PyData.tuple _).depth ≤ 64)) = true
  rw [show (PyData.tuple (ts.map dT)).canLay0 = true by simp only [PyData.canLay0, h1], show (PyData.tuple (ts.map dT)).depth = PyData.depthAll (ts.map dT) + 1 by simp only [PyData.depth]]
  exact decide_eq_true (by omega)
theorem LOk.tn {zs : List Nam} {ts : List Tie} (h : LOk zs ts) : ∀ t ∈ ts, NmH t.1 ∧ NmH t.2.1 := fun t m => ⟨.inl (h.nm _ (h.a t m)), .inl (h.nm _ (h.b t m))⟩
abbrev s_Links_len : Stmt := inClass (topS 33) 1
theorem sc_Links_len : FnScope ["self"] ["self"] (defScope s_Links_len) := ⟨rfl, rfl, rfl, by decide +kernel, rfl, by decide +kernel, by decide +kernel⟩
abbrev s_Links_iter : Stmt := inClass (topS 33) 2
theorem sc_Links_iter : FnScope ["self"] ["self"] (defScope s_Links_iter) := ⟨rfl, rfl, rfl, by decide +kernel, rfl, by decide +kernel, by decide +kernel⟩
abbrev s_Links_eq : Stmt := inClass (topS 33) 3
theorem sc_Links_eq : FnScope ["self", "other"] ["self", "other"] (defScope s_Links_eq) := ⟨rfl, rfl, rfl, by decide +kernel, rfl, by decide +kernel, by decide +kernel⟩
abbrev s_Links_tolls : Stmt := inClass (topS 33) 4
theorem sc_Links_tolls : FnScope ["self"] ["self"] (defScope s_Links_tolls) := ⟨rfl, rfl, rfl, by decide +kernel, rfl, by decide +kernel, by decide +kernel⟩
section
variable {P : Program} {w : World} {K : PySem.W.Frag} {mg : Str → Option Value} {base : Heap}
/-! Links.__iter__ -/
def RLk (K : PySem.W.Frag) (C : Addr) (a t : Addr) (H : Hp) : Prop := ∃ dx b xs, H a = some (.ins C dx (fldsL b t)) ∧ SqT K H t xs
theorem ok_Links_iter {f C : Addr} {fd : FuncData} (F : Fun K "__iter__" "Links.__iter__" s_Links_iter f fd) (b : Binds K fd ["self"] []) (T : TxtL K C) (m_iter : mg "iter" = none) : FnIt P w K mg base 1 f (RLk K C) := by
  refine fnIt_of (k := 0) F sc_Links_iter b fun cdv A outer s H a t hr hR => ?_
  obtain ⟨dx, b, xs, ha, ht⟩ := hR
  refine ⟨_, PSs.nox (pss_one (ps_ret (pe_callB call_iterT (by rfl) m_iter (by decide +kernel) (pa_cons (pe_fld (pv 0) rfl) pa_nil)))), ?_⟩
  exact ⟨_, rfl, a, C, dx, _, _, rfl, ha, T.cl, T.nL, fldsL_links _ _, t, xs, rfl, ht, fun it hn hs => ⟨it, rfl, hn, hs, rfl⟩⟩
/-! len of links -/
def spLenL (C : Addr) : Sp := fun vs H Q _ => ∃ (p : Addr) (zs : List Nam) (ts : List Tie), vs = [.ref p] ∧ LkAt C H p zs ts ∧ ts.length ≤ 12 ∧ Q (.int ((ts.length : Nat) : Int)) H
theorem ok_Links_len {f C : Addr} {fd : FuncData} (F : Fun K "__len__" "Links.__len__" s_Links_len f fd) (T : TxtL K C) (m_len : mg "len" = none) : FnOk P w K mg base CX0 1 f fd ["self"] (spLenL C) := by
  refine F.ok sc_Links_len (fun vs H Q E h => ?_) (fun cdv A outer s H vs Q E hr h => ?_)
  · obtain ⟨p, zs, ts, rfl, _⟩ := h
    rfl
  · obtain ⟨p, zs, ts, rfl, ⟨dx, a, b, es, hp, _, hb, hT⟩, l, q⟩ := h
    refine ⟨_, (pss_one (ps_ret (pe_callB call_len_seq (by rfl) m_len (by decide +kernel) (pa_cons (pe_fld (pv 0) rfl) pa_nil)))), ?_⟩
    refine ⟨_, rfl, p, C, dx, _, _, rfl, hp, T.cl, T.nL, fldsL_links _ _, b, _, rfl, .inr (tupAt hb), ?_⟩
    rw [List.length_map, hT.1]
    exact q
theorem lk_list {C p : Addr} {H : Hp} {zs : List Nam} {ts : List Tie} {Q : VK} (l : LkAt C H p zs ts) (t12 : ts.length ≤ 12) (h : ∀ q es, H q = none → TiesAt H es ts → Q (.ref q) (upd H q (.lst (es.map V.ref)))) : rListOwn K C (RLk K C) (spLenL C) E0 [.ref p] H Q := by
  obtain ⟨dx, a, b, es, hp, ha, hb, hT⟩ := id l
  have el : (es.map V.ref).length = ts.length := by rw [List.length_map, hT.1]
  refine ⟨p, dx, _, b, es.map V.ref, rfl, hp, tupAt hb, by omega, fun q nq => ?_, fun q nq => h q es nq hT⟩
  have s := same_upd (o := .lst []) nq
  exact ⟨⟨dx, a, _, s _ _ hp, tupAt (s _ _ hb)⟩, p, zs, ts, rfl, l.same s, t12, by rw [el], rfl⟩
/-! Links == anything -/
def spEqL (K : PySem.W.Frag) (C : Addr) : Sp := fun vs H Q _ => ∃ (p : Addr) (y : V) (zs : List Nam) (ts : List Tie), vs = [.ref p, y] ∧ LkAt C H p zs ts ∧ LOk zs ts ∧
  ((∃ t, TyX K H y t ∧ PySem.W.kitOne K t (.ref C) = some false ∧ Q (.bl false) H) ∨
   (∃ (p' : Addr) (us : List Nam) (ts' : List Tie), y = .ref p' ∧ LkAt C H p' us ts' ∧ LOk us ts' ∧ Q (.bl (decide (zs = us ∧ ts = ts'))) H))
theorem ok_Links_eq {f C : Addr} {fd : FuncData} (F : Fun K "__eq__" "Links.__eq__" s_Links_eq f fd) (T : TxtL K C) (m_isinstance : mg "isinstance" = none) (mg_Links : mg "Links" = some (.ref C))
    (ha : PySem.W.findIn K (.ref C) "__class__" = some (some (.builtin "object.__class__"))) (hn : PySem.W.specialIn K (.builtin "object.__class__") "__get__" = some (some (.builtin "getset_descriptor.__get__")))
    (htk : PySem.W.takesIn K (.builtin "object.__class__") = some true) (hm : PySem.W.mroIn K C (.type "object") = some true) : FnOk P w K mg base CX0 1 f fd ["self", "other"] (spEqL K C) := by
  refine F.ok sc_Links_eq (fun vs H Q E h => ?_) (fun cdv A outer s H vs Q E hr h => ?_)
  · obtain ⟨p, y, zs, ts, rfl, _⟩ := h
    rfl
  · obtain ⟨p, y, zs, ts, rfl, tk, ok, h⟩ := h
    obtain ⟨dx, a, b, es, hp, hA, hB, hT⟩ := id tk
    refine ⟨_, (pss_one (ps_ret (pe_and (pe_callB call_isi (by rfl) m_isinstance (by decide +kernel) (pa_cons (pv 1) (pa_cons (pe_glob (v := .ref C) (u := .ref C) (by rfl) mg_Links rfl) pa_nil))) (pe_and (pe_cmpR (op_eqD hr.units) (pe_fld (pv 0) rfl) (pe_fld (pv 1) rfl) (nomark _)) (pe_one (pe_cmpR (op_eqD hr.units) (pe_fld (pv 0) rfl) (pe_fld (pv 1) rfl) (nomark _))))))), ?_⟩
    rcases h with ⟨t, ty, kt, q⟩ | ⟨p', us, ts', rfl, tk', ok', q⟩
    · refine ⟨_, rfl, _, _, _, _, false, rfl, .own C, ty, kt, _, rfl, iteF ?_⟩
      exact q
    · obtain ⟨dx', a', b', es', hp', hA', hB', hT'⟩ := id tk'
      refine ⟨_, rfl, _, _, _, _, true, rfl, .own C, .base (.ins hp' T.cl ha hn htk hm), kit_self, _, rfl, iteT ?_⟩
      obtain ⟨d1, d3, d4⟩ := namesH_dp (K := K) (H := H) ok.ns.nm
      obtain ⟨d1', d3', d4'⟩ := namesH_dp (K := K) (H := H) ok'.ns.nm
      refine ⟨_, rfl, p, C, dx, _, _, rfl, hp, T.cl, T.nN, fldsL_names _ _, _, rfl, p', C, dx', _, _, rfl, hp', T.cl, T.nN, fldsL_names _ _, .tuple _, .tuple _, .tup hA.sq d1, .tup hA'.sq d1', nmT_shape d3 d4, nmT_shape d3' d4', _, rfl, ?_⟩
      rw [eqv_nmT]
      by_cases e : zs = us
      · rw [decide_eq_true e]
        refine iteT ⟨_, rfl, p, C, dx, _, _, rfl, hp, T.cl, T.nL, fldsL_links _ _, _, rfl, p', C, dx', _, _, rfl, hp', T.cl, T.nL, fldsL_links _ _, .tuple _, .tuple _, .tup (tupAt hB) (ties_dp hT), .tup (tupAt hB') (ties_dp hT'), shape_tiesT ok.tn, shape_tiesT ok'.tn, ?_⟩
        rw [eqv_tiesT]
        by_cases e2 : ts = ts'
        · rw [decide_eq_true e2]; rw [decide_eq_true ⟨e, e2⟩] at q; exact q
        · rw [decide_eq_false e2]; rw [decide_eq_false (fun z => e2 z.2)] at q; exact q
      · rw [decide_eq_false e]
        rw [decide_eq_false (fun z => e z.1)] at q
        exact iteF q
/-! Links.tolls -/
def spTollsM (K : PySem.W.Frag) (C CT : Addr) : Sp := fun vs H Q _ => ∃ (p : Addr) (zs : List Nam) (ts : List Tie), vs = [.ref p] ∧ LkAt C H p zs ts ∧ LOk zs ts ∧ ∀ H' r, H r = none → Same H H' → TkAt K CT H' r zs ts → Q (.ref r) H'
theorem ok_Links_tolls {f C CT fI : Addr} {fd fdI : FuncData} (F : Fun K "tolls" "Links.tolls" s_Links_tolls f fd) (T : TxtL K C) (M_Tolls : Mk K CT fI) (G_Tolls : FnOk P w K mg base CX0 3 fI fdI ["self", "names", "entries"] (spInitT K CT)) (mg_Tolls : mg "Tolls" = some (.ref CT)) (b_Tolls : Binds K fdI ["self", "names", "entries"] []) :
    FnOk P w K mg base CX0 5 f fd ["self"] (spTollsM K C CT) := by
  refine F.ok sc_Links_tolls (fun vs H Q E h => ?_) (fun cdv A outer s H vs Q E hr h => ?_)
  · obtain ⟨p, zs, ts, rfl, _⟩ := h
    rfl
  · obtain ⟨p, zs, ts, rfl, ⟨dx, a, b, es, hp, hA, hB, hT⟩, ok, q⟩ := h
    refine ⟨_, (pss_one (ps_ret (pe_make M_Tolls G_Tolls (hr.mono (by decide)) (by rfl) mg_Tolls b_Tolls .nil pass0 (pa_cons (pe_fld (pv 0) rfl) (pa_cons (pe_fld (pv 0) rfl) pa_nil))))), ?_⟩
    refine ⟨_, rfl, p, C, dx, _, _, rfl, hp, T.cl, T.nN, fldsL_names _ _, _, rfl, p, C, dx, _, _, rfl, hp, T.cl, T.nL, fldsL_links _ _, fun r d nr nd dn => ?_⟩
    have s2 := (same_upd (o := .own r) nd).trans (same_upd (H := upd H d (.own r)) (o := .ins CT d []) (by rw [upd_ne (Ne.symm dn)]; exact nr))
    have t12 := ok.t12
    refine ⟨r, a, b, d, zs, es, ts, rfl, upd_same, .inr (hA.same s2), .inr (same_tup s2 (tupAt hB)), hT.same s2, ok.ns, ok.eo, by omega, fun H' tk f => ?_⟩
    exact ⟨rfl, q H' r nr (fun c x e => f c x (s2 _ _ e) (ne_of_none e nr)) tk⟩
end
end TK

namespace TK
open PySem PySem.Spec PyProof.Rows L2
/-! least of a set of numbers, or none -/
def IsMin (o : Option Int) (S : Int → Prop) : Prop := (∀ m, o = some m → S m ∧ ∀ v, S v → m ≤ v) ∧ (o = none → ∀ v, ¬ S v)
theorem IsMin.uniq {o p : Option Int} {S : Int → Prop} (h : IsMin o S) (k : IsMin p S) : o = p := by
  cases o with
  | none =>
    cases p with
    | none => rfl
    | some m => exact absurd (k.1 m rfl).1 (h.2 rfl m)
  | some n =>
    cases p with
    | none => exact absurd (h.1 n rfl).1 (k.2 rfl n)
    | some m => exact congrArg some (Int.le_antisymm ((h.1 n rfl).2 _ (k.1 m rfl).1) ((k.1 m rfl).2 _ (h.1 n rfl).1))
theorem IsMin.congr {o : Option Int} {S T : Int → Prop} (h : IsMin o S) (e : ∀ v, S v ↔ T v) : IsMin o T :=
  ⟨fun m hm => ⟨(e m).mp (h.1 m hm).1, fun v hv => (h.1 m hm).2 v ((e v).mpr hv)⟩, fun hn v hv => h.2 hn v ((e v).mpr hv)⟩
/-- a larger set that is not below -/
theorem IsMin.dom {o : Option Int} {S T : Int → Prop} (h : IsMin o S) (a : ∀ v, S v → T v) (b : ∀ v, T v → ∃ v', S v' ∧ v' ≤ v) : IsMin o T := by
  refine ⟨fun m hm => ⟨a m (h.1 m hm).1, fun v hv => ?_⟩, fun hn v hv => ?_⟩
  · obtain ⟨v', h1, h2⟩ := b v hv
    exact Int.le_trans ((h.1 m hm).2 v' h1) h2
  · obtain ⟨v', h1, _⟩ := b v hv
    exact h.2 hn v' h1
theorem IsMin.ex {o : Option Int} {S : Int → Prop} (h : IsMin o S) {v : Int} (hv : S v) : ∃ m, o = some m ∧ S m ∧ m ≤ v := by
  cases o with
  | none => exact absurd hv (h.2 rfl v)
  | some m => exact ⟨m, rfl, (h.1 m rfl).1, (h.1 m rfl).2 v hv⟩
theorem leastE_min (ts : List Tie) (x y : Nam) : IsMin (leastE ts x y) fun u => (x, y, u) ∈ ts := by
  refine ⟨fun m hm => ?_, fun hn v hv => ?_⟩
  · obtain ⟨h1, h2⟩ := leastE_some hm
    exact ⟨vals_mem.mp h1, fun v hv => h2 v (vals_mem.mpr hv)⟩
  · have := vals_mem.mpr hv
    rw [leastE_none hn] at this
    cases this
/-! prices between names -/
abbrev Pr := Nam → Nam → Option Int
def FOk (zs : List Nam) (f : Pr) : Prop := ∀ x y v, f x y = some v → x ∈ zs ∧ y ∈ zs ∧ 0 ≤ v
/-- so many steps -/
def Wk (zs : List Nam) (f : Pr) : Nat → Nam → Nam → Int → Prop
  | 0, x, y, v => x = y ∧ x ∈ zs ∧ v = 0
  | k + 1, x, y, v => ∃ m u w, Wk zs f k x m u ∧ f m y = some w ∧ v = u + w
theorem Wk.ends {zs : List Nam} {f : Pr} (ok : FOk zs f) : ∀ {k : Nat} {x y : Nam} {v : Int}, Wk zs f k x y v → x ∈ zs ∧ y ∈ zs ∧ 0 ≤ v
  | 0, x, y, v, h => ⟨h.2.1, h.1 ▸ h.2.1, by rw [h.2.2]; exact Int.le_refl _⟩
  | k + 1, x, y, v, h => by
    obtain ⟨m, u, w, h1, h2, rfl⟩ := h
    obtain ⟨a, _, c⟩ := Wk.ends ok h1
    obtain ⟨_, e, g⟩ := ok _ _ _ h2
    exact ⟨a, e, by omega⟩
theorem Wk.cat {zs : List Nam} {f : Pr} {a : Nat} {x m : Nam} {u : Int} (h : Wk zs f a x m u) : ∀ {b : Nat} {y : Nam} {w : Int}, Wk zs f b m y w → Wk zs f (a + b) x y (u + w)
  | 0, y, w, k => by
    obtain ⟨rfl, _, rfl⟩ := k
    rw [Int.add_zero]
    exact h
  | b + 1, y, w, k => by
    obtain ⟨n, p, q, k1, k2, rfl⟩ := k
    exact ⟨n, u + p, q, h.cat k1, k2, by omega⟩
theorem Wk.cut {zs : List Nam} {f : Pr} (ok : FOk zs f) {a : Nat} {x : Nam} : ∀ {b : Nat} {y : Nam} {v : Int}, Wk zs f (a + b) x y v → ∃ m u w, Wk zs f a x m u ∧ Wk zs f b m y w ∧ v = u + w
  | 0, y, v, h => ⟨y, v, 0, h, ⟨rfl, (Wk.ends ok h).2.1, rfl⟩, by omega⟩
  | b + 1, y, v, h => by
    obtain ⟨m, u, w, h1, h2, rfl⟩ := h
    obtain ⟨n, p, q, k1, k2, rfl⟩ := Wk.cut ok h1
    exact ⟨n, p, q + w, k1, ⟨m, q, w, k2, h2, rfl⟩, by omega⟩
/-- the set of the sums over one name between -/
def Sum2 (S T : Nam → Nam → Int → Prop) (x y : Nam) (v : Int) : Prop := ∃ m u w, S x m u ∧ T m y w ∧ v = u + w
/-- the product of two tables of least numbers is that of the sums -/
theorem min_mul {S T : Nam → Nam → Int → Prop} {f g : Pr} (hf : ∀ x y, IsMin (f x y) (S x y)) (hg : ∀ x y, IsMin (g x y) (T x y)) {o : Option Int} {x y : Nam} (h : IsMin o (Sum2 (fun x m u => f x m = some u) (fun m y w => g m y = some w) x y)) : IsMin o (Sum2 S T x y) := by
  refine h.dom ?_ ?_
  · rintro v ⟨m, u, w, h1, h2, rfl⟩
    exact ⟨m, u, w, ((hf x m).1 u h1).1, ((hg m y).1 w h2).1, rfl⟩
  · rintro v ⟨m, u, w, h1, h2, rfl⟩
    obtain ⟨u', e1, _, l1⟩ := (hf x m).ex h1
    obtain ⟨w', e2, _, l2⟩ := (hg m y).ex h2
    exact ⟨u' + w', ⟨m, u', w', e1, e2, rfl⟩, by omega⟩
theorem min_or {S T : Int → Prop} {p q o : Option Int} (hp : IsMin p S) (hq : IsMin q T) (h : IsMin o fun v => p = some v ∨ q = some v) : IsMin o fun v => S v ∨ T v := by
  refine h.dom ?_ ?_
  · rintro v (e | e)
    · exact .inl (hp.1 v e).1
    · exact .inr (hq.1 v e).1
  · rintro v (e | e)
    · obtain ⟨m, e1, _, l⟩ := hp.ex e
      exact ⟨m, .inl e1, l⟩
    · obtain ⟨m, e1, _, l⟩ := hq.ex e
      exact ⟨m, .inr e1, l⟩
theorem min_self (o : Option Int) : IsMin o fun v => o = some v := ⟨fun m hm => ⟨hm, fun v hv => by rw [hm] at hv; exact Int.le_of_eq (Option.some.inj hv)⟩, fun hn v hv => by rw [hn] at hv; cases hv⟩
/-- at most so many steps; any number of them -/
def Up (zs : List Nam) (f : Pr) (n : Nat) (x y : Nam) (v : Int) : Prop := ∃ k, k ≤ n ∧ Wk zs f k x y v
def Any (zs : List Nam) (f : Pr) (x y : Nam) (v : Int) : Prop := ∃ k, Wk zs f k x y v
theorem up_sum {zs : List Nam} {f : Pr} (ok : FOk zs f) (a b : Nat) (x y : Nam) (v : Int) : Sum2 (Up zs f a) (Up zs f b) x y v ↔ Up zs f (a + b) x y v := by
  constructor
  · rintro ⟨m, u, w, ⟨i, hi, h1⟩, ⟨j, hj, h2⟩, rfl⟩
    exact ⟨i + j, by omega, h1.cat h2⟩
  · rintro ⟨k, hk, h⟩
    by_cases ha : k ≤ a
    · exact ⟨y, v, 0, ⟨k, ha, h⟩, ⟨0, Nat.zero_le _, rfl, (Wk.ends ok h).2.1, rfl⟩, by omega⟩
    · rw [show k = a + (k - a) by omega] at h
      obtain ⟨m, u, w, h1, h2, rfl⟩ := Wk.cut ok h
      exact ⟨m, u, w, ⟨a, Nat.le_refl _, h1⟩, ⟨k - a, by omega, h2⟩, rfl⟩
theorem wk_sum {zs : List Nam} {f : Pr} (ok : FOk zs f) (a b : Nat) (x y : Nam) (v : Int) : Sum2 (Wk zs f a) (Wk zs f b) x y v ↔ Wk zs f (a + b) x y v :=
  ⟨fun ⟨_, _, _, h1, h2, e⟩ => e ▸ h1.cat h2, fun h => Wk.cut ok h⟩
theorem any_sum {zs : List Nam} {f : Pr} (ok : FOk zs f) (x y : Nam) (v : Int) : Sum2 (Any zs f) (Any zs f) x y v ↔ Any zs f x y v := by
  constructor
  · rintro ⟨m, u, w, ⟨i, h1⟩, ⟨j, h2⟩, rfl⟩
    exact ⟨i + j, h1.cat h2⟩
  · rintro ⟨k, h⟩
    exact ⟨y, v, 0, ⟨k, h⟩, ⟨0, rfl, (Wk.ends ok h).2.1, rfl⟩, by omega⟩
/-! no name twice is enough -/
inductive Pt (zs : List Nam) (f : Pr) (x : Nam) : List Nam → Int → Prop
  | one : x ∈ zs → Pt zs f x [x] 0
  | step {y m : Nam} {r : List Nam} {u w : Int} : Pt zs f x (m :: r) u → f m y = some w → Pt zs f x (y :: m :: r) (u + w)
theorem Pt.wk {zs : List Nam} {f : Pr} {x : Nam} {l : List Nam} {v : Int} (h : Pt zs f x l v) : ∀ {y r}, l = y :: r → Wk zs f r.length x y v := by
  induction h with
  | one hx =>
    rintro y r e
    cases e
    exact ⟨rfl, hx, rfl⟩
  | step h1 h2 ih =>
    rintro y r e
    cases e
    exact ⟨_, _, _, ih rfl, h2, rfl⟩
theorem Wk.pt {zs : List Nam} {f : Pr} {x : Nam} : ∀ {k : Nat} {y : Nam} {v : Int}, Wk zs f k x y v → ∃ r, r.length = k ∧ Pt zs f x (y :: r) v
  | 0, y, v, h => by
    obtain ⟨rfl, hx, rfl⟩ := h
    exact ⟨[], rfl, .one hx⟩
  | k + 1, y, v, h => by
    obtain ⟨m, u, w, h1, h2, rfl⟩ := h
    obtain ⟨r, e, p⟩ := Wk.pt h1
    exact ⟨m :: r, by rw [List.length_cons, e], .step p h2⟩
theorem Pt.pos {zs : List Nam} {f : Pr} (ok : FOk zs f) {x : Nam} {l : List Nam} {v : Int} (h : Pt zs f x l v) : 0 ≤ v ∧ ∀ z ∈ l, z ∈ zs := by
  induction h with
  | one hx => exact ⟨Int.le_refl _, fun z hz => by rw [List.mem_singleton.mp hz]; exact hx⟩
  | step h1 h2 ih =>
    obtain ⟨_, e, g⟩ := ok _ _ _ h2
    refine ⟨by have := ih.1; omega, fun z hz => ?_⟩
    rcases List.mem_cons.mp hz with rfl | hz
    · exact e
    · exact ih.2 z hz
theorem Pt.suffix {zs : List Nam} {f : Pr} (ok : FOk zs f) {x y : Nam} {l : List Nam} {v : Int} (h : Pt zs f x l v) : y ∈ l → l.Nodup → ∃ r u, Pt zs f x (y :: r) u ∧ u ≤ v ∧ (y :: r).Nodup := by
  induction h with
  | one hx =>
    intro hy hn
    rw [List.mem_singleton.mp hy]
    exact ⟨[], 0, .one hx, Int.le_refl _, hn⟩
  | @step y0 m r u w h1 h2 ih =>
    intro hy hn
    rcases List.mem_cons.mp hy with rfl | hy
    · exact ⟨m :: r, u + w, .step h1 h2, Int.le_refl _, hn⟩
    · obtain ⟨r', u', p, l, n⟩ := ih hy (List.nodup_cons.mp hn).2
      have := (ok _ _ _ h2).2.2
      exact ⟨r', u', p, by omega, n⟩
theorem Pt.short {zs : List Nam} {f : Pr} (ok : FOk zs f) {x : Nam} {l : List Nam} {v : Int} (h : Pt zs f x l v) : ∀ {y r}, l = y :: r → ∃ r' u, Pt zs f x (y :: r') u ∧ u ≤ v ∧ (y :: r').Nodup := by
  induction h with
  | one hx =>
    rintro y r e
    cases e
    exact ⟨[], 0, .one hx, Int.le_refl _, by simp⟩
  | @step y0 m r u w h1 h2 ih =>
    rintro y r' e
    cases e
    obtain ⟨r', u', p, l, n⟩ := ih rfl
    have hw := (ok _ _ _ h2).2.2
    by_cases hy : y0 ∈ m :: r'
    · obtain ⟨r2, u2, p2, l2, n2⟩ := p.suffix ok hy n
      exact ⟨r2, u2, p2, by omega, n2⟩
    · exact ⟨m :: r', u' + w, .step p h2, by omega, List.nodup_cons.mpr ⟨hy, n⟩⟩
theorem Wk.short {zs : List Nam} {f : Pr} (ok : FOk zs f) {k : Nat} {x y : Nam} {v : Int} (h : Wk zs f k x y v) : ∃ j u, j + 1 ≤ zs.length ∧ Wk zs f j x y u ∧ u ≤ v := by
  obtain ⟨r, _, p⟩ := h.pt
  obtain ⟨r', u, p', l, n⟩ := p.short ok rfl
  have := nd_lenK n (p'.pos ok).2
  rw [List.length_cons] at this
  exact ⟨r'.length, u, this, p'.wk rfl, l⟩
/-- enough steps are as good as any number -/
theorem up_any {zs : List Nam} {f : Pr} (ok : FOk zs f) {n : Nat} (hn : zs.length ≤ n + 1) {o : Option Int} {x y : Nam} (h : IsMin o (Up zs f n x y)) : IsMin o (Any zs f x y) := by
  refine h.dom (fun v ⟨k, _, w⟩ => ⟨k, w⟩) ?_
  rintro v ⟨k, w⟩
  obtain ⟨j, u, hj, w', l⟩ := w.short ok
  exact ⟨u, ⟨j, by omega, w'⟩, l⟩
/-! tight steps -/
def Tight (f D : Pr) (x : Nam) : Nat → Nam → Prop
  | 0, y => y = x
  | j + 1, y => ∃ m u w, Tight f D x j m ∧ D x m = some u ∧ f m y = some w ∧ D x y = some (u + w)
theorem tight_of {zs : List Nam} {f D : Pr} (hD : ∀ x y, IsMin (D x y) (Any zs f x y)) {x : Nam} : ∀ {j : Nat} {y : Nam} {v : Int}, Wk zs f j x y v → D x y = some v → Tight f D x j y
  | 0, y, v, h, _ => h.1.symm
  | j + 1, y, v, h, e => by
    obtain ⟨m, u, w, h1, h2, rfl⟩ := h
    obtain ⟨u0, e0, ⟨k, hk⟩, l0⟩ := (hD x m).ex ⟨j, h1⟩
    have := ((hD x y).1 _ e).2 (u0 + w) ⟨k + 1, m, u0, w, hk, h2, rfl⟩
    have eu : u0 = u := by omega
    subst eu
    exact ⟨m, u0, w, tight_of hD h1 e0, e0, h2, e⟩
theorem tight_ex {zs : List Nam} {f D : Pr} (ok : FOk zs f) (hD : ∀ x y, IsMin (D x y) (Any zs f x y)) {x y : Nam} {v : Int} (e : D x y = some v) : ∃ j, j + 1 ≤ zs.length ∧ Tight f D x j y := by
  obtain ⟨⟨k, h⟩, mn⟩ := (hD x y).1 v e
  obtain ⟨j, u, hj, w, l⟩ := h.short ok
  have := mn u ⟨j, w⟩
  have eu : u = v := by omega
  subst eu
  exact ⟨j, hj, tight_of hD w e⟩
theorem any_refl {zs : List Nam} {f D : Pr} (ok : FOk zs f) (hD : ∀ x y, IsMin (D x y) (Any zs f x y)) {x : Nam} (hx : x ∈ zs) : D x x = some 0 := by
  obtain ⟨m, e, ⟨k, h⟩, l⟩ := (hD x x).ex ⟨0, rfl, hx, rfl⟩
  have := (Wk.ends ok h).2.2
  rw [e, show m = 0 by omega]
theorem any_pos {zs : List Nam} {f D : Pr} (ok : FOk zs f) (hD : ∀ x y, IsMin (D x y) (Any zs f x y)) : FOk zs D := fun x y v e => by
  obtain ⟨⟨k, h⟩, _⟩ := (hD x y).1 v e
  exact Wk.ends ok h
theorem any_step {zs : List Nam} {f D : Pr} (hD : ∀ x y, IsMin (D x y) (Any zs f x y)) {x y z : Nam} {u w : Int} (e : D x y = some u) (h : f y z = some w) : ∃ v, D x z = some v ∧ v ≤ u + w := by
  obtain ⟨⟨k, hk⟩, _⟩ := (hD x y).1 u e
  obtain ⟨m, e1, _, l⟩ := (hD x z).ex ⟨k + 1, y, u, w, hk, h, rfl⟩
  exact ⟨m, e1, l⟩
end TK

namespace TK
open PySem PySem.Spec PyProof.Rows L2
/-! a static method of an own class -/
structure SMet (K : PySem.W.Frag) (C : Addr) (mc : Value) (m : Str) (p g : Addr) : Prop where
  at_ : PySem.W.findCls K (.ref C) mc m = some (.get (.builtin "staticmethod.__get__") (.ref p) .none (.ref C))
  rc : ∃ rest, PySem.W.recIn K p "staticmethod" = some (.ref g :: rest)
section
variable {X : Cx} {pins : List (Addr × Obj)} {σ : L2.St} {H : Hp} {s : Shared} {C p g : Addr} {mc : Value} {m : Str} {A : Around} {E : Value → Shared → Prop}
theorem getsm_ok {b : Bool} {Q : Value → Shared → Prop} (I : Inv X pins σ H s) (r : ClX.CRead X.K C mc) (k : SMet X.K C mc m p g) (h : ∀ s', Inv X pins σ H s' → Q (.ref g) s') : wpAny (model X.prog X.w) A (getAttr (.ref C) m b) Q E s := by
  obtain ⟨rest, hp⟩ := k.rc
  refine PySem.W.cls_bind I.kIn r.rd k.at_ ?_
  refine wpAny_call (PySem.W.sm_get (s := { s with toks := s.toks + 1 }) I.kIn hp (PySem.W.handed_on rfl ?_))
  exact h _ (I.tok _)
theorem getmethsm_ok {pl : Sem Bool} {Q : Value × List Value → Shared → Prop} (I : Inv X pins σ H s) (r : ClX.CRead X.K C mc) (k : SMet X.K C mc m p g) (h : ∀ s', Inv X pins σ H s' → Q (.ref g, []) s') : wpAny (model X.prog X.w) A (getMethod (.ref C) m pl) Q E s :=
  PySem.W.method_cls I.kIn r.ga (getsm_ok I r k h)
end
/-- e.m(..), e the class at C, m a static method -/
def tSMeth (C : Addr) (sp : Sp) (E : XK) (ta : TE) (t : TA) : TE := fun σ H Q => ta σ H fun x H1 => x = .ref C ∧ t σ H1 fun vs H2 => sp vs H2 Q E
section
variable {X : Cx} {CX : CXT} {k : Nat} {C p g : Addr} {mc : Value} {fd : FuncData} {ps : List Str} {sp : Sp} {E : XK} {o e : Expr} {es : List Expr} {m : Str} {pos apos : Pos} {ta : TE} {t : TA} {pl : Sem Bool}
theorem pe_smeth (he : PE X o ta) (r : ClX.CRead X.K C mc) (c : SMet X.K C mc m p g) (F : FnOk X.prog X.w X.K X.mg X.base CX k g fd ps sp) (hr : Room k X.A) (hk : PySem.W.keepIn X.K (.ref g) = true) (hb : Binds X.K fd ps []) (hx : Passes CX X E) (ha : PA X (e :: es) t)
    (hst : starEach (e :: es) X.env = (false, eval e X.env) :: starEach es X.env := by rfl) (hpl : (backTo pos (starEach es X.env)).any (·.1) = false := by rfl)
    (ht : eval (.Call (.Attribute o m apos) (e :: es) [] pos) X.env = (do
      let ov ← eval o X.env
      standAt apos.atName
      let (f, first) ← holding [ov] (getMethod ov m pl)
      callWith pos f first (backTo pos (starEach (e :: es) X.env)) (backToKw pos (keywordEach [] X.env))) := by rfl) :
    PE X (.Call (.Attribute o m apos) (e :: es) [] pos) (tSMeth C sp E ta t) := by
  refine ⟨fun pins s σ H Q I h => ?_⟩
  refine PySem.W.methodCall_KW (pl := pl) (thn (he.run pins s σ H _ I h) fun u s1 ⟨x, H1, I1, rx, ex, q⟩ => ?_) ht
  subst ex
  obtain rfl : u = Value.ref C := rx
  refine getmethsm_ok I1 r c fun s2 I2 => ?_
  refine PySem.W.callWith_K (first := []) (h₀ := X.base) I2.ok.mod.kin hk (thn (ha.run pos pins s2 σ H1 _ I2 q) fun us s3 ⟨vs, H2, I3, rv, q2⟩ => ⟨I3.kIn, ?_⟩) hst hpl
  exact run_fn (dvs := []) (vs := vs) F hr hb .nil hx I3 rv (by rw [List.append_nil]; exact q2)
theorem pi_listK {X : Cx} {K : PySem.W.Frag} {tg e : Expr} {te : TE} (h : X.K = K) (he : PE X e te) : PI X tg e (iList K te) := h ▸ pi_list he
end
abbrev s_Tolls_same : Stmt := inClass (topS 28) 1
theorem sc_Tolls_same : FnScope ["names", "name"] ["names"] (defScope s_Tolls_same) := ⟨rfl, rfl, rfl, by decide +kernel, rfl, by decide +kernel, by decide +kernel⟩
abbrev s_Tolls_mul : Stmt := inClass (topS 28) 5
theorem sc_Tolls_mul : FnScope ["self", "other", "giver", "middle", "toll", "start", "taker", "further"] ["self", "other"] (defScope s_Tolls_mul) := ⟨rfl, rfl, rfl, by decide +kernel, rfl, by decide +kernel, by decide +kernel⟩
abbrev s_Tolls_or : Stmt := inClass (topS 28) 6
theorem sc_Tolls_or : FnScope ["self", "other"] ["self", "other"] (defScope s_Tolls_or) := ⟨rfl, rfl, rfl, by decide +kernel, rfl, by decide +kernel, by decide +kernel⟩
/-! tables by their prices -/
def TkF (K : PySem.W.Frag) (C : Addr) (H : Hp) (p : Addr) (zs : List Nam) (f : Pr) : Prop := ∃ ts, TkAt K C H p zs ts ∧ EOk zs ts ∧ (∀ x y, leastE ts x y = f x y) ∧ ts.length ≤ 10000
theorem TkF.same {K : PySem.W.Frag} {C : Addr} {H H' : Hp} {p : Addr} {zs : List Nam} {f : Pr} (h : TkF K C H p zs f) (s : Same H H') : TkF K C H' p zs f := by
  obtain ⟨ts, h1, h2⟩ := h
  exact ⟨ts, h1.same s, h2⟩
theorem TkF.ok {K : PySem.W.Frag} {C : Addr} {H : Hp} {p : Addr} {zs : List Nam} {f : Pr} (h : TkF K C H p zs f) : FOk zs f := by
  obtain ⟨ts, h1, h2, h3, h4⟩ := h
  intro x y v e
  rw [← h3] at e
  exact least_in h2 e
theorem TkF.ins {K : PySem.W.Frag} {C : Addr} {H : Hp} {p : Addr} {zs : List Nam} {f : Pr} (h : TkF K C H p zs f) : IsIn H (.ref p) C := by
  obtain ⟨ts, ⟨dx, a, d, kvs, h1, _⟩, _⟩ := h
  exact ⟨p, dx, _, rfl, h1⟩
theorem TkF.congr {K : PySem.W.Frag} {C : Addr} {H : Hp} {p : Addr} {zs : List Nam} {f g : Pr} (h : TkF K C H p zs f) (e : ∀ x y, f x y = g x y) : TkF K C H p zs g := by
  obtain ⟨ts, h1, h2, h3, h4⟩ := h
  exact ⟨ts, h1, h2, fun x y => (h3 x y).trans (e x y), h4⟩
def prod1 (a : Tie) (bs : List Tie) : List Tie := (bs.filter fun b => decide (b.1 = a.2.1)).map fun b => (a.1, b.2.1, a.2.2 + b.2.2)
def prodT (as bs : List Tie) : List Tie := as.flatMap fun a => prod1 a bs
theorem prod_mem {as bs : List Tie} {x y : Nam} {v : Int} : (x, y, v) ∈ prodT as bs ↔ ∃ m u w, (x, m, u) ∈ as ∧ (m, y, w) ∈ bs ∧ v = u + w := by
  unfold prodT prod1
  constructor
  · intro h
    obtain ⟨⟨a, m, u⟩, ha, h⟩ := List.mem_flatMap.mp h
    obtain ⟨⟨m', b, w⟩, hb, e⟩ := List.mem_map.mp h
    obtain ⟨hb2, e2⟩ := List.mem_filter.mp hb
    have e3 : m' = m := of_decide_eq_true e2
    subst e3
    cases e
    exact ⟨m', u, w, ha, hb2, rfl⟩
  · rintro ⟨m, u, w, ha, hb, rfl⟩
    exact List.mem_flatMap.mpr ⟨_, ha, List.mem_map.mpr ⟨(m, y, w), List.mem_filter.mpr ⟨hb, decide_eq_true rfl⟩, rfl⟩⟩
theorem prod_ok {zs : List Nam} {as bs : List Tie} (a : EOk zs as) (b : EOk zs bs) : EOk zs (prodT as bs) := by
  refine ⟨?_, ?_, ?_⟩ <;> rintro ⟨x, y, v⟩ h <;> obtain ⟨m, u, w, h1, h2, rfl⟩ := prod_mem.mp h
  · exact a.a (x, m, u) h1
  · exact b.b (m, y, w) h2
  · have t1 : 0 ≤ u := a.h0 (x, m, u) h1
    have t2 : 0 ≤ w := b.h0 (m, y, w) h2
    show 0 ≤ u + w
    omega
theorem prod_take {as bs : List Tie} {i : Nat} {a : Tie} (h : as[i]? = some a) : prodT (as.take (i + 1)) bs = prodT (as.take i) bs ++ prod1 a bs := by
  unfold prodT
  rw [List.take_add_one, h, List.flatMap_append]
  show _ ++ List.flatMap _ [a] = _
  rw [List.flatMap_singleton]
theorem prod1_nil {a : Tie} : prod1 a [] = [] := rfl
theorem prod1_take {a b : Tie} {bs : List Tie} {j : Nat} (h : bs[j]? = some b) : prod1 a (bs.take (j + 1)) = prod1 a (bs.take j) ++ (if b.1 = a.2.1 then [(a.1, b.2.1, a.2.2 + b.2.2)] else []) := by
  unfold prod1
  rw [List.take_add_one, h, List.filter_append, List.map_append]
  congr 1
  show List.map _ (List.filter _ [b]) = _
  by_cases e : b.1 = a.2.1
  · rw [if_pos e, List.filter_cons, if_pos (decide_eq_true e)]; rfl
  · rw [if_neg e, List.filter_cons, if_neg (by simp [e])]; rfl
section
variable {P : Program} {w : World} {K : PySem.W.Frag} {mg : Str → Option Value} {base : Heap}
/-! Tolls.same -/
def diagT (zs : List Nam) : List Tie := zs.map fun z => (z, z, 0)
theorem diag_mem {zs : List Nam} {x y : Nam} {v : Int} : (x, y, v) ∈ diagT zs ↔ x = y ∧ x ∈ zs ∧ v = 0 := by
  unfold diagT
  constructor
  · intro h
    obtain ⟨z, hz, e⟩ := List.mem_map.mp h
    cases e
    exact ⟨rfl, hz, rfl⟩
  · rintro ⟨rfl, hx, rfl⟩
    exact List.mem_map.mpr ⟨x, hx, rfl⟩
def spSameT (K : PySem.W.Frag) (C : Addr) : Sp := fun vs H Q _ => ∃ (a : Addr) (zs : List Nam), vs = [.ref a] ∧ (SqL K H a (zs.map vN) ∨ TL H a (zs.map vN)) ∧ NsOk zs ∧
  ∀ H' r f, Same H H' → TkF K C H' r zs f → (∀ x y, IsMin (f x y) fun v => x = y ∧ x ∈ zs ∧ v = 0) → Q (.ref r) H'
theorem ok_Tolls_same {f C fI : Addr} {fd fdI : FuncData} (F : Fun K "same" "Tolls.same" s_Tolls_same f fd) (M_Tolls : Mk K C fI) (G_Tolls : FnOk P w K mg base CX0 3 fI fdI ["self", "names", "entries"] (spInitT K C)) (mg_Tolls : mg "Tolls" = some (.ref C)) (b_Tolls : Binds K fdI ["self", "names", "entries"] []) :
    FnOk P w K mg base CX0 5 f fd ["names"] (spSameT K C) := by
  refine F.ok sc_Tolls_same (fun vs H Q E h => ?_) (fun cdv A outer s H vs Q E hr h => ?_)
  · obtain ⟨a, zs, rfl, _⟩ := h
    rfl
  · obtain ⟨a, zs, rfl, hA, nok, q⟩ := h
    have z6 := nok.l6
    have key : ∀ (D : Addr) (es : List Addr) (H1 : Hp), Same H H1 → H1 D = some (.lst (es.map V.ref)) → TiesAt H1 es (diagT zs) → ∀ x dx, H1 x = none → H1 dx = none → dx ≠ x →
        spInitT K C [.ref x, .ref a, .ref D] (upd (upd H1 dx (.own x)) x (.ins C dx [])) (fun v H2 => v = .non ∧ Q (.ref x) H2) E := by
      intro D es H1 s1 eD hT x dx n1 n2 ne
      have dok : EOk zs (diagT zs) := by
        refine ⟨?_, ?_, ?_⟩ <;> rintro ⟨x, y, v⟩ h <;> obtain ⟨h1, h2, h3⟩ := diag_mem.mp h
        · exact h2
        · exact h1 ▸ h2
        · show 0 ≤ v
          omega
      have dl : (diagT zs).length ≤ 10000 := by unfold diagT; rw [List.length_map]; omega
      exact make_go n1 n2 ne (hA.elim (fun h => .inl (s1.seq h)) (fun h => .inr (h.same s1))) (.inl (lstAt eD)) hT nok dok dl fun H2 tk s2 => q _ _ _ (s1.trans s2) ⟨_, tk, dok, fun _ _ => rfl, dl⟩ fun x y => (leastE_min _ x y).congr fun v => diag_mem
    rcases id hA with hL | hU
    · refine ⟨_, (pss_one (ps_ret (pe_make M_Tolls G_Tolls (hr.mono (by decide)) (by rfl) mg_Tolls b_Tolls .nil pass0 (pa_cons (pv 0) (pa_cons (pe_lc (own := [("name", 1)]) (by rfl) sc_Tolls_same.nd (pi_list (pv 0)) (blkOk_by (N := ["names", "name"]) (sc := defScope s_Tolls_same) (by decide +kernel)) (fun _ _ _ _ _ => (pg_name (i := 1) sc_Tolls_same.nd rfl (.inl rfl))) (fun _ _ _ _ _ => pts_nil) (fun _ _ _ _ _ => (pe_tup (pa_cons (pv 1) (pa_cons (pv 1) (pa_cons pe_int pa_nil)))))) pa_nil))))), ?_⟩
      refine ⟨_, rfl, _, rfl, a, rfl, ⟨_, hL⟩, fun D nD => ?_⟩
      refine lc_list (K := K) (a := a) (xs := zs.map vN) (fun i H' => ∃ es : List Addr, Same H H' ∧ H' D = some (.lst (es.map V.ref)) ∧ TiesAt H' es (diagT (zs.take i)) ∧ es.length = i) ⟨[], same_upd nD, upd_same, ⟨rfl, fun _ _ h => nomatch h⟩, rfl⟩ (fun i H' _ hq => hq.choose_spec.1.seq hL) (fun i x H' hx hq => ?_) (fun H' hq => ?_)
      · obtain ⟨es, s1, eD, hT, l1⟩ := hq
        obtain ⟨z, ez, rfl⟩ := vN_at hx
        have hi6 : i < 6 := by have := (List.getElem?_eq_some_iff.mp ez).1; omega
        refine ⟨rfl, yesT ⟨_, rfl, _, rfl, (show (3 : Nat) ≤ sizeLine by decide), fun t nt => ?_⟩⟩
        have st := same_upd (o := .tup [vN z, vN z, .int 0]) nt
        have tD : t ≠ D := (ne_of_none eD nt).symm
        refine ⟨_, st _ _ eD, by rw [List.length_map]; exact small1000 (by omega), es ++ [t], same_at (s1.trans st) nD, by rw [List.map_append]; exact upd_same, ?_, by rw [List.length_append, l1]; rfl⟩
        rw [show diagT (zs.take (i + 1)) = diagT (zs.take i) ++ [(z, z, 0)] by unfold diagT; rw [List.take_add_one, ez, List.map_append]; rfl]
        exact ((hT.same st).snoc (Same.refl _) (show TieAt _ t (z, z, 0) from upd_same)).wrote (st _ _ eD)
      · obtain ⟨es, s1, eD, hT, l1⟩ := hq
        rw [List.length_map, List.take_length] at hT
        exact key D es H' s1 eD hT
    · refine ⟨_, (pss_one (ps_ret (pe_make M_Tolls G_Tolls (hr.mono (by decide)) (by rfl) mg_Tolls b_Tolls .nil pass0 (pa_cons (pv 0) (pa_cons (pe_lc (own := [("name", 1)]) (by rfl) sc_Tolls_same.nd (pi_tup (pv 0)) (blkOk_by (N := ["names", "name"]) (sc := defScope s_Tolls_same) (by decide +kernel)) (fun _ _ _ _ _ => (pg_name (i := 1) sc_Tolls_same.nd rfl (.inl rfl))) (fun _ _ _ _ _ => pts_nil) (fun _ _ _ _ _ => (pe_tup (pa_cons (pv 1) (pa_cons (pv 1) (pa_cons pe_int pa_nil)))))) pa_nil))))), ?_⟩
      refine ⟨_, rfl, _, rfl, a, rfl, ⟨_, hU.sq⟩, fun D nD => ?_⟩
      refine lc_tup (K := K) (a := a) (xs := zs.map vN) (fun i H' => ∃ es : List Addr, Same H H' ∧ H' D = some (.lst (es.map V.ref)) ∧ TiesAt H' es (diagT (zs.take i)) ∧ es.length = i) ⟨[], same_upd nD, upd_same, ⟨rfl, fun _ _ h => nomatch h⟩, rfl⟩ (fun i H' _ hq => same_tup hq.choose_spec.1 hU.sq) (fun i x H' hx hq => ?_) (fun H' hq => ?_)
      · obtain ⟨es, s1, eD, hT, l1⟩ := hq
        obtain ⟨z, ez, rfl⟩ := vN_at hx
        have hi6 : i < 6 := by have := (List.getElem?_eq_some_iff.mp ez).1; omega
        refine ⟨rfl, yesT ⟨_, rfl, _, rfl, (show (3 : Nat) ≤ sizeLine by decide), fun t nt => ?_⟩⟩
        have st := same_upd (o := .tup [vN z, vN z, .int 0]) nt
        have tD : t ≠ D := (ne_of_none eD nt).symm
        refine ⟨_, st _ _ eD, by rw [List.length_map]; exact small1000 (by omega), es ++ [t], same_at (s1.trans st) nD, by rw [List.map_append]; exact upd_same, ?_, by rw [List.length_append, l1]; rfl⟩
        rw [show diagT (zs.take (i + 1)) = diagT (zs.take i) ++ [(z, z, 0)] by unfold diagT; rw [List.take_add_one, ez, List.map_append]; rfl]
        exact ((hT.same st).snoc (Same.refl _) (show TieAt _ t (z, z, 0) from upd_same)).wrote (st _ _ eD)
      · obtain ⟨es, s1, eD, hT, l1⟩ := hq
        rw [List.length_map, List.take_length] at hT
        exact key D es H' s1 eD hT
end
end TK

namespace TK
open PySem PySem.Spec PyProof.Rows L2
/-- three names for the items of a tuple, and what stands in the slots then -/
theorem gTup3 {K : PySem.W.Frag} {i j k : Nat} {e : Addr} {x y z : V} {σ : L2.St} {H : Hp} {Q : L2.St → Hp → Prop} (he : H e = some (.tup [x, y, z])) (σ' : L2.St) (hσ : ((σ.set i (some x)).set j (some y)).set k (some z) = σ') (h : Q σ' H) :
    gTup K 3 (gCons (gName i) (gCons (gName j) (gCons (gName k) gNil))) (.ref e) σ H Q := by
  subst hσ
  exact ⟨_, _, rfl, tupAt he, rfl, _, _, rfl, _, _, rfl, _, _, rfl, rfl, h⟩
section
variable {P : Program} {w : World} {K : PySem.W.Frag} {mg : Str → Option Value} {base : Heap}
/-! t | u -/
def spOrT (K : PySem.W.Frag) (C : Addr) : Sp := fun vs H Q _ => ∃ (p p' : Addr) (zs : List Nam) (f g : Pr), vs = [.ref p, .ref p'] ∧ TkF K C H p zs f ∧ TkF K C H p' zs g ∧ NsOk zs ∧
  ∀ H' r h, Same H H' → TkF K C H' r zs h → (∀ x y, IsMin (h x y) fun v => f x y = some v ∨ g x y = some v) → Q (.ref r) H'
theorem ok_Tolls_or {f C fI gE : Addr} {fd fdI fdE : FuncData} (F : Fun K "__or__" "Tolls.__or__" s_Tolls_or f fd) (T : TxtT K C) (M_Tolls : Mk K C fI) (G_Tolls : FnOk P w K mg base CX0 3 fI fdI ["self", "names", "entries"] (spInitT K C)) (mg_Tolls : mg "Tolls" = some (.ref C)) (b_Tolls : Binds K fdI ["self", "names", "entries"] [])
    (Me_entries : Meth K C "entries" gE) (G_entries : FnOk P w K mg base CX0 1 gE fdE ["self"] (spEntries K C)) (b_entries : Binds K fdE ["self"] []) : FnOk P w K mg base CX0 5 f fd ["self", "other"] (spOrT K C) := by
  refine F.ok sc_Tolls_or (fun vs H Q E h => ?_) (fun cdv A outer s H vs Q E hr h => ?_)
  · obtain ⟨p, p', zs, f, g, rfl, _⟩ := h
    rfl
  · obtain ⟨p, p', zs, f, g, rfl, ⟨ts, tk, eok, ef, tl⟩, ⟨us, uk, uok, eg, ul⟩, nok, q⟩ := h
    have z6 := nok.l6
    obtain ⟨dx, a, d, kvs, hp, hA, hd, kv, kl⟩ := id tk
    obtain ⟨dx', a', d', kvs', hp', hA', hd', kv', kl'⟩ := id uk
    refine ⟨_, (pss_cons (ps_if (pt_cmpR (op_neD hr.units) (pe_fld (pv 0) rfl) (pe_fld (pv 1) rfl) (nomark _)) (pss_one ps_never) pss_nil)
  (pss_one (ps_ret (pe_make M_Tolls G_Tolls (hr.mono (by decide)) (by rfl) mg_Tolls b_Tolls .nil pass0 (pa_cons (pe_fld (pv 0) rfl) (pa_cons (pe_op op_cat (pe_meth0 (pv 0) T.cl Me_entries G_entries (hr.mono (by decide)) b_entries .nil pass0) (pe_meth0 (pv 1) T.cl Me_entries G_entries (hr.mono (by decide)) b_entries .nil pass0)) pa_nil)))))), ?_⟩
    obtain ⟨d1, d3, d4⟩ := namesH_dp (K := K) (H := H) nok.nm
    refine ⟨_, rfl, p, C, dx, _, _, rfl, hp, T.cl, T.nN, fldsT_names _ _, _, rfl, p', C, dx', _, _, rfl, hp', T.cl, T.nN, fldsT_names _ _, .tuple _, .tuple _, .tup hA.sq d1, .tup hA'.sq d1, nmT_shape d3 d4, nmT_shape d3 d4, _, rfl, ?_⟩
    rw [SeqAt.eqv_refl _ (nmT_lay d3)]
    refine iteF ?_
    refine ⟨_, rfl, p, C, dx, _, _, rfl, hp, T.cl, T.nN, fldsT_names _ _, _, rfl, p, dx, _, rfl, hp, fldsT_none _ _, p, zs, ts, rfl, tk, z6, fun H1 e1 es1 ne1 s1 ee1 t1 m1 => ?_⟩
    refine ⟨_, rfl, p', dx', _, rfl, s1 _ _ hp', fldsT_none _ _, p', zs, us, rfl, uk.same s1, z6, fun H2 e2 es2 ne2 s2 ee2 t2 m2 => ?_⟩
    refine ⟨e1, e2, _, _, rfl, rfl, s2 _ _ ee1, ee2, by rw [List.length_map, List.length_map]; exact Nat.le_of_lt (small1000 (by omega)), fun L nL => ?_⟩
    rw [← List.map_append]
    have sL := same_upd (o := .lst ((es1 ++ es2).map V.ref)) nL
    have s3 := (s1.trans s2).trans sL
    have hT := ((t1.same s2).app t2).same sL
    have ok1 := listE_ok eok
    have ok2 := listE_ok uok
    have ok3 : EOk zs (listE zs ts ++ listE zs us) := ⟨fun t m => (List.mem_append.mp m).elim (ok1.a t) (ok2.a t), fun t m => (List.mem_append.mp m).elim (ok1.b t) (ok2.b t), fun t m => (List.mem_append.mp m).elim (ok1.h0 t) (ok2.h0 t)⟩
    have l3 : (listE zs ts ++ listE zs us).length ≤ 10000 := by rw [← hT.1, List.length_append]; omega
    intro x dx2 n1 n2 ne
    refine make_go n1 n2 ne (.inr (hA.same s3)) (.inl (lstAt upd_same)) hT nok ok3 l3 fun H4 k4 s4 => ?_
    refine q _ _ _ (s3.trans s4) ⟨_, k4, ok3, fun _ _ => rfl, l3⟩ fun x y => (leastE_min _ x y).congr fun v => ?_
    rw [List.mem_append, listE_mem, listE_mem, ef, eg]
    constructor
    · rintro (h | h)
      · exact .inl h.2.2
      · exact .inr h.2.2
    · rintro (h | h)
      · obtain ⟨i1, i2, _⟩ := least_in eok ((ef x y).trans h)
        exact .inl ⟨i1, i2, h⟩
      · obtain ⟨i1, i2, _⟩ := least_in uok ((eg x y).trans h)
        exact .inr ⟨i1, i2, h⟩
/-! t * u -/
def spMulT (K : PySem.W.Frag) (C : Addr) : Sp := fun vs H Q _ => ∃ (p p' : Addr) (zs : List Nam) (f g : Pr), vs = [.ref p, .ref p'] ∧ TkF K C H p zs f ∧ TkF K C H p' zs g ∧ NsOk zs ∧
  ∀ H' r h, Same H H' → TkF K C H' r zs h → (∀ x y, IsMin (h x y) (Sum2 (fun x m u => f x m = some u) (fun m y w => g m y = some w) x y)) → Q (.ref r) H'
theorem ok_Tolls_mul {f C fI gE : Addr} {fd fdI fdE : FuncData} (F : Fun K "__mul__" "Tolls.__mul__" s_Tolls_mul f fd) (T : TxtT K C) (M_Tolls : Mk K C fI) (G_Tolls : FnOk P w K mg base CX0 3 fI fdI ["self", "names", "entries"] (spInitT K C)) (mg_Tolls : mg "Tolls" = some (.ref C)) (b_Tolls : Binds K fdI ["self", "names", "entries"] [])
    (Me_entries : Meth K C "entries" gE) (G_entries : FnOk P w K mg base CX0 1 gE fdE ["self"] (spEntries K C)) (b_entries : Binds K fdE ["self"] []) : FnOk P w K mg base CX0 5 f fd ["self", "other"] (spMulT K C) := by
  refine F.ok sc_Tolls_mul (fun vs H Q E h => ?_) (fun cdv A outer s H vs Q E hr h => ?_)
  · obtain ⟨p, p', zs, f, g, rfl, _⟩ := h
    rfl
  · obtain ⟨p, p', zs, f, g, rfl, ⟨ts, tk, eok, ef, tl⟩, ⟨us, uk, uok, eg, ul⟩, nok, q⟩ := h
    have z6 := nok.l6
    obtain ⟨dx, a, d, kvs, hp, hA, hd, kv, kl⟩ := id tk
    obtain ⟨dx', a', d', kvs', hp', hA', hd', kv', kl'⟩ := id uk
    refine ⟨_, (pss_cons (ps_if (pt_cmpR (op_neD hr.units) (pe_fld (pv 0) rfl) (pe_fld (pv 1) rfl) (nomark _)) (pss_one ps_never) pss_nil)
  (pss_one (ps_ret (pe_make M_Tolls G_Tolls (hr.mono (by decide)) (by rfl) mg_Tolls b_Tolls .nil pass0 (pa_cons (pe_fld (pv 0) rfl) (pa_cons (pe_lc2 (own := [("giver", 2), ("middle", 3), ("toll", 4), ("start", 5), ("taker", 6), ("further", 7)]) (vs1 := [5, 6, 7]) (by rfl) sc_Tolls_mul.nd (pi_list (pe_meth0 (pv 0) T.cl Me_entries G_entries (hr.mono (by decide)) b_entries .nil pass0)) (blkOk_by (N := ["self", "other", "giver", "middle", "toll", "start", "taker", "further"]) (sc := defScope s_Tolls_mul) (by decide +kernel)) (by decide) (fun _ _ _ _ _ => (pg_tupK (K := K) (n := 3) rfl (by rfl) (pgs_cons (pg_name (i := 2) sc_Tolls_mul.nd rfl (.inl rfl)) (pgs_cons (pg_name (i := 3) sc_Tolls_mul.nd rfl (.inl rfl)) (pgs_cons (pg_name (i := 4) sc_Tolls_mul.nd rfl (.inl rfl)) pgs_nil))))) (fun _ _ _ _ _ => pts_nil) (fun _ _ _ _ _ => (pi_listK (K := K) rfl (pe_meth0 (pv 1) T.cl Me_entries G_entries (hr.mono (by decide)) b_entries .nil pass0))) (fun _ _ _ _ _ => (pg_tupK (K := K) (n := 3) rfl (by rfl) (pgs_cons (pg_name (i := 5) sc_Tolls_mul.nd rfl (.inl rfl)) (pgs_cons (pg_name (i := 6) sc_Tolls_mul.nd rfl (.inl rfl)) (pgs_cons (pg_name (i := 7) sc_Tolls_mul.nd rfl (.inl rfl)) pgs_nil))))) (fun _ _ _ _ _ => (pts_one (pt_cmpR op_eq (pv 5) (pv 3) (nomark _)))) (fun _ _ _ _ _ => (pe_tup (pa_cons (pv 2) (pa_cons (pv 6) (pa_cons (pe_op op_add (pv 4) (pv 7)) pa_nil)))))) pa_nil)))))), ?_⟩
    obtain ⟨d1, d3, d4⟩ := namesH_dp (K := K) (H := H) nok.nm
    refine ⟨_, rfl, p, C, dx, _, _, rfl, hp, T.cl, T.nN, fldsT_names _ _, _, rfl, p', C, dx', _, _, rfl, hp', T.cl, T.nN, fldsT_names _ _, .tuple _, .tuple _, .tup hA.sq d1, .tup hA'.sq d1, nmT_shape d3 d4, nmT_shape d3 d4, _, rfl, ?_⟩
    rw [SeqAt.eqv_refl _ (nmT_lay d3)]
    refine iteF ?_
    refine ⟨_, rfl, p, C, dx, _, _, rfl, hp, T.cl, T.nN, fldsT_names _ _, _, rfl, p, dx, _, rfl, hp, fldsT_none _ _, p, zs, ts, rfl, tk, z6, fun H1 e1 es1 ne1 s1 ee1 t1 m1 => ?_⟩
    refine ⟨e1, rfl, ⟨_, lstAt ee1⟩, fun D nD => ?_⟩
    refine walk_go (walk_list (K := K) (a := e1) (xs := es1.map V.ref)) (fun i H' => ∃ es : List Addr, Same H1 H' ∧ H' D = some (.lst (es.map V.ref)) ∧ TiesAt H' es (prodT ((listE zs ts).take i) (listE zs us)) ∧ es.length ≤ 36 * i) ⟨[], same_upd nD, upd_same, ⟨rfl, fun _ _ h => nomatch h⟩, Nat.le_refl _⟩ (fun i H' _ hq => lstAt (hq.choose_spec.1 _ _ ee1)) (fun i x H2 H2' hi hq hy => ?_) (fun H' hq => ?_)
    · obtain ⟨es, s2, eD, hT, l2⟩ := hq
      obtain ⟨rfl, hx⟩ := hy
      obtain ⟨e, t, rfl, ei, et, ht⟩ := ties_at t1 hx
      have hi36 : i < 36 := by have := (List.getElem?_eq_some_iff.mp ei).1; omega
      have s12 := s1.trans s2
      refine gTup3 (s2 _ _ ht) [some (.ref p), some (.ref p'), some (vN t.1), some (vN t.2.1), some (.int t.2.2), none, none, none] (by simp [wipe, L2.start]) ?_
      refine ⟨by simp [wipe, L2.start], yesT ?_⟩
      refine ⟨_, rfl, p', dx', _, rfl, s12 _ _ hp', fldsT_none _ _, p', zs, us, rfl, uk.same s12, z6, fun H3 e3 es3 ne3 s3 ee3 t3 m3 => ?_⟩
      refine ⟨e3, rfl, ⟨_, lstAt ee3⟩, ?_⟩
      refine walk_go (walk_list (K := K) (a := e3) (xs := es3.map V.ref)) (fun j H' => ∃ es : List Addr, (H' e3 = some (.lst (es3.map V.ref)) ∧ TiesAt H' es3 (listE zs us)) ∧ Same H1 H' ∧ H' D = some (.lst (es.map V.ref)) ∧ TiesAt H' es (prodT ((listE zs ts).take i) (listE zs us) ++ prod1 t ((listE zs us).take j)) ∧ es.length ≤ 36 * i + j) ?_ (fun j H' _ hq => ?_) (fun j y H4 H4' hj hq hy2 => ?_) (fun H' hq => ?_)
      · exact ⟨es, ⟨ee3, t3⟩, s2.trans s3, s3 _ _ eD, by rw [List.take_zero, prod1_nil, List.append_nil]; exact hT.same s3, by omega⟩
      · obtain ⟨_, q1, _⟩ := hq
        exact lstAt q1.1
      · obtain ⟨es', q1, q2, eD4, hT4, l4⟩ := hq
        obtain ⟨rfl, hx2⟩ := hy2
        obtain ⟨e', b, rfl, ej, eb, hb⟩ := ties_at q1.2 hx2
        have hj36 : j < 36 := by have := (List.getElem?_eq_some_iff.mp ej).1; omega
        refine gTup3 hb [some (.ref p), some (.ref p'), some (vN t.1), some (vN t.2.1), some (.int t.2.2), some (vN b.1), some (vN b.2.1), some (.int b.2.2)] (by simp [wipe]) ?_
        refine ⟨by simp [wipe], ?_⟩
        refine ⟨_, rfl, _, rfl, rfl, _, rfl, ?_⟩
        rw [eq_nm, prod1_take eb]
        by_cases e0 : b.1 = t.2.1
        · rw [decide_eq_true e0, if_pos e0]
          refine iteT ⟨_, rfl, _, rfl, _, rfl, _, rfl, _, _, rfl, rfl, (show (3 : Nat) ≤ sizeLine by decide), fun k nk => ?_⟩
          have sk := same_upd (o := .tup [vN t.1, vN b.2.1, .int (t.2.2 + b.2.2)]) nk
          have kD : k ≠ D := (ne_of_none eD4 nk).symm
          have eD5 := sk _ _ eD4
          have lz : (es'.map V.ref).length < sizeLine := by rw [List.length_map]; exact Nat.lt_of_le_of_lt (show es'.length ≤ 2000 by omega) (by decide)
          have h5 : TiesAt (upd (upd H4' k (.tup [vN t.1, vN b.2.1, .int (t.2.2 + b.2.2)])) D (.lst (es'.map V.ref ++ [.ref k]))) es3 (listE zs us) := (q1.2.same sk).wrote eD5
          have h6 : TiesAt (upd (upd H4' k (.tup [vN t.1, vN b.2.1, .int (t.2.2 + b.2.2)])) D (.lst (es'.map V.ref ++ [.ref k]))) (es' ++ [k]) ((prodT ((listE zs ts).take i) (listE zs us) ++ prod1 t ((listE zs us).take j)) ++ [(t.1, b.2.1, t.2.2 + b.2.2)]) :=
            ((hT4.same sk).snoc (Same.refl _) (show TieAt _ k (t.1, b.2.1, t.2.2 + b.2.2) from upd_same)).wrote eD5
          have h7 : (upd (upd H4' k (.tup [vN t.1, vN b.2.1, .int (t.2.2 + b.2.2)])) D (.lst (es'.map V.ref ++ [.ref k]))) e3 = some (.lst (es3.map V.ref)) := by
            have eD3 : e3 ≠ D := fun z => by
              subst z
              rw [eD] at ne3
              cases ne3
            rw [upd_ne eD3]
            exact sk _ _ q1.1
          rw [List.append_assoc] at h6
          exact ⟨_, eD5, lz, es' ++ [k], ⟨h7, h5⟩, same_at (q2.trans sk) nD, by rw [List.map_append]; exact upd_same, h6, by rw [List.length_append]; simp only [List.length_singleton]; omega⟩
        · rw [decide_eq_false e0, if_neg e0, List.append_nil]
          exact iteF ⟨es', q1, q2, eD4, hT4, by omega⟩
      · obtain ⟨es', q1, q2, eD4, hT4, l4⟩ := hq
        rw [List.length_map, t3.1, List.take_length] at hT4
        rw [List.length_map] at l4
        exact ⟨es', q2, eD4, by rw [prod_take et]; exact hT4, by omega⟩
    · obtain ⟨es, s2, eD, hT, l2⟩ := hq
      rw [List.length_map, t1.1, List.take_length] at hT
      rw [List.length_map] at l2
      have pok := prod_ok (listE_ok eok) (listE_ok uok)
      have pl : (prodT (listE zs ts) (listE zs us)).length ≤ 10000 := by rw [← hT.1]; omega
      intro x dx2 n1 n2 ne
      refine make_go n1 n2 ne (.inr (hA.same (s1.trans s2))) (.inl (lstAt eD)) hT nok pok pl fun H4 k4 s4 => ?_
      refine q _ _ _ ((s1.trans s2).trans s4) ⟨_, k4, pok, fun _ _ => rfl, pl⟩ fun x y => (leastE_min _ x y).congr fun v => ?_
      rw [prod_mem]
      constructor
      · rintro ⟨m, u, w, h1, h2, rfl⟩
        exact ⟨m, u, w, (ef x m).symm.trans (listE_mem.mp h1).2.2, (eg m y).symm.trans (listE_mem.mp h2).2.2, rfl⟩
      · rintro ⟨m, u, w, h1, h2, rfl⟩
        rw [← ef] at h1
        rw [← eg] at h2
        obtain ⟨i1, i2, _⟩ := least_in eok h1
        obtain ⟨i3, i4, _⟩ := least_in uok h2
        exact ⟨m, u, w, listE_mem.mpr ⟨i1, i2, h1⟩, listE_mem.mpr ⟨i3, i4, h2⟩, rfl⟩
end
end TK

namespace TK
open PySem PySem.Spec PyProof.Rows L2
abbrev s_Tolls_power : Stmt := inClass (topS 28) 8
theorem sc_Tolls_power : FnScope ["self", "times", "result", "square"] ["self", "times"] (defScope s_Tolls_power) := ⟨rfl, rfl, rfl, by decide +kernel, rfl, by decide +kernel, by decide +kernel⟩
abbrev s_Tolls_closed : Stmt := inClass (topS 28) 9
theorem sc_Tolls_closed : FnScope ["self", "result", "_"] ["self"] (defScope s_Tolls_closed) := ⟨rfl, rfl, rfl, by decide +kernel, rfl, by decide +kernel, by decide +kernel⟩
theorem fld_names {K : PySem.W.Frag} {C : Addr} {H : Hp} {p : Addr} {zs : List Nam} {f : Pr} (h : TkF K C H p zs f) : ∃ dx a d, H p = some (.ins C dx (fldsT a d)) ∧ TL H a (zs.map vN) := by
  obtain ⟨ts, ⟨dx, a, d, kvs, h1, h2, _⟩, _⟩ := h
  exact ⟨dx, a, d, h1, h2⟩
section
variable {P : Program} {w : World} {K : PySem.W.Frag} {mg : Str → Option Value} {base : Heap}
/-! power -/
def spClosed (K : PySem.W.Frag) (C : Addr) : Sp := fun vs H Q _ => ∃ (p : Addr) (zs : List Nam) (f : Pr), vs = [.ref p] ∧ TkF K C H p zs f ∧ NsOk zs ∧
  ∀ H' r h, Same H H' → TkF K C H' r zs h → (∀ x y, IsMin (h x y) (Any zs f x y)) → Q (.ref r) H'
theorem ok_Tolls_closed {f C gS gM gO pS : Addr} {fd fdS fdM fdO : FuncData} {mc : Value} (F : Fun K "closed" "Tolls.closed" s_Tolls_closed f fd) (T : TxtT K C) (m_range : mg "range" = none) (mg_Tolls : mg "Tolls" = some (.ref C)) (CR : ClX.CRead K C mc)
    (S_same : SMet K C mc "same" pS gS) (k_same : PySem.W.keepIn K (.ref gS) = true) (G_same : FnOk P w K mg base CX0 5 gS fdS ["names"] (spSameT K C)) (b_same : Binds K fdS ["names"] [])
    (sf_ : PySem.W.selfFirst K C = true) (O_mul : Own K C "__mul__" gM) (G_mul : FnOk P w K mg base CX0 5 gM fdM ["self", "other"] (spMulT K C)) (b_mul : Binds K fdM ["self", "other"] [])
    (O_or : Own K C "__or__" gO) (G_or : FnOk P w K mg base CX0 5 gO fdO ["self", "other"] (spOrT K C)) (b_or : Binds K fdO ["self", "other"] []) : FnOk P w K mg base CX0 6 f fd ["self"] (spClosed K C) := by
  refine F.ok sc_Tolls_closed (fun vs H Q E h => ?_) (fun cdv A outer s H vs Q E hr h => ?_)
  · obtain ⟨p, zs, f, rfl, _⟩ := h
    rfl
  · obtain ⟨p, zs, f, rfl, tk, nok, q⟩ := h
    obtain ⟨dx, a, d, hp, hA⟩ := fld_names tk
    have fok := tk.ok
    refine ⟨_, (pss_cons (ps_set (i := 1) sc_Tolls_closed.nd rfl (.inl rfl) (pe_op (op_ownBin O_or sf_ G_or (hr.mono (by decide)) b_or pass0) (pe_smeth (pe_glob (v := .ref C) (u := .ref C) (by rfl) mg_Tolls rfl) CR S_same G_same (hr.mono (by decide)) k_same b_same pass0 (pa_cons (pe_fld (pv 0) rfl) pa_nil)) (pv 0)))
  (pss_cons (ps_for PassesOwn.never rfl (pi_range1 (by rfl) m_range (pa_cons pe_int pa_nil)) (pg_name (i := 2) sc_Tolls_closed.nd rfl (.inl rfl))
    (pss_one (ps_set (i := 1) sc_Tolls_closed.nd rfl (.inl rfl) (pe_op (op_ownBin O_mul sf_ G_mul (hr.mono (by decide)) b_mul pass0) (pv 1) (pv 1)))))
  (pss_one (ps_ret (pv 1))))), ?_⟩
    refine ⟨rfl, _, rfl, p, C, dx, _, _, rfl, hp, T.cl, T.nN, fldsT_names _ _, a, zs, rfl, .inr hA, nok, fun H1 r1 f1 s1 k1 m1 => ?_⟩
    refine ⟨_, rfl, k1.ins, (tk.same s1).ins, r1, p, zs, f1, f, rfl, k1, tk.same s1, nok, fun H2 r2 f2 s2 k2 m2 => ?_⟩
    have b2 : ∀ x y, IsMin (f2 x y) (Up zs f (2 ^ 0) x y) := fun x y => (min_or (m1 x y) (min_self (f x y)) (m2 x y)).congr fun v => by
      constructor
      · rintro (h | h)
        · exact ⟨0, by decide, h⟩
        · exact ⟨1, Nat.le_refl _, x, 0, v, ⟨rfl, (fok _ _ _ h).1, rfl⟩, h, by omega⟩
      · rintro ⟨k, hk, h⟩
        match k, hk, h with
        | 0, _, h => exact .inl h
        | 1, _, ⟨m, u, w, ⟨e1, _, e2⟩, h2, e3⟩ => subst e1; subst e2; subst e3; rw [Int.zero_add]; exact .inr h2
        | k + 2, hk, _ => exact absurd hk (by simp)
    refine ⟨_, rfl, by decide, by decide, for_range (fun i σ H' => ∃ (r : Addr) (h : Pr) (y : Option V), σ = [some (.ref p), some (.ref r), y] ∧ Same H H' ∧ TkF K C H' r zs h ∧ ∀ x y, IsMin (h x y) (Up zs f (2 ^ i) x y)) ⟨r2, f2, _, rfl, s1.trans s2, k2, b2⟩ ?_ ?_⟩
    · rintro i σ H3 hi ⟨r, h, y, rfl, s3, k3, m3⟩
      refine ⟨_, rfl, _, rfl, k3.ins, k3.ins, r, r, zs, h, h, rfl, k3, k3, nok, fun H4 r4 f4 s4 k4 m4 => ?_⟩
      refine ⟨r4, f4, _, rfl, s3.trans s4, k4, fun x y => (min_mul m3 m3 (m4 x y)).congr fun v => ?_⟩
      rw [show (2 : Nat) ^ (i + 1) = 2 ^ i + 2 ^ i by rw [Nat.pow_succ]; omega]
      exact up_sum fok _ _ x y v
    · rintro σ H3 ⟨r, h, y, rfl, s3, k3, m3⟩
      refine ⟨_, rfl, q _ _ _ s3 k3 fun x y => up_any fok (n := 8) (by have := nok.l6; omega) (m3 x y)⟩
end
end TK

/-! the tolls by hand to hand of a rule -/
namespace TK
open PySem PySem.Spec PyProof.Rows L2
theorem flt_at {α : Type} {p : α → Bool} {l : List α} {i : Nat} {x : α} (h : l[i]? = some x) : (l.take (i + 1)).filter p = (l.take i).filter p ++ if p x then [x] else [] := by
  rw [List.take_add_one, h, List.filter_append]
  by_cases q : p x = true
  · rw [if_pos q]; show _ ++ List.filter p [x] = _; rw [List.filter_cons, if_pos q, List.filter_nil]
  · rw [if_neg q]; show _ ++ List.filter p [x] = _; rw [List.filter_cons, if_neg q, List.filter_nil]
theorem LOk.flt {zs : List Nam} {ts : List Tie} (h : LOk zs ts) (p : Tie → Bool) : LOk zs (ts.filter p) := by
  have s : ∀ t ∈ ts.filter p, t ∈ ts := fun t m => (List.mem_filter.mp m).1
  exact ⟨h.nm, h.nd, h.l1, h.l6, Nat.le_trans (List.length_filter_le _ _) h.t12, fun t m => h.a t (s t m), fun t m => h.b t (s t m), fun t m => h.ne t (s t m), fun t m => h.h0 t (s t m), fun t m => h.h9 t (s t m)⟩
theorem fldsL_tolls (a b : Addr) : (fldsL a b).lookup ("tolls" : Str) = none := by
  unfold fldsL
  rw [lookup_putF, if_neg (by decide +kernel), lookup_putF, if_neg (by decide +kernel)]
  rfl
theorem fldsT_closed (a b : Addr) : (fldsT a b).lookup ("closed" : Str) = none := by
  unfold fldsT
  rw [lookup_putF, if_neg (by decide +kernel), lookup_putF, if_neg (by decide +kernel)]
  rfl
/-- the ties whose giver is not barred -/
def freeT (ks : List Nam) (ts : List Tie) : List Tie := ts.filter fun t => !decide (t.1 ∈ ks)
theorem fn_R {P : Program} {w : World} {K : PySem.W.Frag} {mg : Str → Option Value} {base : Heap} {k : Nat} {f : Addr} {fd : FuncData} {ps : List Str} {sp : Sp} (F : FnOk P w K mg base CX0 k f fd ps sp) (b : Binds K fd ps []) : FnR P w K mg base CX0 k f sp := fun A outer s H us vs Q E hr he hv hs => by
  have hl : (us ++ []).length = ps.length := by rw [List.append_nil, ← hv.length]; exact F.len _ _ _ _ hs
  have hb := b s us (he.mod.kin.keeps fun x o e => (he.bs x o e).1) hl
  rw [List.append_nil] at hb
  exact F.run A outer s H ⟨us, []⟩ us vs Q E hr he hb hv hs
section
variable {P : Program} {w : World} {K : PySem.W.Frag} {mg : Str → Option Value} {base : Heap}
def spHandT (K : PySem.W.Frag) (CL CT : Addr) : Sp := fun vs H Q _ => ∃ (p bt : Addr) (zs ks : List Nam) (ts : List Tie), vs = [.ref p, .ref bt] ∧ LkAt CL H p zs ts ∧ LOk zs ts ∧ H bt = some (.tup (ks.map vN)) ∧
  ∀ H' r h, Same H H' → TkF K CT H' r zs h → (∀ x y, IsMin (h x y) (Any zs (leastE (freeT ks ts)) x y)) → Q (.ref r) H'
theorem ok_hand_tolls {f CL CT fL gi gt gc : Addr} {fd fdL fdt fdc : FuncData} (F : Fun K "_hand_tolls" "_hand_tolls" s_hand_tolls f fd) (TL : TxtL K CL) (TT : TxtT K CT) (O_Links_iter : Own K CL "__iter__" gi) (I_Links : FnIt P w K mg base 1 gi (RLk K CL))
    (M_Links : Mk K CL fL) (G_Links : FnOk P w K mg base CX0 3 fL fdL ["self", "names", "links"] (spInitL K CL)) (mg_Links : mg "Links" = some (.ref CL)) (b_Links : Binds K fdL ["self", "names", "links"] [])
    (Me_tolls : Meth K CL "tolls" gt) (G_tolls : FnOk P w K mg base CX0 5 gt fdt ["self"] (spTollsM K CL CT)) (b_tolls : Binds K fdt ["self"] []) (Me_closed : Meth K CT "closed" gc) (G_closed : FnOk P w K mg base CX0 6 gc fdc ["self"] (spClosed K CT)) (b_closed : Binds K fdc ["self"] []) :
    FnOk P w K mg base CX0 7 f fd ["links", "barred"] (spHandT K CL CT) := by
  refine F.ok sc_hand_tolls (fun vs H Q E h => ?_) (fun cdv A outer s H vs Q E hr h => ?_)
  · obtain ⟨p, bt, zs, ks, ts, rfl, _⟩ := h
    rfl
  · obtain ⟨p, bt, zs, ks, ts, rfl, ⟨dx, a, b, es, hp, hA, hB, hT⟩, ok, hK, q⟩ := h
    refine ⟨_, (pss_cons (ps_setLc (i := 2) (own := [("link", 3)]) (by rfl) sc_hand_tolls.nd rfl rfl (sw_true rfl rfl rfl (by decide +kernel)) (pi_own O_Links_iter I_Links (hr.mono (by decide)) (pv 0)) (blkOk_by (N := ["links", "barred", "free", "link"]) (sc := defScope s_hand_tolls) (by decide +kernel)) (fun _ _ _ _ _ => (pg_name (i := 3) sc_hand_tolls.nd rfl (.inl rfl))) (fun _ _ _ _ _ => (pts_one (pt_cmpR (op_notIn_seqK (K := K) rfl) (pe_ix (ix_tupK (K := K) rfl) (pv 3) pe_int (fun _ _ => rfl)) (pv 1) (by rfl)))) (fun _ _ _ _ _ => (pv 3)))
  (pss_one (ps_ret (pe_meth0 (pe_meth0 (pe_make M_Links G_Links (hr.mono (by decide)) (by rfl) mg_Links b_Links .nil pass0 (pa_cons (pe_fld (pv 0) rfl) (pa_cons (pv 2) pa_nil))) TL.cl Me_tolls G_tolls (hr.mono (by decide)) b_tolls .nil pass0) TT.cl Me_closed G_closed (hr.mono (by decide)) b_closed .nil pass0)))), ?_⟩
    have el : (es.map V.ref).length = ts.length := by rw [List.length_map, hT.1]
    have t12 := ok.t12
    refine ⟨_, rfl, p, dx, _, b, rfl, hp, ⟨dx, a, _, hp, tupAt hB⟩, ⟨_, tupAt hB⟩, fun D nD => ?_⟩
    refine lc_tup (K := K) (a := b) (xs := es.map V.ref) (fun i H' => ∃ fs : List Addr, Same H H' ∧ H' D = some (.lst (fs.map V.ref)) ∧ TiesAt H' fs (freeT ks (ts.take i))) ⟨[], same_upd nD, upd_same, rfl, fun _ _ h => (nomatch h)⟩ (fun i H' _ hq => tupAt (hq.choose_spec.1 _ _ hB)) (fun i v H' hx hq => ?_) (fun H' hq => ?_)
    · obtain ⟨fs, s1, eD, hF⟩ := hq
      obtain ⟨e, t, rfl, _, et, ht⟩ := ties_at (hT.same s1) hx
      have fl : fs.length ≤ 12 := by
        rw [hF.1]
        exact Nat.le_trans (List.length_filter_le _ _) (by rw [List.length_take]; omega)
      unfold freeT
      rw [flt_at et]
      refine ⟨rfl, ?_⟩
      refine ⟨_, rfl, _, _, 0, vN t.1, rfl, rfl, tupAt ht, atI_in (by decide) rfl, _, rfl, bt, _, rfl, .inr (tupAt (s1 _ _ hK)), rfl, nms_flat _, _, rfl, ?_⟩
      rw [notin_nm]
      by_cases hm : t.1 ∈ ks
      · rw [decide_eq_true hm]
        exact iteF ⟨fs, s1, eD, by rw [if_neg (by decide), List.append_nil]; exact hF⟩
      · rw [decide_eq_false hm]
        refine iteT ⟨_, rfl, _, eD, by rw [List.length_map]; exact small1000 (by omega), fs ++ [e], same_at s1 nD, by rw [List.map_append]; exact upd_same, ?_⟩
        rw [if_pos (by decide)]
        have one : TiesAt H' [e] [t] := ⟨rfl, fun j a ha => by
          match j, ha with
          | 0, ha => cases Option.some.inj ha; exact ⟨t, rfl, ht⟩⟩
        exact (TiesAt.app hF one).wrote eD
    · obtain ⟨fs, s1, eD, hF⟩ := hq
      rw [el, List.take_length] at hF
      have okf := ok.flt fun t => !decide (t.1 ∈ ks)
      refine ⟨_, rfl, p, CL, dx, _, _, rfl, s1 _ _ hp, TL.cl, TL.nN, fldsL_names _ _, _, rfl, fun r d nr nd dn => ?_⟩
      have s2 := (same_upd (o := .own r) nd).trans (same_upd (H := upd H' d (.own r)) (o := .ins CL d []) (by rw [upd_ne (Ne.symm dn)]; exact nr))
      refine ⟨r, a, D, d, zs, fs, _, rfl, upd_same, .inr (hA.same (s1.trans s2)), .inl (lstAt (s2 _ _ eD)), hF.same s2, okf, fun H3 lk3 f => ⟨rfl, ?_⟩⟩
      have s13 : Same H H3 := fun c x e => f c x (s2 _ _ (s1 _ _ e)) (ne_of_none (s1 _ _ e) nr)
      obtain ⟨dx3, a3, b3, es3, hp3, _⟩ := id lk3
      refine ⟨r, dx3, _, rfl, hp3, fldsL_tolls _ _, r, zs, _, rfl, lk3, okf, fun H4 r2 nr2 s4 tk => ?_⟩
      obtain ⟨dx4, a4, d4, kv4, hp4, _⟩ := id tk
      exact ⟨r2, dx4, _, rfl, hp4, fldsT_closed _ _, r2, zs, _, rfl, ⟨_, tk, okf.eo, fun x y => rfl, Nat.le_trans okf.t12 (by decide)⟩, okf.ns, fun H5 r3 h s5 tk5 hm => q H5 r3 h (s13.trans (s4.trans s5)) tk5 hm⟩
end
end TK

/-! picks told as a list -/
namespace TK
open PySem PySem.Spec PyProof.Rows L2
section
variable {P : Program} {w : World} {K : PySem.W.Frag} {mg : Str → Option Value} {base : Heap}
def spPicksL (K : PySem.W.Frag) : Sp := fun vs H Q _ => ∃ (a b : Addr) (xs ys : List (List Nat)), vs = [.ref a, .ref b] ∧ SqL K H a (xs.map vN) ∧ SqS K H b (ys.map vN) ∧ xs.Nodup ∧ (∀ x ∈ xs, x ∈ ys) ∧ ∀ H', Same H H' → Q .non H'
theorem ok_check_picksL {f : Addr} {fd : FuncData} (F : Fun K "check_picks" "check_picks" s_check_picks f fd) (m_enumerate : mg "enumerate" = none) : FnOk P w K mg base CX0 1 f fd ["picks", "known"] (spPicksL K) := by
  refine F.ok sc_check_picks (fun vs H Q E h => ?_) (fun cdv A outer s H vs Q E hr h => ?_)
  · obtain ⟨a, b, xs, ys, rfl, _⟩ := h
    rfl
  · obtain ⟨a, b, xs, ys, rfl, hT, hL, nd, sub, q⟩ := h
    refine ⟨_, (pss_one (ps_for PassesOwn.never rfl (pi_enum (by rfl) m_enumerate (pa_cons (pv 0) pa_nil)) (pg_tup (by rfl) (pgs_cons (pg_name (i := 2) sc_check_picks.nd rfl (.inl rfl)) (pgs_cons (pg_name (i := 3) sc_check_picks.nd rfl (.inl rfl)) pgs_nil)))
    (pss_cons (ps_if (pt_cmpR op_notIn_seq (pv 3) (pv 1) (by rfl)) (pss_one ps_never) pss_nil)
  (pss_one (ps_if (pt_cmpR op_in_seq (pv 3) (pe_slice sl_list (pv 0) po_none (po_some (pv 2))) (by rfl)) (pss_one ps_never) pss_nil))))), ?_⟩
    refine ⟨_, rfl, _, _, rfl, hT, for_it walk_enum (fun _ σ H2 => Same H H2 ∧ ∃ y1 y2 : Option V, σ = [some (.ref a), some (.ref b), y1, y2]) ⟨Same.refl H, _, _, rfl⟩ (fun i σ H2 _ hp => hp.1.seq hT) ?_ ?_⟩
    · rintro i x σ H2 H3 hi ⟨sm, y1, y2, rfl⟩ ⟨T, z1, z2, rfl, nT, rfl, e1, e2⟩
      cases e1
      obtain ⟨z, ez, rfl⟩ := vN_at e2
      have sm3 := sm.trans (same_upd (o := .tup [.int (i : Nat), vN z]) nT)
      refine ⟨_, _, rfl, tupAt upd_same, rfl, _, _, rfl, _, _, rfl, rfl, ?_⟩
      refine ⟨_, rfl, _, rfl, _, _, rfl, hL.same sm3, rfl, nms_flat _, _, rfl, ?_⟩
      rw [notin_nm, decide_eq_true (sub _ (List.mem_of_getElem? ez))]
      refine iteF ?_
      refine ⟨_, rfl, _, rfl, _, rfl, _, rfl, _, _, rfl, sm3.seq hT, fun p np => ?_⟩
      rw [cut_names]
      have sp := same_upd (o := .lst ((xs.take i).map vN)) np
      refine ⟨p, _, rfl, .inl (lstAt upd_same), rfl, nms_flat _, _, rfl, ?_⟩
      rw [in_nm, decide_eq_false (not_before nd ez)]
      exact iteF ⟨sm3.trans sp, _, _, rfl⟩
    · rintro σ H2 ⟨sm, y1, y2, rfl⟩
      exact q _ sm
end
end TK

/-! Rule.__init__ -/
namespace TK
open PySem PySem.Spec PyProof.Rows L2
abbrev s_Rule_init : Stmt := inClass (topS 35) 0
theorem sc_Rule_init : FnScope ["self", "name", "members", "limit", "barred", "links", "deposit", "fee", "start", "coins", "member"] ["self", "name", "members", "limit", "barred", "links", "deposit", "fee", "start"] (defScope s_Rule_init) := ⟨rfl, rfl, rfl, by decide +kernel, rfl, by decide +kernel, by decide +kernel⟩
def SameP (p : Addr) (H H' : Hp) : Prop := ∀ c o, H c = some o → c ≠ p → H' c = some o
theorem same_p {p : Addr} {H H' : Hp} (s : Same H H') : SameP p H H' := fun c o e _ => s c o e
theorem SameP.trans {p : Addr} {H H' H'' : Hp} (s : SameP p H H') (t : SameP p H' H'') : SameP p H H'' := fun c o e n => t c o (s c o e n) n
theorem samep_upd {p : Addr} {H : Hp} {o : HO} : SameP p H (upd H p o) := fun c x e n => by rw [upd_ne n]; exact e
theorem put_len {f : Str} {v : V} {fs : List (Str × V)} {n : Nat} (h : fs.length ≤ n) : (putF f v fs).length ≤ n + 1 := Nat.le_trans (putF_len f v fs) (Nat.succ_le_succ h)
theorem put_same (f : Str) (v : V) (fs : List (Str × V)) : (putF f v fs).lookup f = some v := by
  rw [lookup_putF, if_pos rfl]
theorem put_ne {f g : Str} {v x : V} {fs : List (Str × V)} (h : fs.lookup g = some x) (n : ¬ g = f) : (putF f v fs).lookup g = some x := by
  rw [lookup_putF, if_neg n]
  exact h
/-- what the def is given: members, barred, links -/
structure Gd (K : PySem.W.Frag) (H : Hp) (a b c : Addr) (zs ks : List Nam) (es : List Addr) (ts : List Tie) : Prop where
  m : SqL K H a (zs.map vN)
  b : SqT K H b (ks.map vN)
  l : SqS K H c (es.map V.ref)
  t : TiesAt H es ts
theorem ties_frame {H H' : Hp} {p C dx : Addr} {fs : List (Str × V)} {es : List Addr} {ts : List Tie} (h : TiesAt H es ts) (hp : H p = some (.ins C dx fs)) (f : SameP p H H') : TiesAt H' es ts := ⟨h.1, fun i e he => by
  obtain ⟨t, h1, h2⟩ := h.2 i e he
  exact ⟨t, h1, f _ _ h2 (ne_of h2 hp (by intro z; cases z))⟩⟩
theorem Gd.fr {K : PySem.W.Frag} {H H' : Hp} {a b c p C dx : Addr} {fs : List (Str × V)} {zs ks : List Nam} {es : List Addr} {ts : List Tie} (g : Gd K H a b c zs ks es ts) (hp : H p = some (.ins C dx fs)) (f : SameP p H H') : Gd K H' a b c zs ks es ts := ⟨sqL_frame g.m hp f, sqT_frame g.b hp f, sqS_frame g.l hp f, ties_frame g.t hp f⟩
theorem Gd.same {K : PySem.W.Frag} {H H' : Hp} {a b c : Addr} {zs ks : List Nam} {es : List Addr} {ts : List Tie} (g : Gd K H a b c zs ks es ts) (s : Same H H') : Gd K H' a b c zs ks es ts := ⟨s.seq g.m, same_tup s g.b, g.l.same s, g.t.same s⟩
structure TxtRu (K : PySem.W.Frag) (C : Addr) : Prop where
  cl : Cls K C
  n1 : NoAttr K C "name"
  n2 : NoAttr K C "members"
  n3 : NoAttr K C "limit"
  n4 : NoAttr K C "barred"
  n5 : NoAttr K C "links"
  n6 : NoAttr K C "deposit"
  n7 : NoAttr K C "fee"
  n8 : NoAttr K C "start"
  n9 : NoAttr K C "_hand_tolls"
theorem lk_frame {H H' : Hp} {r p C CL dx : Addr} {fs : List (Str × V)} {zs : List Nam} {ts : List Tie} (h : LkAt CL H r zs ts) (hp : H p = some (.ins C dx fs)) (n : r ≠ p) (f : SameP p H H') : LkAt CL H' r zs ts := by
  obtain ⟨d, a, b, es, h1, h2, h3, h4⟩ := h
  exact ⟨d, a, b, es, f _ _ h1 n, tl_frame h2 hp f, f _ _ h3 (ne_of h3 hp (by intro z; cases z)), ties_frame h4 hp f⟩
theorem lk_same {H H' : Hp} {r CL : Addr} {zs : List Nam} {ts : List Tie} (h : LkAt CL H r zs ts) (s : Same H H') : LkAt CL H' r zs ts := by
  obtain ⟨d, a, b, es, h1, h2, h3, h4⟩ := h
  exact ⟨d, a, b, es, s _ _ h1, h2.same s, s _ _ h3, h4.same s⟩
theorem tk_frame {K : PySem.W.Frag} {H H' : Hp} {r p C CT dx : Addr} {fs : List (Str × V)} {zs : List Nam} {h : Pr} (t : TkF K CT H r zs h) (hp : H p = some (.ins C dx fs)) (n : r ≠ p) (f : SameP p H H') : TkF K CT H' r zs h := by
  obtain ⟨ts, ⟨d, a, e, kvs, h1, h2, h3, h4⟩, k⟩ := t
  exact ⟨ts, ⟨d, a, e, kvs, f _ _ h1 n, tl_frame h2 hp f, f _ _ h3 (ne_of h3 hp (by intro z; cases z)), h4⟩, k⟩
theorem fldsT_barred (a b : Addr) : (fldsT a b).lookup ("barred" : Str) = none := by
  unfold fldsT
  rw [lookup_putF, if_neg (by decide +kernel), lookup_putF, if_neg (by decide +kernel)]
  rfl
/-- no field hides a method that the law calls -/
def meths44 : List Str := ["hand_toll", "barred_toll", "is_barred", "candidates", "moves", "lets", "lines", "changed", "floor", "KIND"]
def Clean (fs : List (Str × V)) : Prop := ∀ g ∈ meths44, fs.lookup g = none
theorem Clean.put {f : Str} {v : V} {fs : List (Str × V)} (h : Clean fs) (n : f ∉ meths44) : Clean (putF f v fs) := fun g hg => by
  rw [lookup_putF, if_neg fun e : g = f => n (e ▸ hg)]
  exact h g hg
theorem Clean.nil : Clean [] := fun _ _ => rfl
def LenC (n : Nat) (fs : List (Str × V)) : Prop := fs.length ≤ n ∧ Clean fs
/-- a rule: what its methods read -/
def RuN (n : Nat) (K : PySem.W.Frag) (C CL CT : Addr) (H : Hp) (p : Addr) (zs kb : List Nam) (ts : List Tie) : Prop := ∃ (dx m bt l ht : Addr) (fs : List (Str × V)) (h : Pr), H p = some (.ins C dx fs) ∧ fs.lookup ("members" : Str) = some (.ref m) ∧ fs.lookup ("barred" : Str) = some (.ref bt) ∧ fs.lookup ("links" : Str) = some (.ref l) ∧ fs.lookup ("_hand_tolls" : Str) = some (.ref ht) ∧ LenC n fs ∧
  TL H m (zs.map vN) ∧ H bt = some (.tup (kb.map vN)) ∧ LkAt CL H l zs ts ∧ TkF K CT H ht zs h ∧ (∀ x y, IsMin (h x y) (Any zs (leastE (freeT kb ts)) x y))
abbrev RuAt := RuN 12
theorem RuN.mono {n n' : Nat} {K : PySem.W.Frag} {C CL CT : Addr} {H : Hp} {p : Addr} {zs kb : List Nam} {ts : List Tie} (h : RuN n K C CL CT H p zs kb ts) (k : n ≤ n') : RuN n' K C CL CT H p zs kb ts := by
  obtain ⟨dx, m, bt, l, ht, fs, hh, h1, h2, h3, h4, h5, h6, h7⟩ := h
  exact ⟨dx, m, bt, l, ht, fs, hh, h1, h2, h3, h4, h5, ⟨Nat.le_trans h6.1 k, h6.2⟩, h7⟩
/-- a rule with all that it was given -/
def RuX (n : Nat) (K : PySem.W.Frag) (C CL CT : Addr) (H : Hp) (p : Addr) (zs kb : List Nam) (ts : List Tie) (nm : Nam) (lim : Option Int) (d1 d2 d3 : Int) : Prop := ∃ (dx m bt l ht : Addr) (fs : List (Str × V)) (h : Pr), H p = some (.ins C dx fs) ∧ fs.lookup ("members" : Str) = some (.ref m) ∧ fs.lookup ("barred" : Str) = some (.ref bt) ∧ fs.lookup ("links" : Str) = some (.ref l) ∧ fs.lookup ("_hand_tolls" : Str) = some (.ref ht) ∧ LenC n fs ∧
  TL H m (zs.map vN) ∧ H bt = some (.tup (kb.map vN)) ∧ LkAt CL H l zs ts ∧ TkF K CT H ht zs h ∧ (∀ x y, IsMin (h x y) (Any zs (leastE (freeT kb ts)) x y)) ∧
  fs.lookup ("name" : Str) = some (vN nm) ∧ fs.lookup ("limit" : Str) = some (capV lim) ∧ fs.lookup ("deposit" : Str) = some (.int d1) ∧ fs.lookup ("fee" : Str) = some (.int d2) ∧ fs.lookup ("start" : Str) = some (.int d3)
theorem RuX.ru {n : Nat} {K : PySem.W.Frag} {C CL CT : Addr} {H : Hp} {p : Addr} {zs kb : List Nam} {ts : List Tie} {nm : Nam} {lim : Option Int} {d1 d2 d3 : Int} (h : RuX n K C CL CT H p zs kb ts nm lim d1 d2 d3) : RuN n K C CL CT H p zs kb ts := by
  obtain ⟨dx, m, bt, l, ht, fs, hh, h1, h2, h3, h4, h5, h6, h7, h8, h9, h10, h11, _⟩ := h
  exact ⟨dx, m, bt, l, ht, fs, hh, h1, h2, h3, h4, h5, h6, h7, h8, h9, h10, h11⟩
section
variable {P : Program} {w : World} {K : PySem.W.Frag} {mg : Str → Option Value} {base : Heap}
def spPicksT (K : PySem.W.Frag) : Sp := fun vs H Q _ => ∃ (a b : Addr) (xs ys : List (List Nat)), vs = [.ref a, .ref b] ∧ SqT K H a (xs.map vN) ∧ SqS K H b (ys.map vN) ∧ xs.Nodup ∧ (∀ x ∈ xs, x ∈ ys) ∧ ∀ H', Same H H' → Q .non H'
theorem ok_check_picksT {f : Addr} {fd : FuncData} (F : Fun K "check_picks" "check_picks" s_check_picks f fd) (m_enumerate : mg "enumerate" = none) : FnOk P w K mg base CX0 1 f fd ["picks", "known"] (spPicksT K) := by
  refine F.ok sc_check_picks (fun vs H Q E h => ?_) (fun cdv A outer s H vs Q E hr h => ?_)
  · obtain ⟨a, b, xs, ys, rfl, _⟩ := h
    rfl
  · obtain ⟨a, b, xs, ys, rfl, hT, hL, nd, sub, q⟩ := h
    refine ⟨_, (pss_one (ps_for PassesOwn.never rfl (pi_enumT (by rfl) m_enumerate (pa_cons (pv 0) pa_nil)) (pg_tup (by rfl) (pgs_cons (pg_name (i := 2) sc_check_picks.nd rfl (.inl rfl)) (pgs_cons (pg_name (i := 3) sc_check_picks.nd rfl (.inl rfl)) pgs_nil)))
    (pss_cons (ps_if (pt_cmpR op_notIn_seq (pv 3) (pv 1) (by rfl)) (pss_one ps_never) pss_nil)
  (pss_one (ps_if (pt_cmpR op_in_seq (pv 3) (pe_slice sl_tup (pv 0) po_none (po_some (pv 2))) (by rfl)) (pss_one ps_never) pss_nil))))), ?_⟩
    refine ⟨_, rfl, _, _, rfl, hT, for_it walk_enumT (fun _ σ H2 => Same H H2 ∧ ∃ y1 y2 : Option V, σ = [some (.ref a), some (.ref b), y1, y2]) ⟨Same.refl H, _, _, rfl⟩ (fun i σ H2 _ hp => same_tup hp.1 hT) ?_ ?_⟩
    · rintro i x σ H2 H3 hi ⟨sm, y1, y2, rfl⟩ ⟨T, z1, z2, rfl, nT, rfl, e1, e2⟩
      rw [List.length_map] at hi
      cases e1
      obtain ⟨z, ez, rfl⟩ := vN_at e2
      have sm3 := sm.trans (same_upd (o := .tup [.int (i : Nat), vN z]) nT)
      refine ⟨_, _, rfl, tupAt upd_same, rfl, _, _, rfl, _, _, rfl, rfl, ?_⟩
      refine ⟨_, rfl, _, rfl, _, _, rfl, hL.same sm3, rfl, nms_flat _, _, rfl, ?_⟩
      rw [notin_nm, decide_eq_true (sub _ (List.mem_of_getElem? ez))]
      refine iteF ?_
      refine ⟨_, rfl, _, rfl, _, rfl, _, rfl, _, _, rfl, same_tup sm3 hT, (by rw [HT.sIx_none, HT.sIx_nat, List.length_map]; omega), fun p np => ?_⟩
      rw [cut_names]
      have sp := same_upd (o := .tup ((xs.take i).map vN)) np
      refine ⟨p, _, rfl, .inr (tupAt upd_same), rfl, nms_flat _, _, rfl, ?_⟩
      rw [in_nm, decide_eq_false (not_before nd ez)]
      exact iteF ⟨sm3.trans sp, _, _, rfl⟩
    · rintro σ H2 ⟨sm, y1, y2, rfl⟩
      exact q _ sm
def spInitRu (K : PySem.W.Frag) (C CL CT : Addr) : Sp := fun vs H Q _ => ∃ (p a b c dx : Addr) (nm : Nam) (lim : Option Int) (d1 d2 d3 : Int) (zs ks : List Nam) (es : List Addr) (ts : List Tie), vs = [.ref p, vN nm, .ref a, capV lim, .ref b, .ref c, .int d1, .int d2, .int d3] ∧ H p = some (.ins C dx []) ∧ Gd K H a b c zs ks es ts ∧ LOk zs ts ∧ zs.length ≤ 4 ∧ Nm nm ∧
  (∀ v, lim = some v → 0 ≤ v ∧ v ≤ 3) ∧ ks.Nodup ∧ (∀ x ∈ ks, x ∈ zs) ∧ (0 ≤ d1 ∧ d1 ≤ 1000000000) ∧ (0 ≤ d2 ∧ d2 ≤ 1000000000) ∧ (0 ≤ d3 ∧ d3 ≤ 1000000000) ∧
  ∀ H', RuX 9 K C CL CT H' p zs (zs.filter fun z => decide (z ∈ ks)) ts nm lim d1 d2 d3 → SameP p H H' → Q .non H'
theorem ok_Rule_init {f C CL CT fL : Addr} {fd fdL : FuncData} (F : Fun K "__init__" "Rule.__init__" s_Rule_init f fd) (T : TxtRu K C) (m_tuple : mg "tuple" = none)
    (d_is_name : Def P w K mg base "is_name" 1 ["word"] spIsNameH) (d_check_names : DefD P w K mg base "check_names" 2 ["names", "most", "hook"] (spCheckN K) [.bl false]) (d_check_range : Def P w K mg base "check_range" 1 ["number", "low", "high"] spRange)
    (d_check_picks : Def P w K mg base "check_picks" 1 ["picks", "known"] (spPicksT K)) (M_Links : Mk K CL fL) (G_Links : FnOk P w K mg base CX0 3 fL fdL ["self", "names", "links"] (spInitL K CL)) (mg_Links : mg "Links" = some (.ref CL)) (b_Links : Binds K fdL ["self", "names", "links"] [])
    (d_hand_tolls : Def P w K mg base "_hand_tolls" 7 ["links", "barred"] (spHandT K CL CT)) : FnOk P w K mg base CX0 8 f fd ["self", "name", "members", "limit", "barred", "links", "deposit", "fee", "start"] (spInitRu K C CL CT) := by
  refine F.ok sc_Rule_init (fun vs H Q E h => ?_) (fun cdv A outer s H vs Q E hr h => ?_)
  · obtain ⟨p, a, b, c, dx, nm, lim, d1, d2, d3, zs, ks, es, ts, rfl, _⟩ := h
    rfl
  · obtain ⟨p, a, b, c, dx, nm, lim, d1, d2, d3, zs, ks, es, ts, rfl, hp, g, ok, z4, hnm, hlim, knd, ksub, hd1, hd2, hd3, q⟩ := h
    refine ⟨_, (pss_cons (ps_if (pt_not (pt_val (pe_callD d_is_name (hr.mono (by decide)) (by rfl) (pa_cons (pv 1) pa_nil)))) (pss_one ps_never) pss_nil)
  (pss_cons (ps_expr (pe_callDD d_check_names (hr.mono (by decide)) (by rfl) (pa_cons (pv 2) (pa_cons pe_int pa_nil))))
  (pss_cons (ps_cut (ps_if (pt_cmpR op_notN (pv 3) pe_non (nomark _)) (pss_one (ps_expr (pe_callD d_check_range (hr.mono (by decide)) (by rfl) (pa_cons (pv 3) (pa_cons pe_int (pa_cons pe_int pa_nil)))))) pss_nil))
  (pss_cons (ps_expr (pe_callD d_check_picks (hr.mono (by decide)) (by rfl) (pa_cons (pv 4) (pa_cons (pv 2) pa_nil))))
  (pss_cons (ps_fld (pv 0) (pv 1) rfl)
  (pss_cons (ps_fld (pv 0) (pe_callTy call_tuple_of (by rfl) m_tuple (by decide +kernel) (pa_cons (pv 2) pa_nil)) rfl)
  (pss_cons (ps_fld (pv 0) (pv 3) rfl)
  (pss_cons (ps_fld (pv 0) (pe_callTy call_tuple_of (by rfl) m_tuple (by decide +kernel) (pa_cons (pe_lc (own := [("member", 10)]) (by rfl) sc_Rule_init.nd (pi_list (pv 2)) (blkOk_by (N := ["self", "name", "members", "limit", "barred", "links", "deposit", "fee", "start", "coins", "member"]) (sc := defScope s_Rule_init) (by decide +kernel)) (fun _ _ _ _ _ => (pg_name (i := 10) sc_Rule_init.nd rfl (.inl rfl))) (fun _ _ _ _ _ => (pts_one (pt_cmpR (op_in_seqK (K := K) rfl) (pv 10) (pv 4) (by rfl)))) (fun _ _ _ _ _ => (pv 10))) pa_nil)) rfl)
  (pss_cons (ps_fld (pv 0) (pe_make M_Links G_Links (hr.mono (by decide)) (by rfl) mg_Links b_Links .nil pass0 (pa_cons (pv 2) (pa_cons (pv 5) pa_nil))) rfl)
  (pss_cons (ps_for PassesOwn.never rfl (pi_tup (pe_tup (pa_cons (pv 6) (pa_cons (pv 7) (pa_cons (pv 8) pa_nil))))) (pg_name (i := 9) sc_Rule_init.nd rfl (.inl rfl))
    (pss_one (ps_expr (pe_callD d_check_range (hr.mono (by decide)) (by rfl) (pa_cons (pv 9) (pa_cons pe_int (pa_cons (pe_op op_pow pe_int pe_int) pa_nil)))))))
  (pss_cons (ps_fld (pv 0) (pv 6) rfl)
  (pss_cons (ps_fld (pv 0) (pv 7) rfl)
  (pss_cons (ps_fld (pv 0) (pv 8) rfl)
  (pss_one (ps_fld (pv 0) (pe_callD d_hand_tolls (hr.mono (by decide)) (by rfl) (pa_cons (pe_fld (pv 0) rfl) (pa_cons (pe_fld (pv 0) rfl) pa_nil))) rfl))))))))))))))), ?_⟩
    refine ⟨_, rfl, nm, rfl, .inl hnm, fun H1 s1 => ⟨_, rfl, ?_⟩⟩
    rw [nz_nm hnm]
    refine iteF ⟨_, rfl, a, 4, zs, rfl, .inl (s1.seq g.m), ok.l1, by omega, ok.l6, ok.nm, ok.nd, fun H2 s2 => ?_⟩
    have s12 := s1.trans s2
    refine ⟨fun σ H' => σ = [some (.ref p), some (vN nm), some (.ref a), some (capV lim), some (.ref b), some (.ref c), some (.int d1), some (.int d2), some (.int d3), none, none] ∧ H' = H2, ?_, ?_⟩
    · cases lim with
      | none =>
        refine ⟨_, rfl, rfl, _, rfl, ?_⟩
        exact iteF ⟨rfl, rfl⟩
      | some v =>
        obtain ⟨l1, l2⟩ := hlim v rfl
        refine ⟨_, rfl, rfl, _, rfl, ?_⟩
        rw [decide_eq_false (show ¬ capV (some v) = V.non from nofun)]
        exact iteT ⟨_, rfl, _, _, _, rfl, l1, l2, rfl, rfl⟩
    rintro σ H' ⟨rfl, rfl⟩
    refine ⟨_, rfl, _, rfl, b, a, ks, zs, rfl, same_tup s12 g.b, .inl (s12.seq g.m), knd, ksub, fun H3 s3 => ?_⟩
    have s13 := s12.trans s3
    have g3 := g.same s13
    have p3 := s13 _ _ hp
    -- name
    refine ⟨_, rfl, _, rfl, p, C, dx, _, rfl, p3, T.cl, T.n1, by decide, ?_⟩
    have f4 := (same_p (p := p) s13).trans (samep_upd (p := p) (H := H3) (o := .ins C dx (putF "name" (vN nm) [])))
    have g4 := g3.fr p3 (samep_upd (o := .ins C dx (putF "name" (vN nm) [])))
    have p4 : (upd H3 p (.ins C dx (putF "name" (vN nm) []))) p = some (.ins C dx (putF "name" (vN nm) [])) := upd_same
    generalize upd H3 p (.ins C dx (putF "name" (vN nm) [])) = H4 at f4 g4 p4 ⊢
    -- members
    refine ⟨_, rfl, a, _, rfl, .inl ⟨g4.m, fun m nm5 => ?_⟩⟩
    have sm := same_upd (o := .tup (zs.map vN)) nm5
    have g5 := g4.same sm
    have p5 := sm _ _ p4
    have hm5 : TL (upd H4 m (.tup (zs.map vN))) m (zs.map vN) := .inl upd_same
    have f5 := f4.trans (same_p (p := p) sm)
    generalize upd H4 m (.tup (zs.map vN)) = H5 at g5 p5 hm5 f5 ⊢
    refine ⟨_, rfl, p, C, dx, _, rfl, p5, T.cl, T.n2, Nat.lt_of_le_of_lt (putF_len _ _ _) (by decide), ?_⟩
    have f6 := f5.trans (samep_upd (p := p) (H := H5) (o := .ins C dx (putF "members" (.ref m) (putF "name" (vN nm) []))))
    have g6 := g5.fr p5 (samep_upd (o := .ins C dx (putF "members" (.ref m) (putF "name" (vN nm) []))))
    have hm6 := tl_frame hm5 p5 (samep_upd (o := .ins C dx (putF "members" (.ref m) (putF "name" (vN nm) []))))
    have p6 : (upd H5 p (.ins C dx (putF "members" (.ref m) (putF "name" (vN nm) [])))) p = some (.ins C dx (putF "members" (.ref m) (putF "name" (vN nm) []))) := upd_same
    generalize upd H5 p (.ins C dx (putF "members" (.ref m) (putF "name" (vN nm) []))) = H6 at f6 g6 hm6 p6 ⊢
    have l6 : (putF "members" (.ref m) (putF "name" (vN nm) [])).length ≤ 2 := put_len (put_len (Nat.zero_le _))
    have c6 : Clean (putF "members" (.ref m) (putF "name" (vN nm) [])) := (Clean.nil.put (by decide +kernel)).put (by decide +kernel)
    have kn6 : (putF "members" (.ref m) (putF "name" (vN nm) [])).lookup ("name" : Str) = some (vN nm) := put_ne (put_same _ _ _) (by decide +kernel)
    have km6 : (putF "members" (.ref m) (putF "name" (vN nm) [])).lookup ("members" : Str) = some (.ref m) := put_same _ _ _
    generalize putF "members" (.ref m) (putF "name" (vN nm) []) = fs6 at p6 l6 c6 km6 kn6
    -- limit
    refine ⟨_, rfl, _, rfl, p, C, dx, _, rfl, p6, T.cl, T.n3, by omega, ?_⟩
    have f7 := f6.trans (samep_upd (p := p) (H := H6) (o := .ins C dx (putF "limit" (capV lim) fs6)))
    have g7 := g6.fr p6 (samep_upd (o := .ins C dx (putF "limit" (capV lim) fs6)))
    have hm7 := tl_frame hm6 p6 (samep_upd (o := .ins C dx (putF "limit" (capV lim) fs6)))
    have p7 : (upd H6 p (.ins C dx (putF "limit" (capV lim) fs6))) p = some (.ins C dx (putF "limit" (capV lim) fs6)) := upd_same
    generalize upd H6 p (.ins C dx (putF "limit" (capV lim) fs6)) = H7 at f7 g7 hm7 p7 ⊢
    have l7 : (putF "limit" (capV lim) fs6).length ≤ 3 := put_len l6
    have c7 : Clean (putF "limit" (capV lim) fs6) := c6.put (by decide +kernel)
    have kn7 : (putF "limit" (capV lim) fs6).lookup ("name" : Str) = some (vN nm) := put_ne kn6 (by decide +kernel)
    have kq7 : (putF "limit" (capV lim) fs6).lookup ("limit" : Str) = some (capV lim) := put_same _ _ _
    have km7 : (putF "limit" (capV lim) fs6).lookup ("members" : Str) = some (.ref m) := put_ne km6 (by decide +kernel)
    generalize putF "limit" (capV lim) fs6 = fs7 at p7 l7 c7 km7 kn7 kq7
    -- barred
    refine ⟨_, rfl, a, rfl, ⟨_, g7.m⟩, fun D nD => ?_⟩
    refine lc_list (K := K) (a := a) (xs := zs.map vN) (fun i H' => Same H7 H' ∧ H' D = some (.lst (((zs.take i).filter fun z => decide (z ∈ ks)).map vN))) ⟨same_upd nD, upd_same⟩ (fun i H' _ hq => hq.1.seq g7.m) (fun i v H' hx hq => ?_) (fun H' hq => ?_)
    · obtain ⟨s8, eD⟩ := hq
      obtain ⟨z, ez, rfl⟩ := vN_at hx
      have fl : ((zs.take i).filter fun z => decide (z ∈ ks)).length ≤ 4 := Nat.le_trans (List.length_filter_le _ _) (by rw [List.length_take]; omega)
      rw [flt_at ez]
      refine ⟨rfl, _, rfl, _, rfl, b, _, rfl, .inr (same_tup s8 g7.b), rfl, nms_flat _, _, rfl, ?_⟩
      rw [in_nm]
      by_cases hz : z ∈ ks
      · rw [decide_eq_true hz]
        refine iteT ⟨_, rfl, _, eD, by rw [List.length_map]; exact small1000 (by omega), same_at s8 nD, ?_⟩
        rw [if_pos rfl, List.map_append]
        exact upd_same
      · rw [decide_eq_false hz]
        exact iteF ⟨s8, by rw [if_neg Bool.false_ne_true, List.append_nil]; exact eD⟩
    obtain ⟨s8, eD⟩ := hq
    rw [List.length_map, List.take_length] at eD
    generalize hkb : zs.filter (fun z => decide (z ∈ ks)) = kb at eD q
    refine ⟨D, _, rfl, .inl ⟨lstAt eD, fun bt nbt => ?_⟩⟩
    have s9 := s8.trans (same_upd (o := .tup (kb.map vN)) nbt)
    have hbt9 : (upd H' bt (.tup (kb.map vN))) bt = some (.tup (kb.map vN)) := upd_same
    generalize upd H' bt (.tup (kb.map vN)) = H9 at s9 hbt9 ⊢
    have p9 := s9 _ _ p7
    have g9 := g7.same s9
    have hm9 := hm7.same s9
    have f9 := f7.trans (same_p (p := p) s9)
    refine ⟨_, rfl, p, C, dx, _, rfl, p9, T.cl, T.n4, by omega, ?_⟩
    have e10 := samep_upd (p := p) (H := H9) (o := .ins C dx (putF "barred" (.ref bt) fs7))
    have f10 := f9.trans e10
    have g10 := g9.fr p9 e10
    have hm10 := tl_frame hm9 p9 e10
    have hbt10 := e10 _ _ hbt9 (ne_of hbt9 p9 (by intro z; cases z))
    have p10 : (upd H9 p (.ins C dx (putF "barred" (.ref bt) fs7))) p = some (.ins C dx (putF "barred" (.ref bt) fs7)) := upd_same
    generalize upd H9 p (.ins C dx (putF "barred" (.ref bt) fs7)) = H10 at f10 g10 hm10 hbt10 p10 ⊢
    have l10 : (putF "barred" (.ref bt) fs7).length ≤ 4 := put_len l7
    have c10 : Clean (putF "barred" (.ref bt) fs7) := c7.put (by decide +kernel)
    have kn10 : (putF "barred" (.ref bt) fs7).lookup ("name" : Str) = some (vN nm) := put_ne kn7 (by decide +kernel)
    have kq10 : (putF "barred" (.ref bt) fs7).lookup ("limit" : Str) = some (capV lim) := put_ne kq7 (by decide +kernel)
    have km10 : (putF "barred" (.ref bt) fs7).lookup ("members" : Str) = some (.ref m) := put_ne km7 (by decide +kernel)
    have kb10 : (putF "barred" (.ref bt) fs7).lookup ("barred" : Str) = some (.ref bt) := put_same _ _ _
    generalize putF "barred" (.ref bt) fs7 = fs10 at p10 l10 c10 km10 kb10 kn10 kq10
    -- links
    refine ⟨_, rfl, _, rfl, fun r d nr nd dn => ?_⟩
    have s2 := (same_upd (o := .own r) nd).trans (same_upd (H := upd H10 d (.own r)) (o := .ins CL d []) (by rw [upd_ne (Ne.symm dn)]; exact nr))
    have g10' := g10.same s2
    refine ⟨r, a, c, d, zs, es, ts, rfl, upd_same, .inl g10'.m, g10'.l, g10'.t, ok, fun H11 lk11 fr => ⟨rfl, ?_⟩⟩
    have s11 : Same H10 H11 := fun c x e => fr c x (s2 _ _ e) (ne_of_none e nr)
    have nrp : r ≠ p := (ne_of_none p10 nr).symm
    have p11 := s11 _ _ p10
    have hm11 := hm10.same s11
    have hbt11 := s11 _ _ hbt10
    have f11 := f10.trans (same_p (p := p) s11)
    refine ⟨_, rfl, p, C, dx, _, rfl, p11, T.cl, T.n5, by omega, ?_⟩
    have e12 := samep_upd (p := p) (H := H11) (o := .ins C dx (putF "links" (.ref r) fs10))
    have f12 := f11.trans e12
    have hm12 := tl_frame hm11 p11 e12
    have hbt12 := e12 _ _ hbt11 (ne_of hbt11 p11 (by intro z; cases z))
    have lk12 := lk_frame lk11 p11 nrp e12
    have p12 : (upd H11 p (.ins C dx (putF "links" (.ref r) fs10))) p = some (.ins C dx (putF "links" (.ref r) fs10)) := upd_same
    generalize upd H11 p (.ins C dx (putF "links" (.ref r) fs10)) = H12 at f12 hm12 hbt12 lk12 p12 ⊢
    have l12 : (putF "links" (.ref r) fs10).length ≤ 5 := put_len l10
    have c12 : Clean (putF "links" (.ref r) fs10) := c10.put (by decide +kernel)
    have kn12 : (putF "links" (.ref r) fs10).lookup ("name" : Str) = some (vN nm) := put_ne kn10 (by decide +kernel)
    have kq12 : (putF "links" (.ref r) fs10).lookup ("limit" : Str) = some (capV lim) := put_ne kq10 (by decide +kernel)
    have km12 : (putF "links" (.ref r) fs10).lookup ("members" : Str) = some (.ref m) := put_ne km10 (by decide +kernel)
    have kb12 : (putF "links" (.ref r) fs10).lookup ("barred" : Str) = some (.ref bt) := put_ne kb10 (by decide +kernel)
    have kl12 : (putF "links" (.ref r) fs10).lookup ("links" : Str) = some (.ref r) := put_same _ _ _
    generalize putF "links" (.ref r) fs10 = fs12 at p12 l12 c12 km12 kb12 kl12 kn12 kq12
    -- the coins
    refine ⟨_, rfl, _, rfl, _, rfl, (show (3 : Nat) ≤ sizeLine by decide), fun cc ncc => ?_⟩
    have sc := same_upd (o := .tup [V.int d1, .int d2, .int d3]) ncc
    have ecc : (upd H12 cc (.tup [V.int d1, .int d2, .int d3])) cc = some (.tup [V.int d1, .int d2, .int d3]) := upd_same
    have p13 := sc _ _ p12
    have hm13 := hm12.same sc
    have hbt13 := sc _ _ hbt12
    have lk13 := lk_same lk12 sc
    have f13 := f12.trans (same_p (p := p) sc)
    generalize upd H12 cc (.tup [V.int d1, .int d2, .int d3]) = H13 at ecc p13 hm13 hbt13 lk13 f13 ⊢
    refine ⟨cc, rfl, ⟨_, tupAt ecc⟩, for_tup (K := K) (a := cc) (xs := [V.int d1, .int d2, .int d3]) (fun i σ H' => ∃ y9 : Option V, σ = [some (.ref p), some (vN nm), some (.ref a), some (capV lim), some (.ref b), some (.ref c), some (.int d1), some (.int d2), some (.int d3), y9, none] ∧ H' = H13) ⟨_, rfl, rfl⟩ (fun i σ H' _ hq => ?_) ?_ ?_⟩
    · obtain ⟨_, rfl, rfl⟩ := hq
      exact tupAt ecc
    · rintro i v σ H' hx ⟨y9, rfl, rfl⟩
      have hv : ∃ t : Int, v = .int t ∧ 0 ≤ t ∧ t ≤ 1000000000 := by
        match i, hx with
        | 0, hx => cases Option.some.inj hx; exact ⟨_, rfl, hd1⟩
        | 1, hx => cases Option.some.inj hx; exact ⟨_, rfl, hd2⟩
        | 2, hx => cases Option.some.inj hx; exact ⟨_, rfl, hd3⟩
        | j + 3, hx => cases hx
      obtain ⟨t, rfl, t1, t2⟩ := hv
      exact ⟨_, rfl, _, _, rfl, rfl, ⟨by decide, by decide, by decide⟩, t, 0, _, rfl, t1, Int.le_trans t2 (by decide), _, rfl, rfl⟩
    · rintro σ H' ⟨y9, rfl, rfl⟩
      have l13 := l12
      have km13 := km12
      have kb13 := kb12
      have kl13 := kl12
      have f13 := f13
      refine ⟨_, rfl, _, rfl, p, C, dx, _, rfl, p13, T.cl, T.n6, by omega, ?_⟩
      have e14 := samep_upd (p := p) (H := H') (o := .ins C dx (putF "deposit" (.int d1) fs12))
      have f14 := f13.trans e14
      have hm14 := tl_frame hm13 p13 e14
      have hbt14 := e14 _ _ hbt13 (ne_of hbt13 p13 (by intro z; cases z))
      have lk14 := lk_frame lk13 p13 nrp e14
      have p14 : (upd H' p (.ins C dx (putF "deposit" (.int d1) fs12))) p = some (.ins C dx (putF "deposit" (.int d1) fs12)) := upd_same
      generalize upd H' p (.ins C dx (putF "deposit" (.int d1) fs12)) = H14 at f14 hm14 hbt14 lk14 p14 ⊢
      have l14 : (putF "deposit" (.int d1) fs12).length ≤ 6 := put_len l13
      have c14 : Clean (putF "deposit" (.int d1) fs12) := c12.put (by decide +kernel)
      have kn14 : (putF "deposit" (.int d1) fs12).lookup ("name" : Str) = some (vN nm) := put_ne kn12 (by decide +kernel)
      have kq14 : (putF "deposit" (.int d1) fs12).lookup ("limit" : Str) = some (capV lim) := put_ne kq12 (by decide +kernel)
      have kd14 : (putF "deposit" (.int d1) fs12).lookup ("deposit" : Str) = some (.int d1) := put_same _ _ _
      have km14 : (putF "deposit" (.int d1) fs12).lookup ("members" : Str) = some (.ref m) := put_ne km13 (by decide +kernel)
      have kb14 : (putF "deposit" (.int d1) fs12).lookup ("barred" : Str) = some (.ref bt) := put_ne kb13 (by decide +kernel)
      have kl14 : (putF "deposit" (.int d1) fs12).lookup ("links" : Str) = some (.ref r) := put_ne kl13 (by decide +kernel)
      generalize putF "deposit" (.int d1) fs12 = fs14 at p14 l14 c14 km14 kb14 kl14 kn14 kq14 kd14
      refine ⟨_, rfl, _, rfl, p, C, dx, _, rfl, p14, T.cl, T.n7, by omega, ?_⟩
      have e15 := samep_upd (p := p) (H := H14) (o := .ins C dx (putF "fee" (.int d2) fs14))
      have f15 := f14.trans e15
      have hm15 := tl_frame hm14 p14 e15
      have hbt15 := e15 _ _ hbt14 (ne_of hbt14 p14 (by intro z; cases z))
      have lk15 := lk_frame lk14 p14 nrp e15
      have p15 : (upd H14 p (.ins C dx (putF "fee" (.int d2) fs14))) p = some (.ins C dx (putF "fee" (.int d2) fs14)) := upd_same
      generalize upd H14 p (.ins C dx (putF "fee" (.int d2) fs14)) = H15 at f15 hm15 hbt15 lk15 p15 ⊢
      have l15 : (putF "fee" (.int d2) fs14).length ≤ 7 := put_len l14
      have c15 : Clean (putF "fee" (.int d2) fs14) := c14.put (by decide +kernel)
      have kn15 : (putF "fee" (.int d2) fs14).lookup ("name" : Str) = some (vN nm) := put_ne kn14 (by decide +kernel)
      have kq15 : (putF "fee" (.int d2) fs14).lookup ("limit" : Str) = some (capV lim) := put_ne kq14 (by decide +kernel)
      have kd15 : (putF "fee" (.int d2) fs14).lookup ("deposit" : Str) = some (.int d1) := put_ne kd14 (by decide +kernel)
      have kf15 : (putF "fee" (.int d2) fs14).lookup ("fee" : Str) = some (.int d2) := put_same _ _ _
      have km15 : (putF "fee" (.int d2) fs14).lookup ("members" : Str) = some (.ref m) := put_ne km14 (by decide +kernel)
      have kb15 : (putF "fee" (.int d2) fs14).lookup ("barred" : Str) = some (.ref bt) := put_ne kb14 (by decide +kernel)
      have kl15 : (putF "fee" (.int d2) fs14).lookup ("links" : Str) = some (.ref r) := put_ne kl14 (by decide +kernel)
      generalize putF "fee" (.int d2) fs14 = fs15 at p15 l15 c15 km15 kb15 kl15 kn15 kq15 kd15 kf15
      refine ⟨_, rfl, _, rfl, p, C, dx, _, rfl, p15, T.cl, T.n8, by omega, ?_⟩
      have e16 := samep_upd (p := p) (H := H15) (o := .ins C dx (putF "start" (.int d3) fs15))
      have f16 := f15.trans e16
      have hm16 := tl_frame hm15 p15 e16
      have hbt16 := e16 _ _ hbt15 (ne_of hbt15 p15 (by intro z; cases z))
      have lk16 := lk_frame lk15 p15 nrp e16
      have p16 : (upd H15 p (.ins C dx (putF "start" (.int d3) fs15))) p = some (.ins C dx (putF "start" (.int d3) fs15)) := upd_same
      generalize upd H15 p (.ins C dx (putF "start" (.int d3) fs15)) = H16 at f16 hm16 hbt16 lk16 p16 ⊢
      have l16 : (putF "start" (.int d3) fs15).length ≤ 8 := put_len l15
      have c16 : Clean (putF "start" (.int d3) fs15) := c15.put (by decide +kernel)
      have kn16 : (putF "start" (.int d3) fs15).lookup ("name" : Str) = some (vN nm) := put_ne kn15 (by decide +kernel)
      have kq16 : (putF "start" (.int d3) fs15).lookup ("limit" : Str) = some (capV lim) := put_ne kq15 (by decide +kernel)
      have kd16 : (putF "start" (.int d3) fs15).lookup ("deposit" : Str) = some (.int d1) := put_ne kd15 (by decide +kernel)
      have kf16 : (putF "start" (.int d3) fs15).lookup ("fee" : Str) = some (.int d2) := put_ne kf15 (by decide +kernel)
      have ks16 : (putF "start" (.int d3) fs15).lookup ("start" : Str) = some (.int d3) := put_same _ _ _
      have km16 : (putF "start" (.int d3) fs15).lookup ("members" : Str) = some (.ref m) := put_ne km15 (by decide +kernel)
      have kb16 : (putF "start" (.int d3) fs15).lookup ("barred" : Str) = some (.ref bt) := put_ne kb15 (by decide +kernel)
      have kl16 : (putF "start" (.int d3) fs15).lookup ("links" : Str) = some (.ref r) := put_ne kl15 (by decide +kernel)
      generalize putF "start" (.int d3) fs15 = fs16 at p16 l16 c16 km16 kb16 kl16 kn16 kq16 kd16 kf16 ks16
      -- the tolls by hand
      refine ⟨_, rfl, p, C, dx, _, _, rfl, p16, T.cl, T.n5, kl16, _, rfl, p, C, dx, _, _, rfl, p16, T.cl, T.n4, kb16, ?_⟩
      refine ⟨r, bt, zs, kb, ts, rfl, lk16, ok, hbt16, fun H17 ht hh s17 tk hmin => ?_⟩
      have p17 := s17 _ _ p16
      have hm17 := hm16.same s17
      have hbt17 := s17 _ _ hbt16
      have lk17 := lk_same lk16 s17
      refine ⟨_, rfl, p, C, dx, _, rfl, p17, T.cl, T.n9, by omega, ?_⟩
      have nht : ht ≠ p := fun z => by
        obtain ⟨ts', ⟨d', a', e', kvs', h1, _⟩, _⟩ := tk
        rw [z, p17] at h1
        cases h1
        rw [fldsT_barred] at kb16
        cases kb16
      have e18 := samep_upd (p := p) (H := H17) (o := .ins C dx (putF "_hand_tolls" (.ref ht) fs16))
      refine q _ ⟨dx, m, bt, r, ht, _, hh, upd_same, put_ne km16 (by decide +kernel), put_ne kb16 (by decide +kernel), put_ne kl16 (by decide +kernel), put_same _ _ _, ⟨put_len l16, c16.put (by decide +kernel)⟩, tl_frame hm17 p17 e18, e18 _ _ hbt17 (ne_of hbt17 p17 (by intro z; cases z)), lk_frame lk17 p17 nrp e18, tk_frame tk p17 nht e18, hmin, put_ne kn16 (by decide +kernel), put_ne kq16 (by decide +kernel), put_ne kd16 (by decide +kernel), put_ne kf16 (by decide +kernel), put_ne ks16 (by decide +kernel)⟩ ?_
      exact (f16.trans (same_p (p := p) s17)).trans e18
end
end TK

/-! Rule.__init__, with members and barred as tuples -/
namespace TK
open PySem PySem.Spec PyProof.Rows L2
structure GdT (K : PySem.W.Frag) (H : Hp) (a b c : Addr) (zs ks : List Nam) (es : List Addr) (ts : List Tie) : Prop where
  m : TL H a (zs.map vN)
  b : SqT K H b (ks.map vN)
  l : SqS K H c (es.map V.ref)
  t : TiesAt H es ts
theorem GdT.fr {K : PySem.W.Frag} {H H' : Hp} {a b c p C dx : Addr} {fs : List (Str × V)} {zs ks : List Nam} {es : List Addr} {ts : List Tie} (g : GdT K H a b c zs ks es ts) (hp : H p = some (.ins C dx fs)) (f : SameP p H H') : GdT K H' a b c zs ks es ts := ⟨tl_frame g.m hp f, sqT_frame g.b hp f, sqS_frame g.l hp f, ties_frame g.t hp f⟩
theorem GdT.same {K : PySem.W.Frag} {H H' : Hp} {a b c : Addr} {zs ks : List Nam} {es : List Addr} {ts : List Tie} (g : GdT K H a b c zs ks es ts) (s : Same H H') : GdT K H' a b c zs ks es ts := ⟨g.m.same s, same_tup s g.b, g.l.same s, g.t.same s⟩
section
variable {P : Program} {w : World} {K : PySem.W.Frag} {mg : Str → Option Value} {base : Heap}
def spInitRuT (K : PySem.W.Frag) (C CL CT : Addr) : Sp := fun vs H Q _ => ∃ (p a b c dx : Addr) (nm : Nam) (lim : Option Int) (d1 d2 d3 : Int) (zs ks : List Nam) (es : List Addr) (ts : List Tie), vs = [.ref p, vN nm, .ref a, capV lim, .ref b, .ref c, .int d1, .int d2, .int d3] ∧ H p = some (.ins C dx []) ∧ GdT K H a b c zs ks es ts ∧ LOk zs ts ∧ zs.length ≤ 4 ∧ Nm nm ∧
  (∀ v, lim = some v → 0 ≤ v ∧ v ≤ 3) ∧ ks.Nodup ∧ (∀ x ∈ ks, x ∈ zs) ∧ (0 ≤ d1 ∧ d1 ≤ 1000000000) ∧ (0 ≤ d2 ∧ d2 ≤ 1000000000) ∧ (0 ≤ d3 ∧ d3 ≤ 1000000000) ∧
  ∀ H', RuX 9 K C CL CT H' p zs (zs.filter fun z => decide (z ∈ ks)) ts nm lim d1 d2 d3 → SameP p H H' → Q .non H'
theorem ok_Rule_initT {f C CL CT fL : Addr} {fd fdL : FuncData} (F : Fun K "__init__" "Rule.__init__" s_Rule_init f fd) (T : TxtRu K C) (m_tuple : mg "tuple" = none)
    (d_is_name : Def P w K mg base "is_name" 1 ["word"] spIsNameH) (d_check_names : DefD P w K mg base "check_names" 2 ["names", "most", "hook"] (spCheckN K) [.bl false]) (d_check_range : Def P w K mg base "check_range" 1 ["number", "low", "high"] spRange)
    (d_check_picks : Def P w K mg base "check_picks" 1 ["picks", "known"] (spPicksT K)) (M_Links : Mk K CL fL) (G_Links : FnOk P w K mg base CX0 3 fL fdL ["self", "names", "links"] (spInitL K CL)) (mg_Links : mg "Links" = some (.ref CL)) (b_Links : Binds K fdL ["self", "names", "links"] [])
    (d_hand_tolls : Def P w K mg base "_hand_tolls" 7 ["links", "barred"] (spHandT K CL CT)) : FnOk P w K mg base CX0 8 f fd ["self", "name", "members", "limit", "barred", "links", "deposit", "fee", "start"] (spInitRuT K C CL CT) := by
  refine F.ok sc_Rule_init (fun vs H Q E h => ?_) (fun cdv A outer s H vs Q E hr h => ?_)
  · obtain ⟨p, a, b, c, dx, nm, lim, d1, d2, d3, zs, ks, es, ts, rfl, _⟩ := h
    rfl
  · obtain ⟨p, a, b, c, dx, nm, lim, d1, d2, d3, zs, ks, es, ts, rfl, hp, g, ok, z4, hnm, hlim, knd, ksub, hd1, hd2, hd3, q⟩ := h
    refine ⟨_, (pss_cons (ps_if (pt_not (pt_val (pe_callD d_is_name (hr.mono (by decide)) (by rfl) (pa_cons (pv 1) pa_nil)))) (pss_one ps_never) pss_nil)
  (pss_cons (ps_expr (pe_callDD d_check_names (hr.mono (by decide)) (by rfl) (pa_cons (pv 2) (pa_cons pe_int pa_nil))))
  (pss_cons (ps_cut (ps_if (pt_cmpR op_notN (pv 3) pe_non (nomark _)) (pss_one (ps_expr (pe_callD d_check_range (hr.mono (by decide)) (by rfl) (pa_cons (pv 3) (pa_cons pe_int (pa_cons pe_int pa_nil)))))) pss_nil))
  (pss_cons (ps_expr (pe_callD d_check_picks (hr.mono (by decide)) (by rfl) (pa_cons (pv 4) (pa_cons (pv 2) pa_nil))))
  (pss_cons (ps_fld (pv 0) (pv 1) rfl)
  (pss_cons (ps_fld (pv 0) (pe_callTy call_tuple_of (by rfl) m_tuple (by decide +kernel) (pa_cons (pv 2) pa_nil)) rfl)
  (pss_cons (ps_fld (pv 0) (pv 3) rfl)
  (pss_cons (ps_fld (pv 0) (pe_callTy call_tuple_of (by rfl) m_tuple (by decide +kernel) (pa_cons (pe_lc (own := [("member", 10)]) (by rfl) sc_Rule_init.nd (pi_tup (pv 2)) (blkOk_by (N := ["self", "name", "members", "limit", "barred", "links", "deposit", "fee", "start", "coins", "member"]) (sc := defScope s_Rule_init) (by decide +kernel)) (fun _ _ _ _ _ => (pg_name (i := 10) sc_Rule_init.nd rfl (.inl rfl))) (fun _ _ _ _ _ => (pts_one (pt_cmpR (op_in_seqK (K := K) rfl) (pv 10) (pv 4) (by rfl)))) (fun _ _ _ _ _ => (pv 10))) pa_nil)) rfl)
  (pss_cons (ps_fld (pv 0) (pe_make M_Links G_Links (hr.mono (by decide)) (by rfl) mg_Links b_Links .nil pass0 (pa_cons (pv 2) (pa_cons (pv 5) pa_nil))) rfl)
  (pss_cons (ps_for PassesOwn.never rfl (pi_tup (pe_tup (pa_cons (pv 6) (pa_cons (pv 7) (pa_cons (pv 8) pa_nil))))) (pg_name (i := 9) sc_Rule_init.nd rfl (.inl rfl))
    (pss_one (ps_expr (pe_callD d_check_range (hr.mono (by decide)) (by rfl) (pa_cons (pv 9) (pa_cons pe_int (pa_cons (pe_op op_pow pe_int pe_int) pa_nil)))))))
  (pss_cons (ps_fld (pv 0) (pv 6) rfl)
  (pss_cons (ps_fld (pv 0) (pv 7) rfl)
  (pss_cons (ps_fld (pv 0) (pv 8) rfl)
  (pss_one (ps_fld (pv 0) (pe_callD d_hand_tolls (hr.mono (by decide)) (by rfl) (pa_cons (pe_fld (pv 0) rfl) (pa_cons (pe_fld (pv 0) rfl) pa_nil))) rfl))))))))))))))), ?_⟩
    refine ⟨_, rfl, nm, rfl, .inl hnm, fun H1 s1 => ⟨_, rfl, ?_⟩⟩
    rw [nz_nm hnm]
    refine iteF ⟨_, rfl, a, 4, zs, rfl, .inr (g.m.same s1).sq, ok.l1, by omega, ok.l6, ok.nm, ok.nd, fun H2 s2 => ?_⟩
    have s12 := s1.trans s2
    refine ⟨fun σ H' => σ = [some (.ref p), some (vN nm), some (.ref a), some (capV lim), some (.ref b), some (.ref c), some (.int d1), some (.int d2), some (.int d3), none, none] ∧ H' = H2, ?_, ?_⟩
    · cases lim with
      | none =>
        refine ⟨_, rfl, rfl, _, rfl, ?_⟩
        exact iteF ⟨rfl, rfl⟩
      | some v =>
        obtain ⟨l1, l2⟩ := hlim v rfl
        refine ⟨_, rfl, rfl, _, rfl, ?_⟩
        rw [decide_eq_false (show ¬ capV (some v) = V.non from nofun)]
        exact iteT ⟨_, rfl, _, _, _, rfl, l1, l2, rfl, rfl⟩
    rintro σ H' ⟨rfl, rfl⟩
    refine ⟨_, rfl, _, rfl, b, a, ks, zs, rfl, same_tup s12 g.b, .inr (g.m.same s12).sq, knd, ksub, fun H3 s3 => ?_⟩
    have s13 := s12.trans s3
    have g3 := g.same s13
    have p3 := s13 _ _ hp
    -- name
    refine ⟨_, rfl, _, rfl, p, C, dx, _, rfl, p3, T.cl, T.n1, by decide, ?_⟩
    have f4 := (same_p (p := p) s13).trans (samep_upd (p := p) (H := H3) (o := .ins C dx (putF "name" (vN nm) [])))
    have g4 := g3.fr p3 (samep_upd (o := .ins C dx (putF "name" (vN nm) [])))
    have p4 : (upd H3 p (.ins C dx (putF "name" (vN nm) []))) p = some (.ins C dx (putF "name" (vN nm) [])) := upd_same
    generalize upd H3 p (.ins C dx (putF "name" (vN nm) [])) = H4 at f4 g4 p4 ⊢
    -- members
    refine ⟨_, rfl, a, _, rfl, .inr ⟨g4.m.sq, ?_⟩⟩
    have g5 := g4
    have p5 := p4
    have hm5 : TL H4 a (zs.map vN) := g4.m
    have f5 := f4
    obtain ⟨H5, e5⟩ : ∃ H5, H5 = H4 := ⟨_, rfl⟩
    rw [← e5] at g5 p5 hm5 f5 ⊢
    refine ⟨_, rfl, p, C, dx, _, rfl, p5, T.cl, T.n2, Nat.lt_of_le_of_lt (putF_len _ _ _) (by decide), ?_⟩
    have f6 := f5.trans (samep_upd (p := p) (H := H5) (o := .ins C dx (putF "members" (.ref a) (putF "name" (vN nm) []))))
    have g6 := g5.fr p5 (samep_upd (o := .ins C dx (putF "members" (.ref a) (putF "name" (vN nm) []))))
    have hm6 := tl_frame hm5 p5 (samep_upd (o := .ins C dx (putF "members" (.ref a) (putF "name" (vN nm) []))))
    have p6 : (upd H5 p (.ins C dx (putF "members" (.ref a) (putF "name" (vN nm) [])))) p = some (.ins C dx (putF "members" (.ref a) (putF "name" (vN nm) []))) := upd_same
    generalize upd H5 p (.ins C dx (putF "members" (.ref a) (putF "name" (vN nm) []))) = H6 at f6 g6 hm6 p6 ⊢
    have l6 : (putF "members" (.ref a) (putF "name" (vN nm) [])).length ≤ 2 := put_len (put_len (Nat.zero_le _))
    have c6 : Clean (putF "members" (.ref a) (putF "name" (vN nm) [])) := (Clean.nil.put (by decide +kernel)).put (by decide +kernel)
    have kn6 : (putF "members" (.ref a) (putF "name" (vN nm) [])).lookup ("name" : Str) = some (vN nm) := put_ne (put_same _ _ _) (by decide +kernel)
    have km6 : (putF "members" (.ref a) (putF "name" (vN nm) [])).lookup ("members" : Str) = some (.ref a) := put_same _ _ _
    generalize putF "members" (.ref a) (putF "name" (vN nm) []) = fs6 at p6 l6 c6 km6 kn6
    -- limit
    refine ⟨_, rfl, _, rfl, p, C, dx, _, rfl, p6, T.cl, T.n3, by omega, ?_⟩
    have f7 := f6.trans (samep_upd (p := p) (H := H6) (o := .ins C dx (putF "limit" (capV lim) fs6)))
    have g7 := g6.fr p6 (samep_upd (o := .ins C dx (putF "limit" (capV lim) fs6)))
    have hm7 := tl_frame hm6 p6 (samep_upd (o := .ins C dx (putF "limit" (capV lim) fs6)))
    have p7 : (upd H6 p (.ins C dx (putF "limit" (capV lim) fs6))) p = some (.ins C dx (putF "limit" (capV lim) fs6)) := upd_same
    generalize upd H6 p (.ins C dx (putF "limit" (capV lim) fs6)) = H7 at f7 g7 hm7 p7 ⊢
    have l7 : (putF "limit" (capV lim) fs6).length ≤ 3 := put_len l6
    have c7 : Clean (putF "limit" (capV lim) fs6) := c6.put (by decide +kernel)
    have kn7 : (putF "limit" (capV lim) fs6).lookup ("name" : Str) = some (vN nm) := put_ne kn6 (by decide +kernel)
    have kq7 : (putF "limit" (capV lim) fs6).lookup ("limit" : Str) = some (capV lim) := put_same _ _ _
    have km7 : (putF "limit" (capV lim) fs6).lookup ("members" : Str) = some (.ref a) := put_ne km6 (by decide +kernel)
    generalize putF "limit" (capV lim) fs6 = fs7 at p7 l7 c7 km7 kn7 kq7
    -- barred
    refine ⟨_, rfl, a, rfl, ⟨_, g7.m.sq⟩, fun D nD => ?_⟩
    refine lc_tup (K := K) (a := a) (xs := zs.map vN) (fun i H' => Same H7 H' ∧ H' D = some (.lst (((zs.take i).filter fun z => decide (z ∈ ks)).map vN))) ⟨same_upd nD, upd_same⟩ (fun i H' _ hq => (g7.m.same hq.1).sq) (fun i v H' hx hq => ?_) (fun H' hq => ?_)
    · obtain ⟨s8, eD⟩ := hq
      obtain ⟨z, ez, rfl⟩ := vN_at hx
      have fl : ((zs.take i).filter fun z => decide (z ∈ ks)).length ≤ 4 := Nat.le_trans (List.length_filter_le _ _) (by rw [List.length_take]; omega)
      rw [flt_at ez]
      refine ⟨rfl, _, rfl, _, rfl, b, _, rfl, .inr (same_tup s8 g7.b), rfl, nms_flat _, _, rfl, ?_⟩
      rw [in_nm]
      by_cases hz : z ∈ ks
      · rw [decide_eq_true hz]
        refine iteT ⟨_, rfl, _, eD, by rw [List.length_map]; exact small1000 (by omega), same_at s8 nD, ?_⟩
        rw [if_pos rfl, List.map_append]
        exact upd_same
      · rw [decide_eq_false hz]
        exact iteF ⟨s8, by rw [if_neg Bool.false_ne_true, List.append_nil]; exact eD⟩
    obtain ⟨s8, eD⟩ := hq
    rw [List.length_map, List.take_length] at eD
    generalize hkb : zs.filter (fun z => decide (z ∈ ks)) = kb at eD q
    refine ⟨D, _, rfl, .inl ⟨lstAt eD, fun bt nbt => ?_⟩⟩
    have s9 := s8.trans (same_upd (o := .tup (kb.map vN)) nbt)
    have hbt9 : (upd H' bt (.tup (kb.map vN))) bt = some (.tup (kb.map vN)) := upd_same
    generalize upd H' bt (.tup (kb.map vN)) = H9 at s9 hbt9 ⊢
    have p9 := s9 _ _ p7
    have g9 := g7.same s9
    have hm9 := hm7.same s9
    have f9 := f7.trans (same_p (p := p) s9)
    refine ⟨_, rfl, p, C, dx, _, rfl, p9, T.cl, T.n4, by omega, ?_⟩
    have e10 := samep_upd (p := p) (H := H9) (o := .ins C dx (putF "barred" (.ref bt) fs7))
    have f10 := f9.trans e10
    have g10 := g9.fr p9 e10
    have hm10 := tl_frame hm9 p9 e10
    have hbt10 := e10 _ _ hbt9 (ne_of hbt9 p9 (by intro z; cases z))
    have p10 : (upd H9 p (.ins C dx (putF "barred" (.ref bt) fs7))) p = some (.ins C dx (putF "barred" (.ref bt) fs7)) := upd_same
    generalize upd H9 p (.ins C dx (putF "barred" (.ref bt) fs7)) = H10 at f10 g10 hm10 hbt10 p10 ⊢
    have l10 : (putF "barred" (.ref bt) fs7).length ≤ 4 := put_len l7
    have c10 : Clean (putF "barred" (.ref bt) fs7) := c7.put (by decide +kernel)
    have kn10 : (putF "barred" (.ref bt) fs7).lookup ("name" : Str) = some (vN nm) := put_ne kn7 (by decide +kernel)
    have kq10 : (putF "barred" (.ref bt) fs7).lookup ("limit" : Str) = some (capV lim) := put_ne kq7 (by decide +kernel)
    have km10 : (putF "barred" (.ref bt) fs7).lookup ("members" : Str) = some (.ref a) := put_ne km7 (by decide +kernel)
    have kb10 : (putF "barred" (.ref bt) fs7).lookup ("barred" : Str) = some (.ref bt) := put_same _ _ _
    generalize putF "barred" (.ref bt) fs7 = fs10 at p10 l10 c10 km10 kb10 kn10 kq10
    -- links
    refine ⟨_, rfl, _, rfl, fun r d nr nd dn => ?_⟩
    have s2 := (same_upd (o := .own r) nd).trans (same_upd (H := upd H10 d (.own r)) (o := .ins CL d []) (by rw [upd_ne (Ne.symm dn)]; exact nr))
    have g10' := g10.same s2
    refine ⟨r, a, c, d, zs, es, ts, rfl, upd_same, .inr g10'.m, g10'.l, g10'.t, ok, fun H11 lk11 fr => ⟨rfl, ?_⟩⟩
    have s11 : Same H10 H11 := fun c x e => fr c x (s2 _ _ e) (ne_of_none e nr)
    have nrp : r ≠ p := (ne_of_none p10 nr).symm
    have p11 := s11 _ _ p10
    have hm11 := hm10.same s11
    have hbt11 := s11 _ _ hbt10
    have f11 := f10.trans (same_p (p := p) s11)
    refine ⟨_, rfl, p, C, dx, _, rfl, p11, T.cl, T.n5, by omega, ?_⟩
    have e12 := samep_upd (p := p) (H := H11) (o := .ins C dx (putF "links" (.ref r) fs10))
    have f12 := f11.trans e12
    have hm12 := tl_frame hm11 p11 e12
    have hbt12 := e12 _ _ hbt11 (ne_of hbt11 p11 (by intro z; cases z))
    have lk12 := lk_frame lk11 p11 nrp e12
    have p12 : (upd H11 p (.ins C dx (putF "links" (.ref r) fs10))) p = some (.ins C dx (putF "links" (.ref r) fs10)) := upd_same
    generalize upd H11 p (.ins C dx (putF "links" (.ref r) fs10)) = H12 at f12 hm12 hbt12 lk12 p12 ⊢
    have l12 : (putF "links" (.ref r) fs10).length ≤ 5 := put_len l10
    have c12 : Clean (putF "links" (.ref r) fs10) := c10.put (by decide +kernel)
    have kn12 : (putF "links" (.ref r) fs10).lookup ("name" : Str) = some (vN nm) := put_ne kn10 (by decide +kernel)
    have kq12 : (putF "links" (.ref r) fs10).lookup ("limit" : Str) = some (capV lim) := put_ne kq10 (by decide +kernel)
    have km12 : (putF "links" (.ref r) fs10).lookup ("members" : Str) = some (.ref a) := put_ne km10 (by decide +kernel)
    have kb12 : (putF "links" (.ref r) fs10).lookup ("barred" : Str) = some (.ref bt) := put_ne kb10 (by decide +kernel)
    have kl12 : (putF "links" (.ref r) fs10).lookup ("links" : Str) = some (.ref r) := put_same _ _ _
    generalize putF "links" (.ref r) fs10 = fs12 at p12 l12 c12 km12 kb12 kl12 kn12 kq12
    -- the coins
    refine ⟨_, rfl, _, rfl, _, rfl, (show (3 : Nat) ≤ sizeLine by decide), fun cc ncc => ?_⟩
    have sc := same_upd (o := .tup [V.int d1, .int d2, .int d3]) ncc
    have ecc : (upd H12 cc (.tup [V.int d1, .int d2, .int d3])) cc = some (.tup [V.int d1, .int d2, .int d3]) := upd_same
    have p13 := sc _ _ p12
    have hm13 := hm12.same sc
    have hbt13 := sc _ _ hbt12
    have lk13 := lk_same lk12 sc
    have f13 := f12.trans (same_p (p := p) sc)
    generalize upd H12 cc (.tup [V.int d1, .int d2, .int d3]) = H13 at ecc p13 hm13 hbt13 lk13 f13 ⊢
    refine ⟨cc, rfl, ⟨_, tupAt ecc⟩, for_tup (K := K) (a := cc) (xs := [V.int d1, .int d2, .int d3]) (fun i σ H' => ∃ y9 : Option V, σ = [some (.ref p), some (vN nm), some (.ref a), some (capV lim), some (.ref b), some (.ref c), some (.int d1), some (.int d2), some (.int d3), y9, none] ∧ H' = H13) ⟨_, rfl, rfl⟩ (fun i σ H' _ hq => ?_) ?_ ?_⟩
    · obtain ⟨_, rfl, rfl⟩ := hq
      exact tupAt ecc
    · rintro i v σ H' hx ⟨y9, rfl, rfl⟩
      have hv : ∃ t : Int, v = .int t ∧ 0 ≤ t ∧ t ≤ 1000000000 := by
        match i, hx with
        | 0, hx => cases Option.some.inj hx; exact ⟨_, rfl, hd1⟩
        | 1, hx => cases Option.some.inj hx; exact ⟨_, rfl, hd2⟩
        | 2, hx => cases Option.some.inj hx; exact ⟨_, rfl, hd3⟩
        | j + 3, hx => cases hx
      obtain ⟨t, rfl, t1, t2⟩ := hv
      exact ⟨_, rfl, _, _, rfl, rfl, ⟨by decide, by decide, by decide⟩, t, 0, _, rfl, t1, Int.le_trans t2 (by decide), _, rfl, rfl⟩
    · rintro σ H' ⟨y9, rfl, rfl⟩
      have l13 := l12
      have km13 := km12
      have kb13 := kb12
      have kl13 := kl12
      have f13 := f13
      refine ⟨_, rfl, _, rfl, p, C, dx, _, rfl, p13, T.cl, T.n6, by omega, ?_⟩
      have e14 := samep_upd (p := p) (H := H') (o := .ins C dx (putF "deposit" (.int d1) fs12))
      have f14 := f13.trans e14
      have hm14 := tl_frame hm13 p13 e14
      have hbt14 := e14 _ _ hbt13 (ne_of hbt13 p13 (by intro z; cases z))
      have lk14 := lk_frame lk13 p13 nrp e14
      have p14 : (upd H' p (.ins C dx (putF "deposit" (.int d1) fs12))) p = some (.ins C dx (putF "deposit" (.int d1) fs12)) := upd_same
      generalize upd H' p (.ins C dx (putF "deposit" (.int d1) fs12)) = H14 at f14 hm14 hbt14 lk14 p14 ⊢
      have l14 : (putF "deposit" (.int d1) fs12).length ≤ 6 := put_len l13
      have c14 : Clean (putF "deposit" (.int d1) fs12) := c12.put (by decide +kernel)
      have kn14 : (putF "deposit" (.int d1) fs12).lookup ("name" : Str) = some (vN nm) := put_ne kn12 (by decide +kernel)
      have kq14 : (putF "deposit" (.int d1) fs12).lookup ("limit" : Str) = some (capV lim) := put_ne kq12 (by decide +kernel)
      have kd14 : (putF "deposit" (.int d1) fs12).lookup ("deposit" : Str) = some (.int d1) := put_same _ _ _
      have km14 : (putF "deposit" (.int d1) fs12).lookup ("members" : Str) = some (.ref a) := put_ne km13 (by decide +kernel)
      have kb14 : (putF "deposit" (.int d1) fs12).lookup ("barred" : Str) = some (.ref bt) := put_ne kb13 (by decide +kernel)
      have kl14 : (putF "deposit" (.int d1) fs12).lookup ("links" : Str) = some (.ref r) := put_ne kl13 (by decide +kernel)
      generalize putF "deposit" (.int d1) fs12 = fs14 at p14 l14 c14 km14 kb14 kl14 kn14 kq14 kd14
      refine ⟨_, rfl, _, rfl, p, C, dx, _, rfl, p14, T.cl, T.n7, by omega, ?_⟩
      have e15 := samep_upd (p := p) (H := H14) (o := .ins C dx (putF "fee" (.int d2) fs14))
      have f15 := f14.trans e15
      have hm15 := tl_frame hm14 p14 e15
      have hbt15 := e15 _ _ hbt14 (ne_of hbt14 p14 (by intro z; cases z))
      have lk15 := lk_frame lk14 p14 nrp e15
      have p15 : (upd H14 p (.ins C dx (putF "fee" (.int d2) fs14))) p = some (.ins C dx (putF "fee" (.int d2) fs14)) := upd_same
      generalize upd H14 p (.ins C dx (putF "fee" (.int d2) fs14)) = H15 at f15 hm15 hbt15 lk15 p15 ⊢
      have l15 : (putF "fee" (.int d2) fs14).length ≤ 7 := put_len l14
      have c15 : Clean (putF "fee" (.int d2) fs14) := c14.put (by decide +kernel)
      have kn15 : (putF "fee" (.int d2) fs14).lookup ("name" : Str) = some (vN nm) := put_ne kn14 (by decide +kernel)
      have kq15 : (putF "fee" (.int d2) fs14).lookup ("limit" : Str) = some (capV lim) := put_ne kq14 (by decide +kernel)
      have kd15 : (putF "fee" (.int d2) fs14).lookup ("deposit" : Str) = some (.int d1) := put_ne kd14 (by decide +kernel)
      have kf15 : (putF "fee" (.int d2) fs14).lookup ("fee" : Str) = some (.int d2) := put_same _ _ _
      have km15 : (putF "fee" (.int d2) fs14).lookup ("members" : Str) = some (.ref a) := put_ne km14 (by decide +kernel)
      have kb15 : (putF "fee" (.int d2) fs14).lookup ("barred" : Str) = some (.ref bt) := put_ne kb14 (by decide +kernel)
      have kl15 : (putF "fee" (.int d2) fs14).lookup ("links" : Str) = some (.ref r) := put_ne kl14 (by decide +kernel)
      generalize putF "fee" (.int d2) fs14 = fs15 at p15 l15 c15 km15 kb15 kl15 kn15 kq15 kd15 kf15
      refine ⟨_, rfl, _, rfl, p, C, dx, _, rfl, p15, T.cl, T.n8, by omega, ?_⟩
      have e16 := samep_upd (p := p) (H := H15) (o := .ins C dx (putF "start" (.int d3) fs15))
      have f16 := f15.trans e16
      have hm16 := tl_frame hm15 p15 e16
      have hbt16 := e16 _ _ hbt15 (ne_of hbt15 p15 (by intro z; cases z))
      have lk16 := lk_frame lk15 p15 nrp e16
      have p16 : (upd H15 p (.ins C dx (putF "start" (.int d3) fs15))) p = some (.ins C dx (putF "start" (.int d3) fs15)) := upd_same
      generalize upd H15 p (.ins C dx (putF "start" (.int d3) fs15)) = H16 at f16 hm16 hbt16 lk16 p16 ⊢
      have l16 : (putF "start" (.int d3) fs15).length ≤ 8 := put_len l15
      have c16 : Clean (putF "start" (.int d3) fs15) := c15.put (by decide +kernel)
      have kn16 : (putF "start" (.int d3) fs15).lookup ("name" : Str) = some (vN nm) := put_ne kn15 (by decide +kernel)
      have kq16 : (putF "start" (.int d3) fs15).lookup ("limit" : Str) = some (capV lim) := put_ne kq15 (by decide +kernel)
      have kd16 : (putF "start" (.int d3) fs15).lookup ("deposit" : Str) = some (.int d1) := put_ne kd15 (by decide +kernel)
      have kf16 : (putF "start" (.int d3) fs15).lookup ("fee" : Str) = some (.int d2) := put_ne kf15 (by decide +kernel)
      have ks16 : (putF "start" (.int d3) fs15).lookup ("start" : Str) = some (.int d3) := put_same _ _ _
      have km16 : (putF "start" (.int d3) fs15).lookup ("members" : Str) = some (.ref a) := put_ne km15 (by decide +kernel)
      have kb16 : (putF "start" (.int d3) fs15).lookup ("barred" : Str) = some (.ref bt) := put_ne kb15 (by decide +kernel)
      have kl16 : (putF "start" (.int d3) fs15).lookup ("links" : Str) = some (.ref r) := put_ne kl15 (by decide +kernel)
      generalize putF "start" (.int d3) fs15 = fs16 at p16 l16 c16 km16 kb16 kl16 kn16 kq16 kd16 kf16 ks16
      -- the tolls by hand
      refine ⟨_, rfl, p, C, dx, _, _, rfl, p16, T.cl, T.n5, kl16, _, rfl, p, C, dx, _, _, rfl, p16, T.cl, T.n4, kb16, ?_⟩
      refine ⟨r, bt, zs, kb, ts, rfl, lk16, ok, hbt16, fun H17 ht hh s17 tk hmin => ?_⟩
      have p17 := s17 _ _ p16
      have hm17 := hm16.same s17
      have hbt17 := s17 _ _ hbt16
      have lk17 := lk_same lk16 s17
      refine ⟨_, rfl, p, C, dx, _, rfl, p17, T.cl, T.n9, by omega, ?_⟩
      have nht : ht ≠ p := fun z => by
        obtain ⟨ts', ⟨d', a', e', kvs', h1, _⟩, _⟩ := tk
        rw [z, p17] at h1
        cases h1
        rw [fldsT_barred] at kb16
        cases kb16
      have e18 := samep_upd (p := p) (H := H17) (o := .ins C dx (putF "_hand_tolls" (.ref ht) fs16))
      refine q _ ⟨dx, a, bt, r, ht, _, hh, upd_same, put_ne km16 (by decide +kernel), put_ne kb16 (by decide +kernel), put_ne kl16 (by decide +kernel), put_same _ _ _, ⟨put_len l16, c16.put (by decide +kernel)⟩, tl_frame hm17 p17 e18, e18 _ _ hbt17 (ne_of hbt17 p17 (by intro z; cases z)), lk_frame lk17 p17 nrp e18, tk_frame tk p17 nht e18, hmin, put_ne kn16 (by decide +kernel), put_ne kq16 (by decide +kernel), put_ne kd16 (by decide +kernel), put_ne kf16 (by decide +kernel), put_ne ks16 (by decide +kernel)⟩ ?_
      exact (f16.trans (same_p (p := p) s17)).trans e18
end
end TK

/-! BidRule.__init__, its weights in a list -/
namespace TK
open PySem PySem.Spec PyProof.Rows L2 NdefX
abbrev s_BidRule_init : Stmt := inClass (topS 36) 1
abbrev brPs : List Str := ["name", "members", "weights", "hours", "guests", "limit", "barred", "links", "deposit", "fee", "start"]
abbrev brNs : List Str := ["self", "name", "members", "weights", "hours", "guests", "limit", "barred", "links", "deposit", "fee", "start", "__class__", "weight"]
theorem sc_BidRule_init : NScope brNs ("self" :: brPs) ["__class__"] (defScope s_BidRule_init) := nscope_by (by decide +kernel)
theorem fldsL_barred (a b : Addr) : (fldsL a b).lookup ("barred" : Str) = none := by
  unfold fldsL
  rw [lookup_putF, if_neg (by decide +kernel), lookup_putF, if_neg (by decide +kernel)]
  rfl
section
variable {P : Program} {w : World} {K : PySem.W.Frag} {mg : Str → Option Value} {base : Heap}
/-- a rule of bids: what its methods read -/
def BrAt (K : PySem.W.Frag) (C CL CT : Addr) (H : Hp) (p : Addr) (zs kb : List Nam) (ts : List Tie) (ls : List Int) (hs : Int) (gv : V) : Prop := RuN 12 K C CL CT H p zs kb ts ∧ ∃ (dx wt : Addr) (fs : List (Str × V)), H p = some (.ins C dx fs) ∧ fs.lookup ("weights" : Str) = some (.ref wt) ∧ H wt = some (.tup (ls.map V.int)) ∧ fs.lookup ("hours" : Str) = some (.int hs) ∧ fs.lookup ("guests" : Str) = some gv
/-- a rule of bids with all its fields -/
def BrX (K : PySem.W.Frag) (C CL CT : Addr) (H : Hp) (p : Addr) (zs kb : List Nam) (ts : List Tie) (ls : List Int) (hs : Int) (gv : V) (nm : Nam) (lim : Option Int) (d1 d2 d3 : Int) : Prop := ∃ (dx m bt l ht wt : Addr) (fs : List (Str × V)) (h : Pr), H p = some (.ins C dx fs) ∧ fs.lookup ("members" : Str) = some (.ref m) ∧ fs.lookup ("barred" : Str) = some (.ref bt) ∧ fs.lookup ("links" : Str) = some (.ref l) ∧ fs.lookup ("_hand_tolls" : Str) = some (.ref ht) ∧ LenC 12 fs ∧
  TL H m (zs.map vN) ∧ H bt = some (.tup (kb.map vN)) ∧ LkAt CL H l zs ts ∧ TkF K CT H ht zs h ∧ (∀ x y, IsMin (h x y) (Any zs (leastE (freeT kb ts)) x y)) ∧
  fs.lookup ("name" : Str) = some (vN nm) ∧ fs.lookup ("limit" : Str) = some (capV lim) ∧ fs.lookup ("deposit" : Str) = some (.int d1) ∧ fs.lookup ("fee" : Str) = some (.int d2) ∧ fs.lookup ("start" : Str) = some (.int d3) ∧
  fs.lookup ("weights" : Str) = some (.ref wt) ∧ H wt = some (.tup (ls.map V.int)) ∧ fs.lookup ("hours" : Str) = some (.int hs) ∧ fs.lookup ("guests" : Str) = some gv
theorem BrX.at {K : PySem.W.Frag} {C CL CT : Addr} {H : Hp} {p : Addr} {zs kb : List Nam} {ts : List Tie} {ls : List Int} {hs : Int} {gv : V} {nm : Nam} {lim : Option Int} {d1 d2 d3 : Int} (h : BrX K C CL CT H p zs kb ts ls hs gv nm lim d1 d2 d3) : BrAt K C CL CT H p zs kb ts ls hs gv := by
  obtain ⟨dx, m, bt, l, ht, wt, fs, hh, h1, h2, h3, h4, h5, h6, h7, h8, h9, h10, h11, _, _, _, _, _, w1, w2, w3, w4⟩ := h
  exact ⟨⟨dx, m, bt, l, ht, fs, hh, h1, h2, h3, h4, h5, h6, h7, h8, h9, h10, h11⟩, dx, wt, fs, h1, w1, w2, w3, w4⟩
theorem BrX.same {K : PySem.W.Frag} {C CL CT : Addr} {H H' : Hp} {p : Addr} {zs kb : List Nam} {ts : List Tie} {ls : List Int} {hs : Int} {gv : V} {nm : Nam} {lim : Option Int} {d1 d2 d3 : Int} (h : BrX K C CL CT H p zs kb ts ls hs gv nm lim d1 d2 d3) (s : Same H H') : BrX K C CL CT H' p zs kb ts ls hs gv nm lim d1 d2 d3 := by
  obtain ⟨dx, m, bt, l, ht, wt, fs, hh, h1, h2, h3, h4, h5, h6, h7, h8, h9, ⟨ts', h10, h10'⟩, h11, n1, n2, n3, n4, n5, w1, w2, w3, w4⟩ := h
  exact ⟨dx, m, bt, l, ht, wt, fs, hh, s _ _ h1, h2, h3, h4, h5, h6, h7.same s, s _ _ h8, lk_same h9 s, ⟨ts', h10.same s, h10'⟩, h11, n1, n2, n3, n4, n5, w1, s _ _ w2, w3, w4⟩
def spInitBrL (K : PySem.W.Frag) (C CL CT : Addr) : Sp := fun vs H Q _ => ∃ (p a b c wa dx : Addr) (nm : Nam) (lim : Option Int) (ls : List Int) (hs d1 d2 d3 : Int) (gv : V) (zs ks : List Nam) (es : List Addr) (ts : List Tie), vs = [.ref p, vN nm, .ref a, .ref wa, .int hs, gv, capV lim, .ref b, .ref c, .int d1, .int d2, .int d3] ∧ H p = some (.ins C dx []) ∧ Gd K H a b c zs ks es ts ∧ LOk zs ts ∧ zs.length ≤ 4 ∧ Nm nm ∧
  (∀ v, lim = some v → 0 ≤ v ∧ v ≤ 3) ∧ ks.Nodup ∧ (∀ x ∈ ks, x ∈ zs) ∧ (0 ≤ d1 ∧ d1 ≤ 1000000000) ∧ (0 ≤ d2 ∧ d2 ≤ 1000000000) ∧ (0 ≤ d3 ∧ d3 ≤ 1000000000) ∧ 1 ≤ hs ∧ hs ≤ 3 ∧ SqL K H wa (ls.map V.int) ∧ ls.length = zs.length ∧ (∀ x ∈ ls, 1 ≤ x ∧ x ≤ 1000) ∧
  ∀ H', BrX K C CL CT H' p zs (zs.filter fun z => decide (z ∈ ks)) ts ls hs gv nm lim d1 d2 d3 → SameP p H H' → Q .non H'
theorem ok_BidRule_initL {f C CL CT D f2 cc cda : Addr} {oc ccl cl dV kV doc pm ct : Value} {an od cdd cld : Option Addr} {osl ccs csl : Array (Option Value)} {vs0 : Array Value} {tf : Tok} {file : Str}
    (lk : K.lookup f = some ⟨oc, od, .func (PySem.W.fnX "__init__" "BidRule.__init__" (defArgs s_BidRule_init) (defBody s_BidRule_init) (defScope s_BidRule_init) [("__class__", cc)] dV kV doc pm an (.ref cda) ct), osl⟩) (hcd : PySem.W.codeIn K (.ref cda) "BidRule.__init__" = true)
    (hcode : K.lookup cda = some ⟨ccl, cdd, .fields vs0, ccs⟩) (hvs : vs0[2]? = some (.str file tf)) (hfile : ((P.main.file : Str) == file) = true) (hcell : K.lookup cc = some ⟨cl, cld, .cell (some (.ref D)), csl⟩)
    (htop : (P.main.scope.names.lookup ("super" : Str)).isSome = false) (hsup : mg "super" = none) (O : SupO K C D f2) (FR : FnR P w K mg base CX0 8 f2 (spInitRu K C CL CT)) (T : TxtRu K C) (nW : NoAttr K C "weights") (nH : NoAttr K C "hours") (nG : NoAttr K C "guests")
    (m_tuple : mg "tuple" = none) (m_len : mg "len" = none) (d_check_size : Def P w K mg base "check_size" 1 ["size", "low", "high"] spRange) (d_check_range : Def P w K mg base "check_range" 1 ["number", "low", "high"] spRange) :
    FnOk P w K mg base CX0 9 f (PySem.W.fnX "__init__" "BidRule.__init__" (defArgs s_BidRule_init) (defBody s_BidRule_init) (defScope s_BidRule_init) [("__class__", cc)] dV kV doc pm an (.ref cda) ct) ("self" :: brPs) (spInitBrL K C CL CT) := by
  refine fn_superO (N := brNs) (k := 8) lk hcd hcode hvs hfile hcell sc_BidRule_init rfl rfl rfl htop hsup O FR (fun vs H Q E h => ?_) (fun A outer s H vs Q E a vs' hr e h => ?_) (fun _ => rfl) (fun _ => rfl) (fun _ => rfl)
  · obtain ⟨p, a, b, c, wa, dx, nm, lim, ls, hs, d1, d2, d3, gv, zs, ks, es, ts, rfl, hp, _⟩ := h
    exact ⟨p, _, dx, _, rfl, rfl, hp⟩
  · subst e
    obtain ⟨p, a', b, c, wa, dx, nm, lim, ls, hs, d1, d2, d3, gv, zs, ks, es, ts, ev, hp, g, ok, z4, hnm, hlim, knd, ksub, hd1, hd2, hd3, h1, h3, hW, lW, bW, q⟩ := h
    cases ev
    refine ⟨_, _, hr, pa_cons (pv 1) (pa_cons (pv 2) (pa_cons (pv 6) (pa_cons (pv 7) (pa_cons (pv 8) (pa_cons (pv 9) (pa_cons (pv 10) (pa_cons (pv 11) pa_nil))))))), PSs.nox (pss_cons (ps_fld (pv 0) (pe_callTy call_tuple_of (by rfl) m_tuple (by decide +kernel) (pa_cons (pe_ifExp (pt_cmpR op_isN (pv 3) pe_non (nomark _)) (pe_op op_rep (pe_lst (pa_cons pe_int pa_nil)) (pe_callB call_len_seq (by rfl) m_len (by decide +kernel) (pa_cons (pv 2) pa_nil))) (pv 3)) pa_nil)) rfl)
  (pss_cons (ps_expr (pe_callD d_check_size (hr.mono (by decide)) (by rfl) (pa_cons (pe_callB call_len_seq (by rfl) m_len (by decide +kernel) (pa_cons (pe_fld (pv 0) rfl) pa_nil)) (pa_cons (pe_callB call_len_seq (by rfl) m_len (by decide +kernel) (pa_cons (pv 2) pa_nil)) (pa_cons (pe_callB call_len_seq (by rfl) m_len (by decide +kernel) (pa_cons (pv 2) pa_nil)) pa_nil)))))
  (pss_cons (ps_for PassesOwn.never rfl (pi_tup (pe_fld (pv 0) rfl)) (pg_name (i := 13) sc_BidRule_init.nd rfl (.inl rfl))
    (pss_one (ps_expr (pe_callD d_check_range (hr.mono (by decide)) (by rfl) (pa_cons (pv 13) (pa_cons pe_int (pa_cons pe_int pa_nil)))))))
  (pss_cons (ps_expr (pe_callD d_check_range (hr.mono (by decide)) (by rfl) (pa_cons (pv 4) (pa_cons pe_int (pa_cons pe_int pa_nil)))))
  (pss_cons (ps_fld (pv 0) (pv 4) rfl)
  (pss_one (ps_fld (pv 0) (pv 5) rfl))))))), ?_⟩
    refine ⟨_, rfl, _, rfl, _, rfl, _, rfl, _, rfl, _, rfl, _, rfl, _, rfl, ?_⟩
    refine ⟨a, a', b, c, dx, nm, lim, d1, d2, d3, zs, ks, es, ts, rfl, hp, g, ok, z4, hnm, hlim, knd, ksub, hd1, hd2, hd3, fun H' hr' sp => ?_⟩
    obtain ⟨dx', m, bt, l, ht, fs, hh, hp', k1, k2, k3, k4, ⟨l9, c9⟩, hm, hbt, hl, tk, hmin, kn, kq, kd, kf, ks'⟩ := hr'
    have gm := sqL_frame g.m hp sp
    have zl : (zs.map vN).length = zs.length := List.length_map ..
    have hW' := sqL_frame hW hp sp
    refine ⟨_, rfl, rfl, _, rfl, ?_⟩
    rw [decide_eq_false (show ¬ V.ref wa = V.non from nofun)]
    refine iteF ⟨_, rfl, wa, _, rfl, .inl ⟨hW', fun wt nwt => ?_⟩⟩
    have s13 := same_upd (o := .tup (ls.map V.int)) nwt
    have ew : (upd H' wt (.tup (ls.map V.int))) wt = some (.tup (ls.map V.int)) := upd_same
    generalize upd H' wt (.tup (ls.map V.int)) = H3 at s13 ew ⊢
    have p3 := s13 _ _ hp'
    have gm3 := s13.seq gm
    have hm3 := hm.same s13
    have hbt3 := s13 _ _ hbt
    have lk3 := lk_same hl s13
    have tk3 : TkF K CT H3 ht zs hh := by
      obtain ⟨ts', t1, t2⟩ := tk
      exact ⟨ts', t1.same s13, t2⟩
    have f3 := sp.trans (same_p (p := a) s13)
    have nl : l ≠ a := fun z => by
      obtain ⟨d, x1, x2, x3, y1, _⟩ := hl
      rw [z, hp'] at y1
      cases y1
      rw [fldsL_barred] at k2
      cases k2
    have nht : ht ≠ a := fun z => by
      obtain ⟨ts', ⟨d, x1, x2, x3, y1, _⟩, _⟩ := tk
      rw [z, hp'] at y1
      cases y1
      rw [fldsT_barred] at k2
      cases k2
    have fs3 := fs
    have l3 := l9
    have ka3 := k1
    have kb3 := k2
    have kl3 := k3
    have kt3 := k4
    refine ⟨_, rfl, a, C, dx', _, rfl, p3, T.cl, nW, by omega, ?_⟩
    have e4 := samep_upd (p := a) (H := H3) (o := .ins C dx' (putF "weights" (.ref wt) fs))
    have f4 := f3.trans e4
    have hm4 := tl_frame hm3 p3 e4
    have hbt4 := e4 _ _ hbt3 (ne_of hbt3 p3 (by intro z; cases z))
    have lk4 := lk_frame lk3 p3 nl e4
    have tk4 := tk_frame tk3 p3 nht e4
    have p4 : (upd H3 a (.ins C dx' (putF "weights" (.ref wt) fs))) a = some (.ins C dx' (putF "weights" (.ref wt) fs)) := upd_same
    generalize upd H3 a (.ins C dx' (putF "weights" (.ref wt) fs)) = H4 at e4 f4 hm4 hbt4 lk4 tk4 p4 ⊢
    have l4 : (putF "weights" (.ref wt) fs).length ≤ 10 := put_len l3
    have c4 : Clean (putF "weights" (.ref wt) fs) := c9.put (by decide +kernel)
    have kn4 : (putF "weights" (.ref wt) fs).lookup ("name" : Str) = some (vN nm) := put_ne kn (by decide +kernel)
    have kq4 : (putF "weights" (.ref wt) fs).lookup ("limit" : Str) = some (capV lim) := put_ne kq (by decide +kernel)
    have kd4 : (putF "weights" (.ref wt) fs).lookup ("deposit" : Str) = some (.int d1) := put_ne kd (by decide +kernel)
    have kf4 : (putF "weights" (.ref wt) fs).lookup ("fee" : Str) = some (.int d2) := put_ne kf (by decide +kernel)
    have ks4 : (putF "weights" (.ref wt) fs).lookup ("start" : Str) = some (.int d3) := put_ne ks' (by decide +kernel)
    have ka4 : (putF "weights" (.ref wt) fs).lookup ("members" : Str) = some (.ref m) := put_ne ka3 (by decide +kernel)
    have kb4 : (putF "weights" (.ref wt) fs).lookup ("barred" : Str) = some (.ref bt) := put_ne kb3 (by decide +kernel)
    have kl4 : (putF "weights" (.ref wt) fs).lookup ("links" : Str) = some (.ref l) := put_ne kl3 (by decide +kernel)
    have kt4 : (putF "weights" (.ref wt) fs).lookup ("_hand_tolls" : Str) = some (.ref ht) := put_ne kt3 (by decide +kernel)
    have kw4 : (putF "weights" (.ref wt) fs).lookup ("weights" : Str) = some (.ref wt) := put_same _ _ _
    have ew4 := e4 _ _ ew (ne_of ew p3 (by intro z; cases z))
    have gm4 := sqL_frame gm3 p3 e4
    generalize putF "weights" (.ref wt) fs = fs4 at e4 p4 l4 c4 ka4 kb4 kl4 kt4 kw4 kn4 kq4 kd4 kf4 ks4
    have wl : (ls.map V.int).length = zs.length := by rw [List.length_map]; exact lW
    refine ⟨_, rfl, a, C, dx', _, _, rfl, p4, T.cl, nW, kw4, wt, _, rfl, .inr (tupAt ew4), _, rfl, a', _, rfl, .inl gm4, _, rfl, a', _, rfl, .inl gm4, _, _, _, rfl, by omega, by omega, ?_⟩
    refine ⟨_, rfl, a, C, dx', _, _, rfl, p4, T.cl, nW, kw4, wt, rfl, ⟨_, tupAt ew4⟩, for_tup (K := K) (a := wt) (xs := ls.map V.int) (fun i σ H' => ∃ y13 : Option V, σ = [some (.ref a), some (vN nm), some (.ref a'), some (.ref wa), some (.int hs), some gv, some (capV lim), some (.ref b), some (.ref c), some (.int d1), some (.int d2), some (.int d3), some (.ref D), y13] ∧ H' = H4) ⟨_, rfl, rfl⟩ (fun i σ H' _ hq => ?_) ?_ ?_⟩
    · obtain ⟨_, rfl, rfl⟩ := hq
      exact tupAt ew4
    · rintro i v σ H' hx ⟨y13, rfl, rfl⟩
      obtain ⟨x, mx, rfl⟩ := List.mem_map.mp (List.mem_of_getElem? hx)
      exact ⟨_, rfl, x, 1, 1000, rfl, (bW x mx).1, (bW x mx).2, _, rfl, rfl⟩
    rintro σ H4 ⟨y13, rfl, rfl⟩
    refine ⟨_, rfl, hs, 1, 3, rfl, h1, h3, ?_⟩
    refine ⟨_, rfl, _, rfl, a, C, dx', _, rfl, p4, T.cl, nH, by omega, ?_⟩
    have e5 := samep_upd (p := a) (H := H4) (o := .ins C dx' (putF "hours" (.int hs) fs4))
    have f5 := f4.trans e5
    have hm5 := tl_frame hm4 p4 e5
    have hbt5 := e5 _ _ hbt4 (ne_of hbt4 p4 (by intro z; cases z))
    have lk5 := lk_frame lk4 p4 nl e5
    have tk5 := tk_frame tk4 p4 nht e5
    have p5 : (upd H4 a (.ins C dx' (putF "hours" (.int hs) fs4))) a = some (.ins C dx' (putF "hours" (.int hs) fs4)) := upd_same
    generalize upd H4 a (.ins C dx' (putF "hours" (.int hs) fs4)) = H5 at e5 f5 hm5 hbt5 lk5 tk5 p5 ⊢
    have l5 : (putF "hours" (.int hs) fs4).length ≤ 11 := put_len l4
    have c5 : Clean (putF "hours" (.int hs) fs4) := c4.put (by decide +kernel)
    have kn5 : (putF "hours" (.int hs) fs4).lookup ("name" : Str) = some (vN nm) := put_ne kn4 (by decide +kernel)
    have kq5 : (putF "hours" (.int hs) fs4).lookup ("limit" : Str) = some (capV lim) := put_ne kq4 (by decide +kernel)
    have kd5 : (putF "hours" (.int hs) fs4).lookup ("deposit" : Str) = some (.int d1) := put_ne kd4 (by decide +kernel)
    have kf5 : (putF "hours" (.int hs) fs4).lookup ("fee" : Str) = some (.int d2) := put_ne kf4 (by decide +kernel)
    have ks5 : (putF "hours" (.int hs) fs4).lookup ("start" : Str) = some (.int d3) := put_ne ks4 (by decide +kernel)
    have ka5 : (putF "hours" (.int hs) fs4).lookup ("members" : Str) = some (.ref m) := put_ne ka4 (by decide +kernel)
    have kb5 : (putF "hours" (.int hs) fs4).lookup ("barred" : Str) = some (.ref bt) := put_ne kb4 (by decide +kernel)
    have kl5 : (putF "hours" (.int hs) fs4).lookup ("links" : Str) = some (.ref l) := put_ne kl4 (by decide +kernel)
    have kw5 : (putF "hours" (.int hs) fs4).lookup ("weights" : Str) = some (.ref wt) := put_ne kw4 (by decide +kernel)
    have kh5 : (putF "hours" (.int hs) fs4).lookup ("hours" : Str) = some (.int hs) := put_same _ _ _
    have ew5 := e5 _ _ ew4 (ne_of ew4 p4 (by intro z; cases z))
    have kt5 : (putF "hours" (.int hs) fs4).lookup ("_hand_tolls" : Str) = some (.ref ht) := put_ne kt4 (by decide +kernel)
    generalize (putF "hours" (.int hs) fs4) = fs5 at e5 p5 l5 c5 ka5 kb5 kl5 kt5 kw5 kh5 kn5 kq5 kd5 kf5 ks5
    refine ⟨_, rfl, _, rfl, a, C, dx', _, rfl, p5, T.cl, nG, by omega, ?_⟩
    have e6 := samep_upd (p := a) (H := H5) (o := .ins C dx' (putF "guests" gv fs5))
    have f6 := f5.trans e6
    have hm6 := tl_frame hm5 p5 e6
    have hbt6 := e6 _ _ hbt5 (ne_of hbt5 p5 (by intro z; cases z))
    have lk6 := lk_frame lk5 p5 nl e6
    have tk6 := tk_frame tk5 p5 nht e6
    have p6 : (upd H5 a (.ins C dx' (putF "guests" gv fs5))) a = some (.ins C dx' (putF "guests" gv fs5)) := upd_same
    generalize upd H5 a (.ins C dx' (putF "guests" gv fs5)) = H6 at e6 f6 hm6 hbt6 lk6 tk6 p6 ⊢
    have l6 : (putF "guests" gv fs5).length ≤ 12 := put_len l5
    have c6 : Clean (putF "guests" gv fs5) := c5.put (by decide +kernel)
    have kn6 : (putF "guests" gv fs5).lookup ("name" : Str) = some (vN nm) := put_ne kn5 (by decide +kernel)
    have kq6 : (putF "guests" gv fs5).lookup ("limit" : Str) = some (capV lim) := put_ne kq5 (by decide +kernel)
    have kd6 : (putF "guests" gv fs5).lookup ("deposit" : Str) = some (.int d1) := put_ne kd5 (by decide +kernel)
    have kf6 : (putF "guests" gv fs5).lookup ("fee" : Str) = some (.int d2) := put_ne kf5 (by decide +kernel)
    have ks6 : (putF "guests" gv fs5).lookup ("start" : Str) = some (.int d3) := put_ne ks5 (by decide +kernel)
    have ka6 : (putF "guests" gv fs5).lookup ("members" : Str) = some (.ref m) := put_ne ka5 (by decide +kernel)
    have kb6 : (putF "guests" gv fs5).lookup ("barred" : Str) = some (.ref bt) := put_ne kb5 (by decide +kernel)
    have kl6 : (putF "guests" gv fs5).lookup ("links" : Str) = some (.ref l) := put_ne kl5 (by decide +kernel)
    have kw6 : (putF "guests" gv fs5).lookup ("weights" : Str) = some (.ref wt) := put_ne kw5 (by decide +kernel)
    have kh6 : (putF "guests" gv fs5).lookup ("hours" : Str) = some (.int hs) := put_ne kh5 (by decide +kernel)
    have kg6 : (putF "guests" gv fs5).lookup ("guests" : Str) = some gv := put_same _ _ _
    have ew6 := e6 _ _ ew5 (ne_of ew5 p5 (by intro z; cases z))
    have kt6 : (putF "guests" gv fs5).lookup ("_hand_tolls" : Str) = some (.ref ht) := put_ne kt5 (by decide +kernel)
    generalize (putF "guests" gv fs5) = fs6 at e6 p6 l6 c6 ka6 kb6 kl6 kt6 kw6 kh6 kg6 kn6 kq6 kd6 kf6 ks6
    exact q _ ⟨dx', m, bt, l, ht, wt, _, hh, p6, ka6, kb6, kl6, kt6, ⟨l6, c6⟩, hm6, hbt6, lk6, tk6, hmin, kn6, kq6, kd6, kf6, ks6, kw6, ew6, kh6, kg6⟩ f6
end
end TK

/-! BidRule.__init__, its weights in a list -/
namespace TK
open PySem PySem.Spec PyProof.Rows L2 NdefX
section
variable {P : Program} {w : World} {K : PySem.W.Frag} {mg : Str → Option Value} {base : Heap}
def spInitBrN (K : PySem.W.Frag) (C CL CT : Addr) : Sp := fun vs H Q _ => ∃ (p a b c dx : Addr) (nm : Nam) (lim : Option Int) (hs d1 d2 d3 : Int) (gv : V) (zs ks : List Nam) (es : List Addr) (ts : List Tie), vs = [.ref p, vN nm, .ref a, .non, .int hs, gv, capV lim, .ref b, .ref c, .int d1, .int d2, .int d3] ∧ H p = some (.ins C dx []) ∧ Gd K H a b c zs ks es ts ∧ LOk zs ts ∧ zs.length ≤ 4 ∧ Nm nm ∧
  (∀ v, lim = some v → 0 ≤ v ∧ v ≤ 3) ∧ ks.Nodup ∧ (∀ x ∈ ks, x ∈ zs) ∧ (0 ≤ d1 ∧ d1 ≤ 1000000000) ∧ (0 ≤ d2 ∧ d2 ≤ 1000000000) ∧ (0 ≤ d3 ∧ d3 ≤ 1000000000) ∧ 1 ≤ hs ∧ hs ≤ 3 ∧
  ∀ H', BrX K C CL CT H' p zs (zs.filter fun z => decide (z ∈ ks)) ts (List.replicate zs.length 1) hs gv nm lim d1 d2 d3 → SameP p H H' → Q .non H'
theorem ok_BidRule_initN {f C CL CT D f2 cc cda : Addr} {oc ccl cl dV kV doc pm ct : Value} {an od cdd cld : Option Addr} {osl ccs csl : Array (Option Value)} {vs0 : Array Value} {tf : Tok} {file : Str}
    (lk : K.lookup f = some ⟨oc, od, .func (PySem.W.fnX "__init__" "BidRule.__init__" (defArgs s_BidRule_init) (defBody s_BidRule_init) (defScope s_BidRule_init) [("__class__", cc)] dV kV doc pm an (.ref cda) ct), osl⟩) (hcd : PySem.W.codeIn K (.ref cda) "BidRule.__init__" = true)
    (hcode : K.lookup cda = some ⟨ccl, cdd, .fields vs0, ccs⟩) (hvs : vs0[2]? = some (.str file tf)) (hfile : ((P.main.file : Str) == file) = true) (hcell : K.lookup cc = some ⟨cl, cld, .cell (some (.ref D)), csl⟩)
    (htop : (P.main.scope.names.lookup ("super" : Str)).isSome = false) (hsup : mg "super" = none) (O : SupO K C D f2) (FR : FnR P w K mg base CX0 8 f2 (spInitRu K C CL CT)) (T : TxtRu K C) (nW : NoAttr K C "weights") (nH : NoAttr K C "hours") (nG : NoAttr K C "guests")
    (m_tuple : mg "tuple" = none) (m_len : mg "len" = none) (d_check_size : Def P w K mg base "check_size" 1 ["size", "low", "high"] spRange) (d_check_range : Def P w K mg base "check_range" 1 ["number", "low", "high"] spRange) :
    FnOk P w K mg base CX0 9 f (PySem.W.fnX "__init__" "BidRule.__init__" (defArgs s_BidRule_init) (defBody s_BidRule_init) (defScope s_BidRule_init) [("__class__", cc)] dV kV doc pm an (.ref cda) ct) ("self" :: brPs) (spInitBrN K C CL CT) := by
  refine fn_superO (N := brNs) (k := 8) lk hcd hcode hvs hfile hcell sc_BidRule_init rfl rfl rfl htop hsup O FR (fun vs H Q E h => ?_) (fun A outer s H vs Q E a vs' hr e h => ?_) (fun _ => rfl) (fun _ => rfl) (fun _ => rfl)
  · obtain ⟨p, a, b, c, dx, nm, lim, hs, d1, d2, d3, gv, zs, ks, es, ts, rfl, hp, _⟩ := h
    exact ⟨p, _, dx, _, rfl, rfl, hp⟩
  · subst e
    obtain ⟨p, a', b, c, dx, nm, lim, hs, d1, d2, d3, gv, zs, ks, es, ts, ev, hp, g, ok, z4, hnm, hlim, knd, ksub, hd1, hd2, hd3, h1, h3, q⟩ := h
    cases ev
    refine ⟨_, _, hr, pa_cons (pv 1) (pa_cons (pv 2) (pa_cons (pv 6) (pa_cons (pv 7) (pa_cons (pv 8) (pa_cons (pv 9) (pa_cons (pv 10) (pa_cons (pv 11) pa_nil))))))), PSs.nox (pss_cons (ps_fld (pv 0) (pe_callTy call_tuple_of (by rfl) m_tuple (by decide +kernel) (pa_cons (pe_ifExp (pt_cmpR op_isN (pv 3) pe_non (nomark _)) (pe_op op_rep (pe_lst (pa_cons pe_int pa_nil)) (pe_callB call_len_seq (by rfl) m_len (by decide +kernel) (pa_cons (pv 2) pa_nil))) (pv 3)) pa_nil)) rfl)
  (pss_cons (ps_expr (pe_callD d_check_size (hr.mono (by decide)) (by rfl) (pa_cons (pe_callB call_len_seq (by rfl) m_len (by decide +kernel) (pa_cons (pe_fld (pv 0) rfl) pa_nil)) (pa_cons (pe_callB call_len_seq (by rfl) m_len (by decide +kernel) (pa_cons (pv 2) pa_nil)) (pa_cons (pe_callB call_len_seq (by rfl) m_len (by decide +kernel) (pa_cons (pv 2) pa_nil)) pa_nil)))))
  (pss_cons (ps_for PassesOwn.never rfl (pi_tup (pe_fld (pv 0) rfl)) (pg_name (i := 13) sc_BidRule_init.nd rfl (.inl rfl))
    (pss_one (ps_expr (pe_callD d_check_range (hr.mono (by decide)) (by rfl) (pa_cons (pv 13) (pa_cons pe_int (pa_cons pe_int pa_nil)))))))
  (pss_cons (ps_expr (pe_callD d_check_range (hr.mono (by decide)) (by rfl) (pa_cons (pv 4) (pa_cons pe_int (pa_cons pe_int pa_nil)))))
  (pss_cons (ps_fld (pv 0) (pv 4) rfl)
  (pss_one (ps_fld (pv 0) (pv 5) rfl))))))), ?_⟩
    refine ⟨_, rfl, _, rfl, _, rfl, _, rfl, _, rfl, _, rfl, _, rfl, _, rfl, ?_⟩
    refine ⟨a, a', b, c, dx, nm, lim, d1, d2, d3, zs, ks, es, ts, rfl, hp, g, ok, z4, hnm, hlim, knd, ksub, hd1, hd2, hd3, fun H' hr' sp => ?_⟩
    obtain ⟨dx', m, bt, l, ht, fs, hh, hp', k1, k2, k3, k4, ⟨l9, c9⟩, hm, hbt, hl, tk, hmin, kn, kq, kd, kf, ks'⟩ := hr'
    have gm := sqL_frame g.m hp sp
    have zl : (zs.map vN).length = zs.length := List.length_map ..
    obtain ⟨ls, els⟩ : ∃ ls : List Int, ls = List.replicate zs.length 1 := ⟨_, rfl⟩
    rw [← els] at q
    have lW : ls.length = zs.length := by rw [els, List.length_replicate]
    have bW : ∀ x ∈ ls, 1 ≤ x ∧ x ≤ 1000 := fun x m => by
      rw [els] at m
      rw [List.eq_of_mem_replicate m]
      exact ⟨by decide, by decide⟩
    refine ⟨_, rfl, rfl, _, rfl, ?_⟩
    rw [decide_eq_true rfl]
    refine iteT ⟨(show (1 : Nat) ≤ sizeLine by decide), fun L1 n1 => ?_⟩
    have s1 := same_upd (o := .lst [V.int 1]) n1
    have e1 : (upd H' L1 (.lst [V.int 1])) L1 = some (.lst [V.int 1]) := upd_same
    generalize upd H' L1 (.lst [V.int 1]) = H1 at s1 e1 ⊢
    refine ⟨_, rfl, a', _, rfl, .inl (s1.seq gm), L1, _, [V.int 1], rfl, rfl, e1, by omega, by omega, by rw [Int.toNat_natCast, zl]; exact Nat.le_of_lt (small1000 (by show 1 * zs.length ≤ 1000; omega)), fun L2 n2 => ?_⟩
    have hw : (List.replicate (Int.toNat ((zs.map vN).length : Int)) [V.int 1]).flatten = List.replicate zs.length (V.int 1) := by simp
    rw [hw]
    have s2 := same_upd (o := .lst (List.replicate zs.length (V.int 1))) n2
    have e2 : (upd H1 L2 (.lst (List.replicate zs.length (V.int 1)))) L2 = some (.lst (List.replicate zs.length (V.int 1))) := upd_same
    generalize upd H1 L2 (.lst (List.replicate zs.length (V.int 1))) = H2 at s2 e2 ⊢
    refine ⟨L2, _, rfl, .inl ⟨lstAt e2, fun wt nwt => ?_⟩⟩
    have s3 := same_upd (o := .tup (List.replicate zs.length (V.int 1))) nwt
    have ew : (upd H2 wt (.tup (List.replicate zs.length (V.int 1)))) wt = some (.tup (List.replicate zs.length (V.int 1))) := upd_same
    generalize upd H2 wt (.tup (List.replicate zs.length (V.int 1))) = H3 at s3 ew ⊢
    have s13 := s1.trans (s2.trans s3)
    rw [show List.replicate zs.length (V.int 1) = ls.map V.int by rw [els, List.map_replicate]] at ew
    have p3 := s13 _ _ hp'
    have gm3 := s13.seq gm
    have hm3 := hm.same s13
    have hbt3 := s13 _ _ hbt
    have lk3 := lk_same hl s13
    have tk3 : TkF K CT H3 ht zs hh := by
      obtain ⟨ts', t1, t2⟩ := tk
      exact ⟨ts', t1.same s13, t2⟩
    have f3 := sp.trans (same_p (p := a) s13)
    have nl : l ≠ a := fun z => by
      obtain ⟨d, x1, x2, x3, y1, _⟩ := hl
      rw [z, hp'] at y1
      cases y1
      rw [fldsL_barred] at k2
      cases k2
    have nht : ht ≠ a := fun z => by
      obtain ⟨ts', ⟨d, x1, x2, x3, y1, _⟩, _⟩ := tk
      rw [z, hp'] at y1
      cases y1
      rw [fldsT_barred] at k2
      cases k2
    have fs3 := fs
    have l3 := l9
    have ka3 := k1
    have kb3 := k2
    have kl3 := k3
    have kt3 := k4
    refine ⟨_, rfl, a, C, dx', _, rfl, p3, T.cl, nW, by omega, ?_⟩
    have e4 := samep_upd (p := a) (H := H3) (o := .ins C dx' (putF "weights" (.ref wt) fs))
    have f4 := f3.trans e4
    have hm4 := tl_frame hm3 p3 e4
    have hbt4 := e4 _ _ hbt3 (ne_of hbt3 p3 (by intro z; cases z))
    have lk4 := lk_frame lk3 p3 nl e4
    have tk4 := tk_frame tk3 p3 nht e4
    have p4 : (upd H3 a (.ins C dx' (putF "weights" (.ref wt) fs))) a = some (.ins C dx' (putF "weights" (.ref wt) fs)) := upd_same
    generalize upd H3 a (.ins C dx' (putF "weights" (.ref wt) fs)) = H4 at e4 f4 hm4 hbt4 lk4 tk4 p4 ⊢
    have l4 : (putF "weights" (.ref wt) fs).length ≤ 10 := put_len l3
    have c4 : Clean (putF "weights" (.ref wt) fs) := c9.put (by decide +kernel)
    have kn4 : (putF "weights" (.ref wt) fs).lookup ("name" : Str) = some (vN nm) := put_ne kn (by decide +kernel)
    have kq4 : (putF "weights" (.ref wt) fs).lookup ("limit" : Str) = some (capV lim) := put_ne kq (by decide +kernel)
    have kd4 : (putF "weights" (.ref wt) fs).lookup ("deposit" : Str) = some (.int d1) := put_ne kd (by decide +kernel)
    have kf4 : (putF "weights" (.ref wt) fs).lookup ("fee" : Str) = some (.int d2) := put_ne kf (by decide +kernel)
    have ks4 : (putF "weights" (.ref wt) fs).lookup ("start" : Str) = some (.int d3) := put_ne ks' (by decide +kernel)
    have ka4 : (putF "weights" (.ref wt) fs).lookup ("members" : Str) = some (.ref m) := put_ne ka3 (by decide +kernel)
    have kb4 : (putF "weights" (.ref wt) fs).lookup ("barred" : Str) = some (.ref bt) := put_ne kb3 (by decide +kernel)
    have kl4 : (putF "weights" (.ref wt) fs).lookup ("links" : Str) = some (.ref l) := put_ne kl3 (by decide +kernel)
    have kt4 : (putF "weights" (.ref wt) fs).lookup ("_hand_tolls" : Str) = some (.ref ht) := put_ne kt3 (by decide +kernel)
    have kw4 : (putF "weights" (.ref wt) fs).lookup ("weights" : Str) = some (.ref wt) := put_same _ _ _
    have ew4 := e4 _ _ ew (ne_of ew p3 (by intro z; cases z))
    have gm4 := sqL_frame gm3 p3 e4
    generalize putF "weights" (.ref wt) fs = fs4 at e4 p4 l4 c4 ka4 kb4 kl4 kt4 kw4 kn4 kq4 kd4 kf4 ks4
    have wl : (ls.map V.int).length = zs.length := by rw [List.length_map]; exact lW
    refine ⟨_, rfl, a, C, dx', _, _, rfl, p4, T.cl, nW, kw4, wt, _, rfl, .inr (tupAt ew4), _, rfl, a', _, rfl, .inl gm4, _, rfl, a', _, rfl, .inl gm4, _, _, _, rfl, by omega, by omega, ?_⟩
    refine ⟨_, rfl, a, C, dx', _, _, rfl, p4, T.cl, nW, kw4, wt, rfl, ⟨_, tupAt ew4⟩, for_tup (K := K) (a := wt) (xs := ls.map V.int) (fun i σ H' => ∃ y13 : Option V, σ = [some (.ref a), some (vN nm), some (.ref a'), some .non, some (.int hs), some gv, some (capV lim), some (.ref b), some (.ref c), some (.int d1), some (.int d2), some (.int d3), some (.ref D), y13] ∧ H' = H4) ⟨_, rfl, rfl⟩ (fun i σ H' _ hq => ?_) ?_ ?_⟩
    · obtain ⟨_, rfl, rfl⟩ := hq
      exact tupAt ew4
    · rintro i v σ H' hx ⟨y13, rfl, rfl⟩
      obtain ⟨x, mx, rfl⟩ := List.mem_map.mp (List.mem_of_getElem? hx)
      exact ⟨_, rfl, x, 1, 1000, rfl, (bW x mx).1, (bW x mx).2, _, rfl, rfl⟩
    rintro σ H4 ⟨y13, rfl, rfl⟩
    refine ⟨_, rfl, hs, 1, 3, rfl, h1, h3, ?_⟩
    refine ⟨_, rfl, _, rfl, a, C, dx', _, rfl, p4, T.cl, nH, by omega, ?_⟩
    have e5 := samep_upd (p := a) (H := H4) (o := .ins C dx' (putF "hours" (.int hs) fs4))
    have f5 := f4.trans e5
    have hm5 := tl_frame hm4 p4 e5
    have hbt5 := e5 _ _ hbt4 (ne_of hbt4 p4 (by intro z; cases z))
    have lk5 := lk_frame lk4 p4 nl e5
    have tk5 := tk_frame tk4 p4 nht e5
    have p5 : (upd H4 a (.ins C dx' (putF "hours" (.int hs) fs4))) a = some (.ins C dx' (putF "hours" (.int hs) fs4)) := upd_same
    generalize upd H4 a (.ins C dx' (putF "hours" (.int hs) fs4)) = H5 at e5 f5 hm5 hbt5 lk5 tk5 p5 ⊢
    have l5 : (putF "hours" (.int hs) fs4).length ≤ 11 := put_len l4
    have c5 : Clean (putF "hours" (.int hs) fs4) := c4.put (by decide +kernel)
    have kn5 : (putF "hours" (.int hs) fs4).lookup ("name" : Str) = some (vN nm) := put_ne kn4 (by decide +kernel)
    have kq5 : (putF "hours" (.int hs) fs4).lookup ("limit" : Str) = some (capV lim) := put_ne kq4 (by decide +kernel)
    have kd5 : (putF "hours" (.int hs) fs4).lookup ("deposit" : Str) = some (.int d1) := put_ne kd4 (by decide +kernel)
    have kf5 : (putF "hours" (.int hs) fs4).lookup ("fee" : Str) = some (.int d2) := put_ne kf4 (by decide +kernel)
    have ks5 : (putF "hours" (.int hs) fs4).lookup ("start" : Str) = some (.int d3) := put_ne ks4 (by decide +kernel)
    have ka5 : (putF "hours" (.int hs) fs4).lookup ("members" : Str) = some (.ref m) := put_ne ka4 (by decide +kernel)
    have kb5 : (putF "hours" (.int hs) fs4).lookup ("barred" : Str) = some (.ref bt) := put_ne kb4 (by decide +kernel)
    have kl5 : (putF "hours" (.int hs) fs4).lookup ("links" : Str) = some (.ref l) := put_ne kl4 (by decide +kernel)
    have kw5 : (putF "hours" (.int hs) fs4).lookup ("weights" : Str) = some (.ref wt) := put_ne kw4 (by decide +kernel)
    have kh5 : (putF "hours" (.int hs) fs4).lookup ("hours" : Str) = some (.int hs) := put_same _ _ _
    have ew5 := e5 _ _ ew4 (ne_of ew4 p4 (by intro z; cases z))
    have kt5 : (putF "hours" (.int hs) fs4).lookup ("_hand_tolls" : Str) = some (.ref ht) := put_ne kt4 (by decide +kernel)
    generalize (putF "hours" (.int hs) fs4) = fs5 at e5 p5 l5 c5 ka5 kb5 kl5 kt5 kw5 kh5 kn5 kq5 kd5 kf5 ks5
    refine ⟨_, rfl, _, rfl, a, C, dx', _, rfl, p5, T.cl, nG, by omega, ?_⟩
    have e6 := samep_upd (p := a) (H := H5) (o := .ins C dx' (putF "guests" gv fs5))
    have f6 := f5.trans e6
    have hm6 := tl_frame hm5 p5 e6
    have hbt6 := e6 _ _ hbt5 (ne_of hbt5 p5 (by intro z; cases z))
    have lk6 := lk_frame lk5 p5 nl e6
    have tk6 := tk_frame tk5 p5 nht e6
    have p6 : (upd H5 a (.ins C dx' (putF "guests" gv fs5))) a = some (.ins C dx' (putF "guests" gv fs5)) := upd_same
    generalize upd H5 a (.ins C dx' (putF "guests" gv fs5)) = H6 at e6 f6 hm6 hbt6 lk6 tk6 p6 ⊢
    have l6 : (putF "guests" gv fs5).length ≤ 12 := put_len l5
    have c6 : Clean (putF "guests" gv fs5) := c5.put (by decide +kernel)
    have kn6 : (putF "guests" gv fs5).lookup ("name" : Str) = some (vN nm) := put_ne kn5 (by decide +kernel)
    have kq6 : (putF "guests" gv fs5).lookup ("limit" : Str) = some (capV lim) := put_ne kq5 (by decide +kernel)
    have kd6 : (putF "guests" gv fs5).lookup ("deposit" : Str) = some (.int d1) := put_ne kd5 (by decide +kernel)
    have kf6 : (putF "guests" gv fs5).lookup ("fee" : Str) = some (.int d2) := put_ne kf5 (by decide +kernel)
    have ks6 : (putF "guests" gv fs5).lookup ("start" : Str) = some (.int d3) := put_ne ks5 (by decide +kernel)
    have ka6 : (putF "guests" gv fs5).lookup ("members" : Str) = some (.ref m) := put_ne ka5 (by decide +kernel)
    have kb6 : (putF "guests" gv fs5).lookup ("barred" : Str) = some (.ref bt) := put_ne kb5 (by decide +kernel)
    have kl6 : (putF "guests" gv fs5).lookup ("links" : Str) = some (.ref l) := put_ne kl5 (by decide +kernel)
    have kw6 : (putF "guests" gv fs5).lookup ("weights" : Str) = some (.ref wt) := put_ne kw5 (by decide +kernel)
    have kh6 : (putF "guests" gv fs5).lookup ("hours" : Str) = some (.int hs) := put_ne kh5 (by decide +kernel)
    have kg6 : (putF "guests" gv fs5).lookup ("guests" : Str) = some gv := put_same _ _ _
    have ew6 := e6 _ _ ew5 (ne_of ew5 p5 (by intro z; cases z))
    have kt6 : (putF "guests" gv fs5).lookup ("_hand_tolls" : Str) = some (.ref ht) := put_ne kt5 (by decide +kernel)
    generalize (putF "guests" gv fs5) = fs6 at e6 p6 l6 c6 ka6 kb6 kl6 kt6 kw6 kh6 kg6 kn6 kq6 kd6 kf6 ks6
    exact q _ ⟨dx', m, bt, l, ht, wt, _, hh, p6, ka6, kb6, kl6, kt6, ⟨l6, c6⟩, hm6, hbt6, lk6, tk6, hmin, kn6, kq6, kd6, kf6, ks6, kw6, ew6, kh6, kg6⟩ f6
end
end TK

/-! BidRule.__init__, its weights in a list -/
namespace TK
open PySem PySem.Spec PyProof.Rows L2 NdefX
section
variable {P : Program} {w : World} {K : PySem.W.Frag} {mg : Str → Option Value} {base : Heap}
def spInitBrT (K : PySem.W.Frag) (C CL CT : Addr) : Sp := fun vs H Q _ => ∃ (p a b c wa dx : Addr) (nm : Nam) (lim : Option Int) (ls : List Int) (hs d1 d2 d3 : Int) (gv : V) (zs ks : List Nam) (es : List Addr) (ts : List Tie), vs = [.ref p, vN nm, .ref a, .ref wa, .int hs, gv, capV lim, .ref b, .ref c, .int d1, .int d2, .int d3] ∧ H p = some (.ins C dx []) ∧ GdT K H a b c zs ks es ts ∧ LOk zs ts ∧ zs.length ≤ 4 ∧ Nm nm ∧
  (∀ v, lim = some v → 0 ≤ v ∧ v ≤ 3) ∧ ks.Nodup ∧ (∀ x ∈ ks, x ∈ zs) ∧ (0 ≤ d1 ∧ d1 ≤ 1000000000) ∧ (0 ≤ d2 ∧ d2 ≤ 1000000000) ∧ (0 ≤ d3 ∧ d3 ≤ 1000000000) ∧ 1 ≤ hs ∧ hs ≤ 3 ∧ H wa = some (.tup (ls.map V.int)) ∧ ls.length = zs.length ∧ (∀ x ∈ ls, 1 ≤ x ∧ x ≤ 1000) ∧
  ∀ H', BrX K C CL CT H' p zs (zs.filter fun z => decide (z ∈ ks)) ts ls hs gv nm lim d1 d2 d3 → SameP p H H' → Q .non H'
theorem ok_BidRule_initT {f C CL CT D f2 cc cda : Addr} {oc ccl cl dV kV doc pm ct : Value} {an od cdd cld : Option Addr} {osl ccs csl : Array (Option Value)} {vs0 : Array Value} {tf : Tok} {file : Str}
    (lk : K.lookup f = some ⟨oc, od, .func (PySem.W.fnX "__init__" "BidRule.__init__" (defArgs s_BidRule_init) (defBody s_BidRule_init) (defScope s_BidRule_init) [("__class__", cc)] dV kV doc pm an (.ref cda) ct), osl⟩) (hcd : PySem.W.codeIn K (.ref cda) "BidRule.__init__" = true)
    (hcode : K.lookup cda = some ⟨ccl, cdd, .fields vs0, ccs⟩) (hvs : vs0[2]? = some (.str file tf)) (hfile : ((P.main.file : Str) == file) = true) (hcell : K.lookup cc = some ⟨cl, cld, .cell (some (.ref D)), csl⟩)
    (htop : (P.main.scope.names.lookup ("super" : Str)).isSome = false) (hsup : mg "super" = none) (O : SupO K C D f2) (FR : FnR P w K mg base CX0 8 f2 (spInitRuT K C CL CT)) (T : TxtRu K C) (nW : NoAttr K C "weights") (nH : NoAttr K C "hours") (nG : NoAttr K C "guests")
    (m_tuple : mg "tuple" = none) (m_len : mg "len" = none) (d_check_size : Def P w K mg base "check_size" 1 ["size", "low", "high"] spRange) (d_check_range : Def P w K mg base "check_range" 1 ["number", "low", "high"] spRange) :
    FnOk P w K mg base CX0 9 f (PySem.W.fnX "__init__" "BidRule.__init__" (defArgs s_BidRule_init) (defBody s_BidRule_init) (defScope s_BidRule_init) [("__class__", cc)] dV kV doc pm an (.ref cda) ct) ("self" :: brPs) (spInitBrT K C CL CT) := by
  refine fn_superO (N := brNs) (k := 8) lk hcd hcode hvs hfile hcell sc_BidRule_init rfl rfl rfl htop hsup O FR (fun vs H Q E h => ?_) (fun A outer s H vs Q E a vs' hr e h => ?_) (fun _ => rfl) (fun _ => rfl) (fun _ => rfl)
  · obtain ⟨p, a, b, c, wa, dx, nm, lim, ls, hs, d1, d2, d3, gv, zs, ks, es, ts, rfl, hp, _⟩ := h
    exact ⟨p, _, dx, _, rfl, rfl, hp⟩
  · subst e
    obtain ⟨p, a', b, c, wa, dx, nm, lim, ls, hs, d1, d2, d3, gv, zs, ks, es, ts, ev, hp, g, ok, z4, hnm, hlim, knd, ksub, hd1, hd2, hd3, h1, h3, hW, lW, bW, q⟩ := h
    cases ev
    refine ⟨_, _, hr, pa_cons (pv 1) (pa_cons (pv 2) (pa_cons (pv 6) (pa_cons (pv 7) (pa_cons (pv 8) (pa_cons (pv 9) (pa_cons (pv 10) (pa_cons (pv 11) pa_nil))))))), PSs.nox (pss_cons (ps_fld (pv 0) (pe_callTy call_tuple_of (by rfl) m_tuple (by decide +kernel) (pa_cons (pe_ifExp (pt_cmpR op_isN (pv 3) pe_non (nomark _)) (pe_op op_rep (pe_lst (pa_cons pe_int pa_nil)) (pe_callB call_len_seq (by rfl) m_len (by decide +kernel) (pa_cons (pv 2) pa_nil))) (pv 3)) pa_nil)) rfl)
  (pss_cons (ps_expr (pe_callD d_check_size (hr.mono (by decide)) (by rfl) (pa_cons (pe_callB call_len_seq (by rfl) m_len (by decide +kernel) (pa_cons (pe_fld (pv 0) rfl) pa_nil)) (pa_cons (pe_callB call_len_seq (by rfl) m_len (by decide +kernel) (pa_cons (pv 2) pa_nil)) (pa_cons (pe_callB call_len_seq (by rfl) m_len (by decide +kernel) (pa_cons (pv 2) pa_nil)) pa_nil)))))
  (pss_cons (ps_for PassesOwn.never rfl (pi_tup (pe_fld (pv 0) rfl)) (pg_name (i := 13) sc_BidRule_init.nd rfl (.inl rfl))
    (pss_one (ps_expr (pe_callD d_check_range (hr.mono (by decide)) (by rfl) (pa_cons (pv 13) (pa_cons pe_int (pa_cons pe_int pa_nil)))))))
  (pss_cons (ps_expr (pe_callD d_check_range (hr.mono (by decide)) (by rfl) (pa_cons (pv 4) (pa_cons pe_int (pa_cons pe_int pa_nil)))))
  (pss_cons (ps_fld (pv 0) (pv 4) rfl)
  (pss_one (ps_fld (pv 0) (pv 5) rfl))))))), ?_⟩
    refine ⟨_, rfl, _, rfl, _, rfl, _, rfl, _, rfl, _, rfl, _, rfl, _, rfl, ?_⟩
    refine ⟨a, a', b, c, dx, nm, lim, d1, d2, d3, zs, ks, es, ts, rfl, hp, g, ok, z4, hnm, hlim, knd, ksub, hd1, hd2, hd3, fun H' hr' sp => ?_⟩
    obtain ⟨dx', m, bt, l, ht, fs, hh, hp', k1, k2, k3, k4, ⟨l9, c9⟩, hm, hbt, hl, tk, hmin, kn, kq, kd, kf, ks'⟩ := hr'
    have gm := tl_frame g.m hp sp
    have zl : (zs.map vN).length = zs.length := List.length_map ..
    have ew := sp _ _ hW (ne_of hW hp (by intro z; cases z))
    refine ⟨_, rfl, rfl, _, rfl, ?_⟩
    rw [decide_eq_false (show ¬ V.ref wa = V.non from nofun)]
    refine iteF ⟨_, rfl, wa, _, rfl, .inr ⟨tupAt ew, ?_⟩⟩
    have s13 := Same.refl H'
    obtain ⟨H3, e3⟩ : ∃ H3, H3 = H' := ⟨_, rfl⟩
    rw [← e3] at ew ⊢
    have s13 : Same H' H3 := by rw [e3]; exact Same.refl _
    have p3 := s13 _ _ hp'
    have gm3 := gm.same s13
    have hm3 := hm.same s13
    have hbt3 := s13 _ _ hbt
    have lk3 := lk_same hl s13
    have tk3 : TkF K CT H3 ht zs hh := by
      obtain ⟨ts', t1, t2⟩ := tk
      exact ⟨ts', t1.same s13, t2⟩
    have f3 := sp.trans (same_p (p := a) s13)
    have nl : l ≠ a := fun z => by
      obtain ⟨d, x1, x2, x3, y1, _⟩ := hl
      rw [z, hp'] at y1
      cases y1
      rw [fldsL_barred] at k2
      cases k2
    have nht : ht ≠ a := fun z => by
      obtain ⟨ts', ⟨d, x1, x2, x3, y1, _⟩, _⟩ := tk
      rw [z, hp'] at y1
      cases y1
      rw [fldsT_barred] at k2
      cases k2
    have fs3 := fs
    have l3 := l9
    have ka3 := k1
    have kb3 := k2
    have kl3 := k3
    have kt3 := k4
    refine ⟨_, rfl, a, C, dx', _, rfl, p3, T.cl, nW, by omega, ?_⟩
    have e4 := samep_upd (p := a) (H := H3) (o := .ins C dx' (putF "weights" (.ref wa) fs))
    have f4 := f3.trans e4
    have hm4 := tl_frame hm3 p3 e4
    have hbt4 := e4 _ _ hbt3 (ne_of hbt3 p3 (by intro z; cases z))
    have lk4 := lk_frame lk3 p3 nl e4
    have tk4 := tk_frame tk3 p3 nht e4
    have p4 : (upd H3 a (.ins C dx' (putF "weights" (.ref wa) fs))) a = some (.ins C dx' (putF "weights" (.ref wa) fs)) := upd_same
    generalize upd H3 a (.ins C dx' (putF "weights" (.ref wa) fs)) = H4 at e4 f4 hm4 hbt4 lk4 tk4 p4 ⊢
    have l4 : (putF "weights" (.ref wa) fs).length ≤ 10 := put_len l3
    have c4 : Clean (putF "weights" (.ref wa) fs) := c9.put (by decide +kernel)
    have kn4 : (putF "weights" (.ref wa) fs).lookup ("name" : Str) = some (vN nm) := put_ne kn (by decide +kernel)
    have kq4 : (putF "weights" (.ref wa) fs).lookup ("limit" : Str) = some (capV lim) := put_ne kq (by decide +kernel)
    have kd4 : (putF "weights" (.ref wa) fs).lookup ("deposit" : Str) = some (.int d1) := put_ne kd (by decide +kernel)
    have kf4 : (putF "weights" (.ref wa) fs).lookup ("fee" : Str) = some (.int d2) := put_ne kf (by decide +kernel)
    have ks4 : (putF "weights" (.ref wa) fs).lookup ("start" : Str) = some (.int d3) := put_ne ks' (by decide +kernel)
    have ka4 : (putF "weights" (.ref wa) fs).lookup ("members" : Str) = some (.ref m) := put_ne ka3 (by decide +kernel)
    have kb4 : (putF "weights" (.ref wa) fs).lookup ("barred" : Str) = some (.ref bt) := put_ne kb3 (by decide +kernel)
    have kl4 : (putF "weights" (.ref wa) fs).lookup ("links" : Str) = some (.ref l) := put_ne kl3 (by decide +kernel)
    have kt4 : (putF "weights" (.ref wa) fs).lookup ("_hand_tolls" : Str) = some (.ref ht) := put_ne kt3 (by decide +kernel)
    have kw4 : (putF "weights" (.ref wa) fs).lookup ("weights" : Str) = some (.ref wa) := put_same _ _ _
    have ew4 := e4 _ _ ew (ne_of ew p3 (by intro z; cases z))
    have gm4 := tl_frame gm3 p3 e4
    generalize putF "weights" (.ref wa) fs = fs4 at e4 p4 l4 c4 ka4 kb4 kl4 kt4 kw4 kn4 kq4 kd4 kf4 ks4
    have wl : (ls.map V.int).length = zs.length := by rw [List.length_map]; exact lW
    refine ⟨_, rfl, a, C, dx', _, _, rfl, p4, T.cl, nW, kw4, wa, _, rfl, .inr (tupAt ew4), _, rfl, a', _, rfl, .inr gm4.sq, _, rfl, a', _, rfl, .inr gm4.sq, _, _, _, rfl, by omega, by omega, ?_⟩
    refine ⟨_, rfl, a, C, dx', _, _, rfl, p4, T.cl, nW, kw4, wa, rfl, ⟨_, tupAt ew4⟩, for_tup (K := K) (a := wa) (xs := ls.map V.int) (fun i σ H' => ∃ y13 : Option V, σ = [some (.ref a), some (vN nm), some (.ref a'), some (.ref wa), some (.int hs), some gv, some (capV lim), some (.ref b), some (.ref c), some (.int d1), some (.int d2), some (.int d3), some (.ref D), y13] ∧ H' = H4) ⟨_, rfl, rfl⟩ (fun i σ H' _ hq => ?_) ?_ ?_⟩
    · obtain ⟨_, rfl, rfl⟩ := hq
      exact tupAt ew4
    · rintro i v σ H' hx ⟨y13, rfl, rfl⟩
      obtain ⟨x, mx, rfl⟩ := List.mem_map.mp (List.mem_of_getElem? hx)
      exact ⟨_, rfl, x, 1, 1000, rfl, (bW x mx).1, (bW x mx).2, _, rfl, rfl⟩
    rintro σ H4 ⟨y13, rfl, rfl⟩
    refine ⟨_, rfl, hs, 1, 3, rfl, h1, h3, ?_⟩
    refine ⟨_, rfl, _, rfl, a, C, dx', _, rfl, p4, T.cl, nH, by omega, ?_⟩
    have e5 := samep_upd (p := a) (H := H4) (o := .ins C dx' (putF "hours" (.int hs) fs4))
    have f5 := f4.trans e5
    have hm5 := tl_frame hm4 p4 e5
    have hbt5 := e5 _ _ hbt4 (ne_of hbt4 p4 (by intro z; cases z))
    have lk5 := lk_frame lk4 p4 nl e5
    have tk5 := tk_frame tk4 p4 nht e5
    have p5 : (upd H4 a (.ins C dx' (putF "hours" (.int hs) fs4))) a = some (.ins C dx' (putF "hours" (.int hs) fs4)) := upd_same
    generalize upd H4 a (.ins C dx' (putF "hours" (.int hs) fs4)) = H5 at e5 f5 hm5 hbt5 lk5 tk5 p5 ⊢
    have l5 : (putF "hours" (.int hs) fs4).length ≤ 11 := put_len l4
    have c5 : Clean (putF "hours" (.int hs) fs4) := c4.put (by decide +kernel)
    have kn5 : (putF "hours" (.int hs) fs4).lookup ("name" : Str) = some (vN nm) := put_ne kn4 (by decide +kernel)
    have kq5 : (putF "hours" (.int hs) fs4).lookup ("limit" : Str) = some (capV lim) := put_ne kq4 (by decide +kernel)
    have kd5 : (putF "hours" (.int hs) fs4).lookup ("deposit" : Str) = some (.int d1) := put_ne kd4 (by decide +kernel)
    have kf5 : (putF "hours" (.int hs) fs4).lookup ("fee" : Str) = some (.int d2) := put_ne kf4 (by decide +kernel)
    have ks5 : (putF "hours" (.int hs) fs4).lookup ("start" : Str) = some (.int d3) := put_ne ks4 (by decide +kernel)
    have ka5 : (putF "hours" (.int hs) fs4).lookup ("members" : Str) = some (.ref m) := put_ne ka4 (by decide +kernel)
    have kb5 : (putF "hours" (.int hs) fs4).lookup ("barred" : Str) = some (.ref bt) := put_ne kb4 (by decide +kernel)
    have kl5 : (putF "hours" (.int hs) fs4).lookup ("links" : Str) = some (.ref l) := put_ne kl4 (by decide +kernel)
    have kw5 : (putF "hours" (.int hs) fs4).lookup ("weights" : Str) = some (.ref wa) := put_ne kw4 (by decide +kernel)
    have kh5 : (putF "hours" (.int hs) fs4).lookup ("hours" : Str) = some (.int hs) := put_same _ _ _
    have ew5 := e5 _ _ ew4 (ne_of ew4 p4 (by intro z; cases z))
    have kt5 : (putF "hours" (.int hs) fs4).lookup ("_hand_tolls" : Str) = some (.ref ht) := put_ne kt4 (by decide +kernel)
    generalize (putF "hours" (.int hs) fs4) = fs5 at e5 p5 l5 c5 ka5 kb5 kl5 kt5 kw5 kh5 kn5 kq5 kd5 kf5 ks5
    refine ⟨_, rfl, _, rfl, a, C, dx', _, rfl, p5, T.cl, nG, by omega, ?_⟩
    have e6 := samep_upd (p := a) (H := H5) (o := .ins C dx' (putF "guests" gv fs5))
    have f6 := f5.trans e6
    have hm6 := tl_frame hm5 p5 e6
    have hbt6 := e6 _ _ hbt5 (ne_of hbt5 p5 (by intro z; cases z))
    have lk6 := lk_frame lk5 p5 nl e6
    have tk6 := tk_frame tk5 p5 nht e6
    have p6 : (upd H5 a (.ins C dx' (putF "guests" gv fs5))) a = some (.ins C dx' (putF "guests" gv fs5)) := upd_same
    generalize upd H5 a (.ins C dx' (putF "guests" gv fs5)) = H6 at e6 f6 hm6 hbt6 lk6 tk6 p6 ⊢
    have l6 : (putF "guests" gv fs5).length ≤ 12 := put_len l5
    have c6 : Clean (putF "guests" gv fs5) := c5.put (by decide +kernel)
    have kn6 : (putF "guests" gv fs5).lookup ("name" : Str) = some (vN nm) := put_ne kn5 (by decide +kernel)
    have kq6 : (putF "guests" gv fs5).lookup ("limit" : Str) = some (capV lim) := put_ne kq5 (by decide +kernel)
    have kd6 : (putF "guests" gv fs5).lookup ("deposit" : Str) = some (.int d1) := put_ne kd5 (by decide +kernel)
    have kf6 : (putF "guests" gv fs5).lookup ("fee" : Str) = some (.int d2) := put_ne kf5 (by decide +kernel)
    have ks6 : (putF "guests" gv fs5).lookup ("start" : Str) = some (.int d3) := put_ne ks5 (by decide +kernel)
    have ka6 : (putF "guests" gv fs5).lookup ("members" : Str) = some (.ref m) := put_ne ka5 (by decide +kernel)
    have kb6 : (putF "guests" gv fs5).lookup ("barred" : Str) = some (.ref bt) := put_ne kb5 (by decide +kernel)
    have kl6 : (putF "guests" gv fs5).lookup ("links" : Str) = some (.ref l) := put_ne kl5 (by decide +kernel)
    have kw6 : (putF "guests" gv fs5).lookup ("weights" : Str) = some (.ref wa) := put_ne kw5 (by decide +kernel)
    have kh6 : (putF "guests" gv fs5).lookup ("hours" : Str) = some (.int hs) := put_ne kh5 (by decide +kernel)
    have kg6 : (putF "guests" gv fs5).lookup ("guests" : Str) = some gv := put_same _ _ _
    have ew6 := e6 _ _ ew5 (ne_of ew5 p5 (by intro z; cases z))
    have kt6 : (putF "guests" gv fs5).lookup ("_hand_tolls" : Str) = some (.ref ht) := put_ne kt5 (by decide +kernel)
    generalize (putF "guests" gv fs5) = fs6 at e6 p6 l6 c6 ka6 kb6 kl6 kt6 kw6 kh6 kg6 kn6 kq6 kd6 kf6 ks6
    exact q _ ⟨dx', m, bt, l, ht, wa, _, hh, p6, ka6, kb6, kl6, kt6, ⟨l6, c6⟩, hm6, hbt6, lk6, tk6, hmin, kn6, kq6, kd6, kf6, ks6, kw6, ew6, kh6, kg6⟩ f6
end
end TK

/-! a rule of bids, changed in its guests -/
namespace TK
open PySem PySem.Spec PyProof.Rows L2
theorem mergeK_new : ∀ (more acc : List (Key × V)), ((acc ++ more).map (·.1)).Nodup → mergeK acc more = acc ++ more
  | [], acc, _ => by rw [List.append_nil]; rfl
  | kv :: more, acc, nd => by
    have hn : ¬ (acc.any fun x => decide (x.1 = kv.1)) = true := by
      rw [List.any_eq_true]
      rintro ⟨x, hx, he⟩
      rw [List.map_append, List.map_cons, List.nodup_append] at nd
      exact nd.2.2 x.1 (List.mem_map.mpr ⟨x, hx, rfl⟩) kv.1 List.mem_cons_self (of_decide_eq_true he)
    have e : putK acc kv.1 kv.2 = acc ++ [kv] := by unfold putK; rw [if_neg hn]
    show mergeK (putK acc kv.1 kv.2) more = _
    rw [e, mergeK_new more (acc ++ [kv]) (by rw [List.append_assoc]; exact nd), List.append_assoc]
    rfl
/-- a rule whose other parts are as they are left out -/
def BrP (K : PySem.W.Frag) (C CL CT : Addr) (H : Hp) (p : Addr) (zs : List Nam) (ls : List Int) (hs : Int) (gv : V) (nm : Nam) : Prop := BrX K C CL CT H p zs [] [] ls hs gv nm none 0 1 0
def skK : List Str := ["limit", "barred", "links", "deposit", "fee", "start"]
def bkK : List Str := ["weights", "hours", "guests"]
theorem nd_sk : (skK.map fun k => (.inr k : Key)).Nodup := by decide +kernel
theorem nd_bk : (bkK.map fun k => (.inr k : Key)).Nodup := by decide +kernel
theorem nd_sb : ((skK ++ bkK).map fun k => (.inr k : Key)).Nodup := by decide +kernel
section
variable {P : Program} {w : World} {K : PySem.W.Frag} {mg : Str → Option Value} {base : Heap}
def spShared (K : PySem.W.Frag) (C CL CT : Addr) : Sp := fun vs H Q _ => ∃ (r : Addr) (zs : List Nam) (ls : List Int) (hs : Int) (gv : V) (nm : Nam), vs = [.ref r] ∧ BrP K C CL CT H r zs ls hs gv nm ∧
  ∀ H' p (bt lb : Addr), H p = none → Same H H' → H' bt = some (.tup []) → H' lb = some (.tup []) → H' p = some (.dK (kwV skK [.non, .ref bt, .ref lb, .int 0, .int 1, .int 0])) → Q (.ref p) H'
theorem ok_shared_parts {f C CL CT : Addr} {fd : FuncData} (F : Fun K "_shared_parts" "_shared_parts" s_shared_parts f fd) (T : TxtRu K C) (TL_ : TxtL K CL) : FnOk P w K mg base CX0 1 f fd ["rule"] (spShared K C CL CT) := by
  refine F.ok sc_shared_parts (fun vs H Q E h => ?_) (fun cdv A outer s H vs Q E hr h => ?_)
  · obtain ⟨r, zs, ls, hs, gv, nm, rfl, _⟩ := h
    rfl
  · obtain ⟨r, zs, ls, hs, gv, nm, rfl, br, q⟩ := h
    obtain ⟨dx, m, bt, l, ht, wt, fs, hh, h1, h2, h3, h4, h5, h6, h7, h8, ⟨ld, la, lb, les, l1, l2, l3, l4⟩, h10, h11, n1, n2, n3, n4, n5, w1, w2, w3, w4⟩ := br
    have e0 : les = [] := List.eq_nil_of_length_eq_zero l4.1
    subst e0
    refine ⟨_, (pss_one (ps_ret (pe_disp (pps_cons pe_str (pe_fld (pv 0) rfl) (pps_cons pe_str (pe_fld (pv 0) rfl) (pps_cons pe_str (pe_fld (pe_fld (pv 0) rfl) rfl) (pps_cons pe_str (pe_fld (pv 0) rfl) (pps_cons pe_str (pe_fld (pv 0) rfl) (pps_cons pe_str (pe_fld (pv 0) rfl) pps_nil)))))) rfl rfl nofun (by decide)))), ?_⟩
    intro p np
    have s1 := same_upd (o := .dK []) np
    have hr1 := s1 _ _ h1
    refine ⟨_, rfl, r, C, dx, _, _, rfl, hr1, T.cl, T.n3, n2, _, rfl, r, C, dx, _, _, rfl, hr1, T.cl, T.n4, h3, _, rfl, r, C, dx, _, _, rfl, hr1, T.cl, T.n5, h4, l, CL, ld, _, _, rfl, s1 _ _ l1, TL_.cl, TL_.nL, (rfl : (fldsL la lb).lookup ("links" : Str) = some (V.ref lb)), _, rfl, r, C, dx, _, _, rfl, hr1, T.cl, T.n6, n3, _, rfl, r, C, dx, _, _, rfl, hr1, T.cl, T.n7, n4, _, rfl, r, C, dx, _, _, rfl, hr1, T.cl, T.n8, n5, ?_⟩
    have em : mergeK [] (kwV skK [.non, .ref bt, .ref lb, .int 0, .int 1, .int 0]) = kwV skK [.non, .ref bt, .ref lb, .int 0, .int 1, .int 0] := mergeK_new _ [] nd_sk
    refine ⟨upd_same, kwV skK [.non, .ref bt, .ref lb, .int 0, .int 1, .int 0], rfl, Nat.le_of_ble_eq_true rfl, ?_⟩
    show Q (.ref p) (upd (upd H p (.dK [])) p (.dK (mergeK [] (kwV skK [.non, .ref bt, .ref lb, .int 0, .int 1, .int 0]))))
    rw [em, upd_upd]
    exact q _ p bt lb np (same_upd np) (same_upd np _ _ h8) (same_upd np _ _ l3) upd_same
def spBidP (K : PySem.W.Frag) (C CL CT : Addr) : Sp := fun vs H Q _ => ∃ (r : Addr) (zs : List Nam) (ls : List Int) (hs : Int) (gv : V) (nm : Nam), vs = [.ref r] ∧ BrP K C CL CT H r zs ls hs gv nm ∧
  ∀ H' p (wt : Addr), H p = none → Same H H' → H' wt = some (.tup (ls.map V.int)) → H' p = some (.dK (kwV bkK [.ref wt, .int hs, gv])) → Q (.ref p) H'
theorem ok_bid_parts {f C CL CT : Addr} {fd : FuncData} (F : Fun K "_bid_parts" "_bid_parts" s_bid_parts f fd) (T : TxtRu K C) (nW : NoAttr K C "weights") (nH : NoAttr K C "hours") (nG : NoAttr K C "guests") : FnOk P w K mg base CX0 1 f fd ["rule"] (spBidP K C CL CT) := by
  refine F.ok sc_bid_parts (fun vs H Q E h => ?_) (fun cdv A outer s H vs Q E hr h => ?_)
  · obtain ⟨r, zs, ls, hs, gv, nm, rfl, _⟩ := h
    rfl
  · obtain ⟨r, zs, ls, hs, gv, nm, rfl, br, q⟩ := h
    obtain ⟨dx, m, bt, l, ht, wt, fs, hh, h1, h2, h3, h4, h5, h6, h7, h8, _, h10, h11, n1, n2, n3, n4, n5, w1, w2, w3, w4⟩ := br
    refine ⟨_, (pss_one (ps_ret (pe_disp (pps_cons pe_str (pe_fld (pv 0) rfl) (pps_cons pe_str (pe_fld (pv 0) rfl) (pps_cons pe_str (pe_fld (pv 0) rfl) pps_nil))) rfl rfl nofun (by decide)))), ?_⟩
    intro p np
    have hr1 := same_upd (o := .dK []) np _ _ h1
    refine ⟨_, rfl, r, C, dx, _, _, rfl, hr1, T.cl, nW, w1, _, rfl, r, C, dx, _, _, rfl, hr1, T.cl, nH, w3, _, rfl, r, C, dx, _, _, rfl, hr1, T.cl, nG, w4, ?_⟩
    have em : mergeK [] (kwV bkK [.ref wt, .int hs, gv]) = kwV bkK [.ref wt, .int hs, gv] := mergeK_new _ [] nd_bk
    refine ⟨upd_same, kwV bkK [.ref wt, .int hs, gv], rfl, Nat.le_of_ble_eq_true rfl, ?_⟩
    show Q (.ref p) (upd (upd H p (.dK [])) p (.dK (mergeK [] (kwV bkK [.ref wt, .int hs, gv]))))
    rw [em, upd_upd]
    exact q _ p wt np (same_upd np) (same_upd np _ _ w2) upd_same
end
end TK

/-! a def of a class over another, called by keywords -/
namespace TK
open PySem PySem.Spec PyProof.Rows L2
section
variable {K : PySem.W.Frag} {name qual : Str} {params : Arguments} {body : List Stmt} {scope : Scope} {cl : List (Str × Addr)} {D : Addr} {doc pm cdv ct : Value} {an : Option Addr} {kws : List (Str × V)} {ps : List Str}
theorem kbX (hq : ∀ q ∈ kws, ∃ u, PySem.W.nsIn K D q.1 = some (some u) ∧ RelV q.2 u) (n : Nat) (ks : List Str) (ms : List (Str × V)) (g : {α : Type} → List α → List α → List α → List α) (hms : ∀ q ∈ ms, q ∈ kws)
    (hrel : ∀ {vs mz zs : List V} {us mv ws : List Value}, Vals vs us → Vals mz mv → Vals zs ws → Vals (g vs mz zs) (g us mv ws))
    (h : ∀ (us mv ws : List Value), us.length = n → mv.length = ms.length → ws.length = ks.length →
      KwChain D ((ms.map (·.1)).zip mv) (bindArgs (PySem.W.fnX name qual params body scope cl .none (.ref D) doc pm an cdv ct) ⟨us, ks.zip ws⟩) (ps.zip (g us mv ws))) :
    ∃ g' : List Value → List Value → List Value, KBn K (PySem.W.fnX name qual params body scope cl .none (.ref D) doc pm an cdv ct) ps n ks g' (fun vs zs => g vs (ms.map (·.2)) zs) := by
  obtain ⟨mv, hl, rk, hks⟩ := kwd_vals (ms := ms) fun q hm => hq q (hms q hm)
  exact ⟨fun us ws => g us mv ws, ⟨fun s us ws X l1 l2 => BindsTo.of_looks fun M => KwChain.looks X hks (h us mv ws l1 hl l2), fun r1 r2 => hrel r1 rk r2⟩⟩
end
end TK

/-! BidRule.changed, with other guests -/
namespace TK
open PySem PySem.Spec PyProof.Rows L2
abbrev s_BidRule_changed : Stmt := inClass (topS 36) 7
theorem sc_BidRule_changed : FnScope ["self", "parts", "kept", "own", "told"] ["self", "parts"] (defScope s_BidRule_changed) := ⟨rfl, rfl, rfl, by decide +kernel, rfl, by decide +kernel, by decide +kernel⟩
theorem putK_last {acc : List (Key × V)} {k : Key} {u v : V} (h : ((acc ++ [(k, u)]).map (·.1)).Nodup) : putK (acc ++ [(k, u)]) k v = acc ++ [(k, v)] := by
  rw [List.map_append, List.nodup_append] at h
  have hn : ∀ x ∈ acc, x.1 ≠ k := fun x m e => h.2.2 x.1 (List.mem_map.mpr ⟨x, m, rfl⟩) k (by simp) e
  unfold putK
  rw [if_pos (by rw [List.any_eq_true]; exact ⟨(k, u), by simp, decide_eq_true rfl⟩), List.map_append]
  congr 1
  · refine (List.map_congr_left (g := id) fun x m => ?_).trans (List.map_id _)
    rw [if_neg (hn x m)]; rfl
  · simp
theorem bind_changed {kV doc pm cdv ct : Value} {an : Option Addr} (u z : Value) : bindArgs (PySem.W.fnOf "changed" "BidRule.changed" (defArgs s_BidRule_changed) (defBody s_BidRule_changed) (defScope s_BidRule_changed) .none kV doc pm an cdv ct) ⟨[u], [("guests", z)]⟩ =
      ((alloc ({ cls := .type "dict", data := .dict #[] } : Obj) : Sem Addr) >>= fun d => nsSet d "guests" z >>= fun _ => pure ([("self" : Str)].zip [u] ++ [(("parts" : Str), Value.ref d)])) := by
  refine Eq.trans (b := ((alloc ({ cls := .type "dict", data := .dict #[] } : Obj) : Sem Addr) >>= fun d => (forIn [(("guests" : Str), z)] PUnit.unit (fun kv (_ : PUnit) => nsSet d kv.1 kv.2 >>= fun _ => pure (ForInStep.yield PUnit.unit))) >>= fun _ => pure ([("self" : Str)].zip [u] ++ [(("parts" : Str), Value.ref d)]))) ?_ ?_
  · kernel_rfl
  · simp only [List.forIn_cons, List.forIn_nil, bind_assoc, pure_bind]
def toldK : List Str := ["limit", "barred", "links", "deposit", "fee", "start", "weights", "hours", "guests"]
/-- the places of the parts, as told -/
def gC35 {α : Type} (us mv ws : List α) : List α := us ++ (ws.drop 6 ++ ws.take 6)
theorem bidC_kb {K : PySem.W.Frag} {cc cda D : Addr} {doc pm ct : Value} {an : Option Addr} :
    ∃ g', KBn K (PySem.W.fnX "__init__" "BidRule.__init__" (defArgs s_BidRule_init) (defBody s_BidRule_init) (defScope s_BidRule_init) [("__class__", cc)] .none (.ref D) doc pm an (.ref cda) ct) ("self" :: brPs) 3 toldK g' (fun vs zs => gC35 vs (([] : List (Str × V)).map (·.2)) zs) :=
  kbX (kws := []) (fun _ h => nomatch h) 3 toldK [] gC35 (fun _ h => h) (fun a b c => a.append ((c.drop 6).append (c.take 6))) fun us mv ws h1 h2 h3 => match us, h1, mv, h2, ws, h3 with
    | [_, _, _], _, [], _, [_, _, _, _, _, _, _, _, _], _ => rfl
def gW35 {α : Type} (us mv ws : List α) : List α := us ++ (ws ++ mv)
def msW35 (EB EL : Addr) : List (Str × V) := [("limit", .non), ("barred", .ref EB), ("links", .ref EL), ("deposit", .int 0), ("fee", .int 1), ("start", .int 0)]
theorem bidW_kb {K : PySem.W.Frag} {cc cda D EB EL : Addr} {doc pm ct : Value} {an : Option Addr} (hq : ∀ q ∈ msW35 EB EL, ∃ u, PySem.W.nsIn K D q.1 = some (some u) ∧ RelV q.2 u) :
    ∃ g', KBn K (PySem.W.fnX "__init__" "BidRule.__init__" (defArgs s_BidRule_init) (defBody s_BidRule_init) (defScope s_BidRule_init) [("__class__", cc)] .none (.ref D) doc pm an (.ref cda) ct) ("self" :: brPs) 3 ["weights", "hours", "guests"] g' (fun vs zs => gW35 vs ((msW35 EB EL).map (·.2)) zs) :=
  kbX (kws := msW35 EB EL) hq 3 ["weights", "hours", "guests"] (msW35 EB EL) gW35 (fun _ h => h) (fun a b c => a.append (c.append b)) fun us mv ws h1 h2 h3 => match us, h1, mv, h2, ws, h3 with
    | [_, _, _], _, [_, _, _, _, _, _], _, [_, _, _], _ => ⟨_, _, _, _, _, _, rfl, rfl, ⟨_, _, _, _, _, _, rfl, rfl, ⟨_, _, _, _, _, _, rfl, rfl, ⟨_, _, _, _, _, _, rfl, rfl, ⟨_, _, _, _, _, _, rfl, rfl, ⟨_, _, _, _, _, _, rfl, rfl, rfl⟩⟩⟩⟩⟩⟩
/-- what a rule with no more parts asks -/
structure BrOk (zs : List Nam) (ls : List Int) (hs : Int) (nm : Nam) : Prop where
  z4 : zs.length ≤ 4
  lk : LOk zs []
  nm : Nm nm
  h1 : 1 ≤ hs
  h3 : hs ≤ 3
  l : ls.length = zs.length
  b : ∀ x ∈ ls, 1 ≤ x ∧ x ≤ 1000
theorem BrP.same {K : PySem.W.Frag} {C CL CT : Addr} {H H' : Hp} {p : Addr} {zs : List Nam} {ls : List Int} {hs : Int} {gv : V} {nm : Nam} (h : BrP K C CL CT H p zs ls hs gv nm) (s : Same H H') : BrP K C CL CT H' p zs ls hs gv nm := BrX.same h s
section
variable {P : Program} {w : World} {K : PySem.W.Frag} {mg : Str → Option Value} {base : Heap}
def spChanged (K : PySem.W.Frag) (C CL CT : Addr) : Sp := fun vs H Q _ => ∃ (r d : Addr) (zs : List Nam) (ls : List Int) (hs : Int) (gv gv2 : V) (nm : Nam), vs = [.ref r, .ref d] ∧ H d = some (.dK [(.inr "guests", gv2)]) ∧ BrP K C CL CT H r zs ls hs gv nm ∧ BrOk zs ls hs nm ∧
  ∀ H' x, Same H H' → BrP K C CL CT H' x zs ls hs gv2 nm → Q (.ref x) H'
theorem ok_BidRule_changed {f C CL CT fB : Addr} {fdB : FuncData} {oc kV doc pm cdv ct : Value} {an od : Option Addr} {osl : Array (Option Value)}
    (lk : K.lookup f = some ⟨oc, od, .func (PySem.W.fnOf "changed" "BidRule.changed" (defArgs s_BidRule_changed) (defBody s_BidRule_changed) (defScope s_BidRule_changed) .none kV doc pm an cdv ct), osl⟩) (hcd : PySem.W.codeIn K cdv "BidRule.changed" = true) (T : TxtRu K C)
    (d_shared_parts : Def P w K mg base "_shared_parts" 1 ["rule"] (spShared K C CL CT)) (d_bid_parts : Def P w K mg base "_bid_parts" 1 ["rule"] (spBidP K C CL CT))
    (M_BidRule : Mk K C fB) (G_BidRule : FnOk P w K mg base CX0 9 fB fdB ("self" :: brPs) (spInitBrT K C CL CT)) (mg_BidRule : mg "BidRule" = some (.ref C)) {g2 : List Value → List Value → List Value} (kb_BidRule : KBn K fdB ("self" :: brPs) 3 toldK g2 (fun vs zs => gC35 vs (([] : List (Str × V)).map (·.2)) zs)) :
    FnK1 P w K mg base CX0 11 f "guests" (fun vs zv H Q E => vs.length = 1 ∧ ∀ d, H d = Option.none → spChanged K C CL CT (vs ++ [V.ref d]) (upd H d (.dK [(.inr "guests", zv)])) Q E) := by
  refine fn_kw1 (k := 10) (ps := ["self"]) (pd := "parts") lk hcd sc_BidRule_changed StX.cxUp_none (fun us z hl => ?_) (fun A outer s H vs Q E hr h => ?_)
  · match us, hl with
    | [u], _ => exact bind_changed u z
  · obtain ⟨r, d, zs, ls, hs, gv, gv2, nm, rfl, hd, br, ok, q⟩ := h
    refine ⟨_, (pss_cons (ps_set (i := 2) sc_BidRule_changed.nd rfl (.inl rfl) (pe_callD d_shared_parts (hr.mono (by decide)) (by rfl) (pa_cons (pv 0) pa_nil)))
      (pss_cons (ps_set (i := 3) sc_BidRule_changed.nd rfl (.inl rfl) (pe_callD d_bid_parts (hr.mono (by decide)) (by rfl) (pa_cons (pv 0) pa_nil)))
      (pss_cons (ps_set (i := 4) sc_BidRule_changed.nd rfl (.inl rfl) (pe_star3 (pv 2) (pv 3) (pv 1)))
      (pss_one (ps_ret (pe_makeKS M_BidRule G_BidRule (hr.mono (by decide)) (by rfl) mg_BidRule kb_BidRule pass0 (pa_cons (pe_fld (pv 0) rfl) (pa_cons (pe_fld (pv 0) rfl) pa_nil)) (pv 4))))))), ?_⟩
    refine ⟨_, rfl, r, zs, ls, hs, gv, nm, rfl, br, fun H1 p1 bt lb np1 s1 ebt elb e1 => ?_⟩
    refine ⟨_, rfl, r, zs, ls, hs, gv, nm, rfl, br.same s1, fun H2 p2 wt np2 s2 ewt e2 => ?_⟩
    intro p np
    have sp := same_upd (o := .dK []) np
    have s12 := s1.trans s2
    have e1' := s2 _ _ e1
    have hd2 := s12 _ _ hd
    have m1 : mergeK [] (kwV skK [.non, .ref bt, .ref lb, .int 0, .int 1, .int 0]) = kwV skK [.non, .ref bt, .ref lb, .int 0, .int 1, .int 0] := mergeK_new _ [] nd_sk
    have m2 : mergeK (kwV skK [.non, .ref bt, .ref lb, .int 0, .int 1, .int 0]) (kwV bkK [.ref wt, .int hs, gv]) = kwV skK [.non, .ref bt, .ref lb, .int 0, .int 1, .int 0] ++ kwV bkK [.ref wt, .int hs, gv] := mergeK_new _ _ nd_sb
    have m3 : mergeK (kwV skK [.non, .ref bt, .ref lb, .int 0, .int 1, .int 0] ++ kwV bkK [.ref wt, .int hs, gv]) [(.inr "guests", gv2)] = kwV toldK [.non, .ref bt, .ref lb, .int 0, .int 1, .int 0, .ref wt, .int hs, gv2] :=
      putK_last (acc := kwV skK [.non, .ref bt, .ref lb, .int 0, .int 1, .int 0] ++ kwV ["weights", "hours"] [.ref wt, .int hs]) (k := .inr "guests") (u := gv) (v := gv2) nd_sb
    refine ⟨_, rfl, p1, _, rfl, (ne_of_none e1' np).symm, upd_same, sp _ _ e1', (show (6 : Nat) ≤ 100 by decide), ?_⟩
    rw [m1, upd_upd]
    generalize eM1 : kwV skK [.non, .ref bt, .ref lb, .int 0, .int 1, .int 0] = M1 at m1 m2 m3 ⊢
    have l1 : M1.length = 6 := by rw [← eM1]; rfl
    have sp1 := same_upd (o := .dK M1) np
    refine ⟨_, rfl, p2, M1, _, rfl, (ne_of_none e2 np).symm, upd_same, sp1 _ _ e2, by omega, (show (3 : Nat) ≤ 100 by decide), ?_⟩
    rw [m2, upd_upd]
    have sp2 := same_upd (o := .dK (M1 ++ kwV bkK [V.ref wt, .int hs, gv])) np
    refine ⟨_, rfl, d, _, _, rfl, (ne_of_none hd2 np).symm, upd_same, sp2 _ _ hd2, by rw [List.length_append, l1]; exact (show 6 + 3 ≤ 400 by decide), (show (1 : Nat) ≤ 100 by decide), ?_⟩
    rw [m3, upd_upd]
    have sp3 := same_upd (o := .dK (kwV toldK [.non, .ref bt, .ref lb, .int 0, .int 1, .int 0, .ref wt, .int hs, gv2])) np
    have ep3 := upd_same (H := H2) (a := p) (o := .dK (kwV toldK [.non, .ref bt, .ref lb, .int 0, .int 1, .int 0, .ref wt, .int hs, gv2]))
    generalize upd H2 p (.dK (kwV toldK [.non, .ref bt, .ref lb, .int 0, .int 1, .int 0, .ref wt, .int hs, gv2])) = H3 at sp3 ep3 ⊢
    have s13 := s12.trans sp3
    have br3 := br.same s13
    obtain ⟨dx, m, bt', l, ht, wt', fs, hh, h1, h2, h3, h4, h5, h6, h7, h8, ⟨ld, la, lb', les, l1', l2, l3, l4⟩, h10, h11, n1, n2, n3, n4, n5, w1, w2, w3, w4⟩ := br3
    have ebt3 := (s2.trans sp3) _ _ ebt
    have elb3 := (s2.trans sp3) _ _ elb
    have ewt3 := sp3 _ _ ewt
    refine ⟨_, rfl, r, C, dx, _, _, rfl, h1, T.cl, T.n1, n1, _, rfl, r, C, dx, _, _, rfl, h1, T.cl, T.n2, h2, fun d2 nd2 => ?_⟩
    have sd2 := same_upd (o := .dK []) nd2
    refine ⟨_, rfl, p, _, rfl, (ne_of_none ep3 nd2).symm, upd_same, sd2 _ _ ep3, rfl, rfl, (show (9 : Nat) ≤ 400 by decide), fun H4 eH4 x dx2 nx ndx nex => ?_⟩
    have s4 : Same H3 H4 := by rw [eH4, upd_upd]; exact same_upd nd2
    have sdx := same_upd (o := .own x) ndx
    have nxx : (upd H4 dx2 (.own x)) x = none := by rw [upd_ne nex.symm]; exact nx
    have sx := sdx.trans (same_upd (o := .ins C dx2 []) nxx)
    have s4x := s4.trans sx
    refine ⟨x, m, bt, lb, wt, dx2, nm, none, ls, hs, 0, 1, 0, gv2, zs, [], [], [], rfl, upd_same, ⟨h7.same s4x, tupAt (s4x _ _ ebt3), .inr (tupAt (s4x _ _ elb3)), ⟨rfl, nofun⟩⟩, ok.lk, ok.z4, ok.nm, nofun, List.nodup_nil, nofun, by decide, by decide, by decide, ok.h1, ok.h3, s4x _ _ ewt3, ok.l, ok.b, fun H5 bx sp5 => ⟨rfl, ?_⟩⟩
    have e0 : (zs.filter fun z => decide (z ∈ ([] : List Nam))) = [] := by simp
    rw [e0] at bx
    refine q H5 x (fun c o e => sp5 c o (s4x _ _ (s13 _ _ e)) (ne_of_none ((s13.trans s4) _ _ e) nx)) bx
end
end TK

/-! the least strength: Guests.floor, BidRule.floor -/
namespace TK
open PySem PySem.Spec PyProof.Rows L2
abbrev s_Guests_floor : Stmt := inClass (topS 21) 5
theorem sc_Guests_floor : FnScope ["self", "_", "top", "bottom"] ["self"] (defScope s_Guests_floor) := ⟨rfl, rfl, rfl, by decide +kernel, rfl, by decide +kernel, by decide +kernel⟩
abbrev s_BidRule_floor : Stmt := inClass (topS 36) 3
theorem sc_BidRule_floor : FnScope ["self"] ["self"] (defScope s_BidRule_floor) := ⟨rfl, rfl, rfl, by decide +kernel, rfl, by decide +kernel, by decide +kernel⟩
section
variable {P : Program} {w : World} {K : PySem.W.Frag} {mg : Str → Option Value} {base : Heap}
def spFloorG (C : Addr) : Sp := fun vs H Q _ => ∃ (p : Addr) (os : List Off) (b : Int), vs = [.ref p] ∧ GuAt C H p os b ∧ OffsOk os ∧ os.length ≤ 8 ∧ 1 ≤ b ∧ b ≤ 1000 ∧ ∀ H' r, Same H H' → Best os b none r → Q (.int ((r.1 + r.2 - 1) / r.2)) H'
theorem ok_Guests_floor {f C gB : Addr} {fd fdB : FuncData} (F : Fun K "floor" "Guests.floor" s_Guests_floor f fd) (T : TxtG K C)
    (Me_best : Meth K C "best" gB) (G_best : FnOk P w K mg base CX0 4 gB fdB ["self", "most"] (spBest K C)) {ds : List Value} (v_best : Vals [V.non] ds) (b_best : Binds K fdB ["self", "most"] ds) : FnOk P w K mg base CX0 5 f fd ["self"] (spFloorG C) := by
  refine F.ok sc_Guests_floor (fun vs H Q E h => ?_) (fun cdv A outer s H vs Q E hr h => ?_)
  · obtain ⟨p, os, b, rfl, _⟩ := h
    rfl
  · obtain ⟨p, os, b, rfl, gu, ok, l8, b0, b1, q⟩ := h
    obtain ⟨dx, a, ts, hp, _⟩ := id gu
    refine ⟨_, (pss_cons (ps_asg (pe_meth0 (pv 0) T.cl Me_best G_best (hr.mono (by decide)) b_best v_best pass0) (pg_tup (by rfl) (pgs_cons (pg_name (i := 1) sc_Guests_floor.nd rfl (.inl rfl)) (pgs_cons (pg_tup (by rfl) (pgs_cons (pg_name (i := 2) sc_Guests_floor.nd rfl (.inl rfl)) (pgs_cons (pg_name (i := 3) sc_Guests_floor.nd rfl (.inl rfl)) pgs_nil))) pgs_nil))))
  (pss_one (ps_ret (pe_op op_fdiv (pe_op op_sub (pe_op op_add (pv 2) (pv 3)) pe_int) (pv 3))))), ?_⟩
    refine ⟨_, rfl, p, dx, _, rfl, hp, fldsG_best _ _, p, os, b, none, rfl, gu, ok, l8, b0, b1, (fun _ z => nomatch z), fun H1 t rt lt r s1 et ert elt hb => ?_⟩
    refine ⟨_, _, rfl, tupAt et, rfl, _, _, rfl, _, _, rfl, _, _, rfl, tupAt ert, rfl, _, _, rfl, _, _, rfl, rfl, rfl, ?_⟩
    have r2 := hb.rate.p2
    have r9 : r.2 ≤ 9000 := hb.has ▸ mean2 ok l8 b0 b1 pickL_ok
    refine ⟨_, rfl, _, rfl, _, _, rfl, rfl, _, _, rfl, rfl, _, rfl, _, _, rfl, rfl, ⟨by omega, by omega⟩, ?_⟩
    exact q H1 r s1 hb
/-- the offers of a rule of bids, or none -/
def GvAt (CG : Addr) (H : Hp) (gv : V) : Option (List Off × Int) → Prop
  | none => gv = .non
  | some o => ∃ g : Addr, gv = .ref g ∧ GuAt CG H g o.1 o.2 ∧ OffsOk o.1 ∧ o.1.length ≤ 8 ∧ 1 ≤ o.2 ∧ o.2 ≤ 1000
theorem GvAt.same {CG : Addr} {H H' : Hp} {gv : V} {o : Option (List Off × Int)} (h : GvAt CG H gv o) (s : Same H H') : GvAt CG H' gv o := by
  cases o with
  | none => exact h
  | some o =>
    obtain ⟨g, e, k, r⟩ := h
    exact ⟨g, e, k.same s, r⟩
/-- a number is the least strength -/
def SillIs (v : Int) : Option (List Off × Int) → Prop
  | none => v = 0
  | some o => ∃ r, Best o.1 o.2 none r ∧ v = (r.1 + r.2 - 1) / r.2
def spFloorB (K : PySem.W.Frag) (C CL CT CG : Addr) : Sp := fun vs H Q _ => ∃ (p : Addr) (zs kb : List Nam) (ts : List Tie) (ls : List Int) (hs : Int) (gv : V) (o : Option (List Off × Int)), vs = [.ref p] ∧ BrAt K C CL CT H p zs kb ts ls hs gv ∧ GvAt CG H gv o ∧ ∀ H' v, Same H H' → SillIs v o → Q (.int v) H'
theorem ok_BidRule_floor {f C CL CT CG pG gG : Addr} {fd fdG : FuncData} (F : Fun K "floor" "BidRule.floor" s_BidRule_floor f fd) (T : TxtRu K C) (nG : NoAttr K C "guests") (T_Guests : TxtG K CG)
    (P_Guests_floor : PropOf K CG "floor" pG gG) (G_Guests_floor : FnOk P w K mg base CX0 5 gG fdG ["self"] (spFloorG CG)) (b_Guests_floor : Binds K fdG ["self"] []) : FnOk P w K mg base CX0 7 f fd ["self"] (spFloorB K C CL CT CG) := by
  refine F.ok sc_BidRule_floor (fun vs H Q E h => ?_) (fun cdv A outer s H vs Q E hr h => ?_)
  · obtain ⟨p, zs, kb, ts, ls, hs, gv, o, rfl, _⟩ := h
    rfl
  · obtain ⟨p, zs, kb, ts, ls, hs, gv, o, rfl, ⟨ru, dx, wt, fs, hp, k1, k2, k3, k4⟩, hg, q⟩ := h
    refine ⟨_, (pss_one (ps_ret (pe_ifExp (pt_cmpR op_isN (pe_fld (pv 0) rfl) pe_non (nomark _)) pe_int (pe_prop (pe_fld (pv 0) rfl) T_Guests.cl P_Guests_floor G_Guests_floor (hr.mono (by decide)) b_Guests_floor .nil pass0 rfl)))), ?_⟩
    refine ⟨_, rfl, p, C, dx, _, _, rfl, hp, T.cl, nG, k4, rfl, _, rfl, ?_⟩
    cases o with
    | none =>
      have hg : gv = .non := hg
      subst hg
      exact iteT (q H 0 (Same.refl _) rfl)
    | some o =>
      obtain ⟨g, rfl, gu, ok, l8, b0, b1⟩ := hg
      rw [decide_eq_false (show ¬ V.ref g = V.non from nofun)]
      obtain ⟨gx, ga, gt, hgp, _⟩ := id gu
      exact iteF ⟨_, rfl, p, C, dx, _, _, rfl, hp, T.cl, nG, k4, g, gx, _, rfl, hgp, g, o.1, o.2, rfl, gu, ok, l8, b0, b1, fun H' r s hb => q H' _ s ⟨r, hb, rfl⟩⟩
end
end TK

/-! the law of the floor -/
namespace TK
open PySem PySem.Spec PyProof.Rows L2
theorem Gr.cap {os : List Off} {b : Int} {cap cap' : Option Int} {r : Int × Int} (h : Gr os b cap r) (k : ∀ L, KsOk os.length L → (capO cap L.length ↔ capO cap' L.length)) : Gr os b cap' r := by
  obtain ⟨h1, ⟨L, aL, e⟩, h3⟩ := h
  exact ⟨h1, ⟨L, ⟨aL.1, (k L aL.1).mp aL.2⟩, e⟩, fun L aL => h3 L ⟨aL.1, (k L aL.1).mpr aL.2⟩⟩
theorem cap_no {os : List Off} {c : Nat} (hc : os.length ≤ c) : ∀ L, KsOk os.length L → (capO none L.length ↔ capO (some (c : Int)) L.length) := fun L kL => by
  have := kL.len
  exact ⟨fun _ => show ((L.length : Nat) : Int) ≤ (c : Int) by omega, fun _ => trivial⟩
theorem cap_big {os : List Off} {c d : Nat} (hc : os.length ≤ c) (hd : os.length ≤ d) : ∀ L, KsOk os.length L → (capO (some (c : Int)) L.length ↔ capO (some (d : Int)) L.length) := fun L kL => (cap_no hc L kL).symm.trans (cap_no hd L kL)
/-- a rate within its bounds -/
def RBd (r : Int × Int) : Prop := 0 ≤ r.1 ∧ r.1 ≤ 8000000000 ∧ 1 ≤ r.2 ∧ r.2 ≤ 9000
/-- more offers, no less -/
theorem Gr.le {os : List Off} {b : Int} {c d : Nat} {r s : Int × Int} (h : Gr os b (some (c : Int)) r) (k : Gr os b (some (d : Int)) s) (hcd : c ≤ d) (ok : OffsOk os) (l8 : os.length ≤ 8) (b0 : 1 ≤ b) (hr : RBd r) (hs : RBd s) : r.1 * s.2 ≤ s.1 * r.2 := by
  obtain ⟨L, aL, e⟩ := h.has
  have aL2 : ((L.length : Nat) : Int) ≤ (c : Int) := aL.2
  have t := k.top L ⟨aL.1, show ((L.length : Nat) : Int) ≤ (d : Int) by omega⟩
  have w8 := wgt_bd ok l8 aL.1
  have bp : 0 < b + wgtF os L := by omega
  generalize b + wgtF os L = B at *
  generalize topF os L = A at *
  obtain ⟨r1, r2⟩ := r
  obtain ⟨s1, s2⟩ := s
  show r1 * s2 ≤ s1 * r2
  have e : r1 * B = A * r2 := e
  have t : A * s2 ≤ s1 * B := t
  have r20 : 1 ≤ r2 := hr.2.2.1
  have c1 : A * s2 * r2 ≤ s1 * B * r2 := Int.mul_le_mul_of_nonneg_right t (by omega)
  have e2 : A * s2 * r2 = r1 * s2 * B := by rw [Int.mul_right_comm, ← e]; simp only [Int.mul_assoc, Int.mul_comm, Int.mul_left_comm]
  have e3 : s1 * B * r2 = s1 * r2 * B := Int.mul_right_comm ..
  rw [e2, e3] at c1
  exact Int.le_of_mul_le_mul_right c1 bp
theorem TopsR.last {H : Hp} {os : List Off} {b : Int} {es : List Addr} (h : TopsR H os b es) : ∃ (e : Addr) (r : Int × Int), atI (es.map V.ref) (-1) = some (.ref e) ∧ H e = some (.tup [.int r.1, .int r.2]) ∧ Gr os b (some (os.length : Int)) r ∧ RBd r := by
  have hl : os.length < es.length := by rw [h.1]; omega
  obtain ⟨r, h1, h2, h3⟩ := h.2 os.length _ (List.getElem?_eq_getElem hl)
  refine ⟨es[os.length], r, ?_, h1, h2, h3⟩
  have hm : (es.map V.ref).length = os.length + 1 := by rw [List.length_map, h.1]
  unfold atI ixN
  rw [if_neg (by decide), if_pos (by rw [hm]; omega)]
  show (es.map V.ref)[((-1 : Int) + ((es.map V.ref).length : Nat)).toNat]? = _
  rw [hm, show ((-1 : Int) + ((os.length + 1 : Nat) : Int)).toNat = os.length by omega, List.getElem?_map, List.getElem?_eq_getElem hl]
  rfl
theorem TopsR.at {H : Hp} {os : List Off} {b : Int} {es : List Addr} (h : TopsR H os b es) {c : Nat} (hc : c ≤ os.length) : ∃ (e : Addr) (r : Int × Int), atI (es.map V.ref) (c : Int) = some (.ref e) ∧ H e = some (.tup [.int r.1, .int r.2]) ∧ Gr os b (some (c : Int)) r ∧ RBd r := by
  have hl : c < es.length := by rw [h.1]; omega
  obtain ⟨r, h1, h2, h3⟩ := h.2 c _ (List.getElem?_eq_getElem hl)
  exact ⟨es[c], r, atI_in (Int.natCast_nonneg _) (by rw [Int.toNat_natCast, List.getElem?_map, List.getElem?_eq_getElem hl]; rfl), h1, h2, h3⟩
theorem offs_tail {H : Hp} {ts : List Addr} {os : List Off} (h : OffsAt H ts os) : OffsAt H ts.tail os.tail := ⟨by rw [List.length_tail, List.length_tail, h.1], fun i t e => by
  rw [List.getElem?_tail] at e ⊢
  exact h.2 (i + 1) t e⟩
theorem cut_1 (xs : List V) : cutV xs (some 1) none = xs.tail := by
  show cutV xs (some ((1 : Nat) : Int)) none = xs.tail
  unfold cutV
  rw [HT.sIx_nat]
  have e : HT.sIx xs.length xs.length none = xs.length := rfl
  rw [e, ← List.drop_one]
  by_cases h : 1 ≤ xs.length
  · rw [Nat.min_eq_left h, List.take_of_length_le (by rw [List.length_drop]; exact Nat.le_refl _)]
  · rw [Nat.min_eq_right (by omega), List.drop_eq_nil_of_le (Nat.le_refl _), List.drop_eq_nil_of_le (by omega), List.take_nil]
theorem BrP.ins {K : PySem.W.Frag} {C CL CT : Addr} {H : Hp} {p : Addr} {zs : List Nam} {ls : List Int} {hs : Int} {gv : V} {nm : Nam} (h : BrP K C CL CT H p zs ls hs gv nm) : ∃ dx fs, H p = some (.ins C dx fs) ∧ fs.lookup ("changed" : Str) = none ∧ fs.lookup ("guests" : Str) = some gv := by
  obtain ⟨dx, m, bt, l, ht, wt, fs, hh, h1, h2, h3, h4, h5, h6, h7, h8, h9, h10, h11, n1, n2, n3, n4, n5, w1, w2, w3, w4⟩ := h
  exact ⟨dx, fs, h1, h6.2 _ (by decide +kernel), w4⟩
theorem nm_get35 {zs : List Nam} {i : Int} (h0 : 0 ≤ i) (h : i < zs.length) : ∃ z, zs[i.toNat]? = some z ∧ z ∈ zs ∧ atI (zs.map vN) i = some (vN z) := by
  have hl : i.toNat < zs.length := by omega
  refine ⟨zs[i.toNat], List.getElem?_eq_getElem hl, List.getElem_mem hl, atI_in h0 ?_⟩
  rw [List.getElem?_map, List.getElem?_eq_getElem hl]
  rfl
section
variable {P : Program} {w : World} {K : PySem.W.Frag} {mg : Str → Option Value} {base : Heap}
def spLaw (K : PySem.W.Frag) : Sp := fun vs H Q _ => ∃ (a : Addr) (ns : List Int), vs = [.ref a] ∧ SqL K H a (ns.map V.int) ∧ ns.length ≤ 63 ∧ ∀ H', Q (.bl true) H'
theorem ok_law {f C CL CT CG fB fG gB gE pG gG pF gF fC EB EL : Addr} {fd fdB fdG fdb fdE fdF fdg : FuncData} (F : Fun K "law" "law" s_law f fd) (m_list : mg "list" = none) (m_len : mg "len" = none) (m_range : mg "range" = none) (m_min : mg "min" = none) (m_tuple : mg "tuple" = none) (m_isinstance : mg "isinstance" = none)
    (T_Guests : TxtG K CG) (T_BidRule : TxtRu K C) (nAG : NoAttr K C "guests")
    (M_Guests : Mk K CG fG) (G_Guests : FnOk P w K mg base CX0 3 fG fdG ["self", "offers", "aside"] (spInitG K CG)) (mg_Guests : mg "Guests" = some (.ref CG)) (b_Guests : Binds K fdG ["self", "offers", "aside"] [])
    (Me_best : Meth K CG "best" gB) (G_best : FnOk P w K mg base CX0 4 gB fdb ["self", "most"] (spBest K CG)) {ds : List Value} (v_best : Vals [V.non] ds) (b_best : Binds K fdb ["self", "most"] ds) {g1 : List Value → List Value → List Value} (kb_best : KBn K fdb ["self", "most"] 1 ["most"] g1 (fun vs zs => vs ++ zs))
    (O_eq : Own K CG "__eq__" gE) (G_eq : FnOk P w K mg base CX0 1 gE fdE ["self", "other"] (spEqG K CG)) (b_eq : Binds K fdE ["self", "other"] [])
    (P_Guests_floor : PropOf K CG "floor" pG gG) (G_Guests_floor : FnOk P w K mg base CX0 5 gG fdg ["self"] (spFloorG CG)) (b_Guests_floor : Binds K fdg ["self"] [])
    (P_BidRule_floor : PropOf K C "floor" pF gF) (G_BidRule_floor : FnOk P w K mg base CX0 7 gF fdF ["self"] (spFloorB K C CL CT CG)) (b_BidRule_floor : Binds K fdF ["self"] [])
    (M_BidRule : Mk K C fB) (mg_BidRule : mg "BidRule" = some (.ref C)) (hEB : ∀ H : Hp, SqT K H EB []) (hEL : ∀ H : Hp, SqT K H EL [])
    (G_BidRuleL : FnOk P w K mg base CX0 9 fB fdB ("self" :: brPs) (spInitBrL K C CL CT)) {g2 : List Value → List Value → List Value} (kb_BidRuleW : KBn K fdB ("self" :: brPs) 3 ["weights", "hours", "guests"] g2 (fun vs zs => gW35 vs ((msW35 EB EL).map (·.2)) zs))
    (G_BidRuleN : FnOk P w K mg base CX0 9 fB fdB ("self" :: brPs) (spInitBrN K C CL CT)) {g3 : List Value → List Value → List Value} (kb_BidRuleN : KBn K fdB ("self" :: brPs) 3 [] g3 (fun vs zs => vs ++ [.non, .int 1, .non, .non, .ref EB, .ref EL, .int 0, .int 1, .int 0]))
    (Me_changed : Meth K C "changed" fC) (G_changed : FnK1 P w K mg base CX0 11 fC "guests" (fun vs zv H Q E => vs.length = 1 ∧ ∀ d, H d = Option.none → spChanged K C CL CT (vs ++ [V.ref d]) (upd H d (.dK [(.inr "guests", zv)])) Q E))
    (d_L_cell : Def P w K mg base "_law_cell" 1 ["_law_script", "_law_k"] (spCellA K)) (d_L_pool : Def P w K mg base "_law_pool" 2 ["_law_cell_here", "_law_number"] spPool)
    (d_L_part : Def P w K mg base "_law_part" 1 ["_law_pool_here", "_law_spot", "_law_under", "_law_size"] (spPart K)) (d_L_names : Def P w K mg base "_law_names" 2 ["_law_pool_here", "_law_spot", "_law_number"] (spNames K)) (d_L_goods : Def P w K mg base "_law_goods" 3 ["_law_pool_here", "_law_spot", "_law_number", "_law_calm"] (spGoods K))
    (d_L_beside : Def P w K mg base "_law_beside" 3 ["_law_pool_here", "_law_spot"] (spBeside K)) (d_L_few : Def P w K mg base "_law_few" 2 ["_law_pool_here", "_law_spot"] (spFew K))
    (d_L_tops : Def P w K mg base "_law_tops" 2 ["_law_goods_here", "_law_beside_here"] (spTops K)) (d_L_floor_of : Def P w K mg base "_law_floor_of" 2 ["_law_got", "_law_rate"] (spFloorOf K))
    (d_L_same : Def P w K mg base "_law_same" 5 ["_law_got", "_law_wanted"] (spSame 3)) : FnOk P w K mg base CX0 12 f fd ["_law_script"] (spLaw K) := by
  refine F.ok sc_law (fun vs H Q E h => ?_) (fun cdv A outer s H vs Q E hr h => ?_)
  · obtain ⟨a, ns, rfl, _⟩ := h
    rfl
  · obtain ⟨a, ns, rfl, hS, hlen, q⟩ := h
    refine ⟨_, (pss_cons (ps_set (i := 1) sc_law.nd rfl (.inl rfl) (pe_callD d_L_pool (hr.mono (by decide)) (by rfl) (pa_cons (pe_callD d_L_cell (hr.mono (by decide)) (by rfl) (pa_cons (pv 0) (pa_cons pe_int pa_nil))) (pa_cons pe_int pa_nil))))
  (pss_cons (ps_set (i := 2) sc_law.nd rfl (.inl rfl) (pe_callD d_L_goods (hr.mono (by decide)) (by rfl) (pa_cons (pe_callD d_L_pool (hr.mono (by decide)) (by rfl) (pa_cons (pe_callD d_L_cell (hr.mono (by decide)) (by rfl) (pa_cons (pv 0) (pa_cons pe_int pa_nil))) (pa_cons pe_int pa_nil))) (pa_cons pe_int (pa_cons (pe_callD d_L_few (hr.mono (by decide)) (by rfl) (pa_cons (pv 1) (pa_cons pe_int pa_nil))) (pa_cons (pe_cmpR op_eq (pe_callD d_L_part (hr.mono (by decide)) (by rfl) (pa_cons (pv 1) (pa_cons pe_int (pa_cons pe_int (pa_cons pe_int pa_nil))))) pe_int (nomark _)) pa_nil))))))
  (pss_cons (ps_set (i := 3) sc_law.nd rfl (.inl rfl) (pe_callD d_L_beside (hr.mono (by decide)) (by rfl) (pa_cons (pv 1) (pa_cons pe_int pa_nil))))
  (pss_cons (ps_set (i := 4) sc_law.nd rfl (.inl rfl) (pe_make M_Guests G_Guests (hr.mono (by decide)) (by rfl) mg_Guests b_Guests .nil pass0 (pa_cons (pe_callTy call_list_of (by rfl) m_list (by decide +kernel) (pa_cons (pv 2) pa_nil)) (pa_cons (pv 3) pa_nil))))
  (pss_cons (ps_set (i := 5) sc_law.nd rfl (.inl rfl) (pe_callD d_L_tops (hr.mono (by decide)) (by rfl) (pa_cons (pv 2) (pa_cons (pv 3) pa_nil))))
  (pss_cons (ps_if (pt_not (pt_val (pe_callD d_L_floor_of (hr.mono (by decide)) (by rfl) (pa_cons (pe_prop (pv 4) T_Guests.cl P_Guests_floor G_Guests_floor (hr.mono (by decide)) b_Guests_floor .nil pass0 rfl) (pa_cons (pe_ix ix_list (pv 5) (pe_un un_neg pe_int) (fun _ _ => rfl)) pa_nil))))) (pss_one (ps_ret pe_bl)) pss_nil)
  (pss_cons (ps_set (i := 6) sc_law.nd rfl (.inl rfl) (pe_tup (pa_cons pe_int (pa_cons pe_int pa_nil))))
  (pss_cons (ps_for PassesOwn.never rfl (pi_range1 (by rfl) m_range (pa_cons (pe_op op_add (pe_callB call_len_seq (by rfl) m_len (by decide +kernel) (pa_cons (pv 2) pa_nil)) pe_int) pa_nil)) (pg_name (i := 7) sc_law.nd rfl (.inl rfl))
    (pss_cons (ps_set (i := 8) sc_law.nd rfl (.inl rfl) (pe_methK0 (pv 4) T_Guests.cl Me_best G_best (hr.mono (by decide)) kb_best pass0 (pk_cons (pv 7) pk_nil)))
  (pss_cons (ps_if (PW.pt (pw_or (pt_not (pt_val (pe_callB call_isi (by rfl) m_isinstance (by decide +kernel) (pa_cons (pv 8) (pa_cons (pe_bltn (v := .ty "tuple") (u := .type "tuple") (by rfl) m_tuple (by decide +kernel) rfl) pa_nil))))) (pw_or (pt_cmpR op_ne (pe_callB call_len_seq (by rfl) m_len (by decide +kernel) (pa_cons (pv 8) pa_nil)) pe_int (nomark _)) (pw_or1 (pt_not (pt_val (pe_callD d_L_same (hr.mono (by decide)) (by rfl) (pa_cons (pe_ix ix_tup (pv 8) pe_int (fun _ _ => rfl)) (pa_cons (pe_ix ix_list (pv 5) (pe_callB (call_min2 rfl) (by rfl) m_min (by decide +kernel) (pa_cons (pv 7) (pa_cons (pe_callB call_len_seq (by rfl) m_len (by decide +kernel) (pa_cons (pv 2) pa_nil)) pa_nil))) (fun _ _ => rfl)) pa_nil))))))))) (pss_one (ps_ret pe_bl)) pss_nil)
  (pss_cons (ps_if (PW.pt (pw_or (pt_cmpR op_lt (pe_op op_mul (pe_ix ix_tup (pe_ix ix_tup (pv 8) pe_int (fun _ _ => rfl)) pe_int (fun _ _ => rfl)) (pe_ix ix_tup (pv 6) pe_int (fun _ _ => rfl))) (pe_op op_mul (pe_ix ix_tup (pv 6) pe_int (fun _ _ => rfl)) (pe_ix ix_tup (pe_ix ix_tup (pv 8) pe_int (fun _ _ => rfl)) pe_int (fun _ _ => rfl))) (nomark _)) (pw_or (pt_not (pt_val (pe_callB call_isi (by rfl) m_isinstance (by decide +kernel) (pa_cons (pe_ix ix_tup (pv 8) pe_int (fun _ _ => rfl)) (pa_cons (pe_bltn (v := .ty "tuple") (u := .type "tuple") (by rfl) m_tuple (by decide +kernel) rfl) pa_nil))))) (pw_or1 (pt_cmpR op_gt (pe_callB call_len_seq (by rfl) m_len (by decide +kernel) (pa_cons (pe_ix ix_tup (pv 8) pe_int (fun _ _ => rfl)) pa_nil)) (pv 7) (nomark _)))))) (pss_one (ps_ret pe_bl)) pss_nil)
  (pss_one (ps_set (i := 6) sc_law.nd rfl (.inl rfl) (pe_ix ix_tup (pv 8) pe_int (fun _ _ => rfl))))))))
  (pss_cons (ps_if (PW.pt (pw_or (pt_not (pt_val (pe_callD d_L_same (hr.mono (by decide)) (by rfl) (pa_cons (pe_ix ix_tup (pe_meth0 (pv 4) T_Guests.cl Me_best G_best (hr.mono (by decide)) b_best v_best pass0) pe_int (fun _ _ => rfl)) (pa_cons (pv 6) pa_nil))))) (pw_or1 (pt_not (pt_val (pe_callD d_L_same (hr.mono (by decide)) (by rfl) (pa_cons (pe_ix ix_tup (pe_methK0 (pv 4) T_Guests.cl Me_best G_best (hr.mono (by decide)) kb_best pass0 (pk_cons pe_non pk_nil)) pe_int (fun _ _ => rfl)) (pa_cons (pv 6) pa_nil)))))))) (pss_one (ps_ret pe_bl)) pss_nil)
  (pss_cons (ps_set (i := 9) sc_law.nd rfl (.inl rfl) (pe_make M_Guests G_Guests (hr.mono (by decide)) (by rfl) mg_Guests b_Guests .nil pass0 (pa_cons (pe_slice sl_list (pv 2) (po_some pe_int) po_none) (pa_cons (pv 3) pa_nil))))
  (pss_cons (ps_if (pt_not (pt_val (pe_callD d_L_floor_of (hr.mono (by decide)) (by rfl) (pa_cons (pe_prop (pv 9) T_Guests.cl P_Guests_floor G_Guests_floor (hr.mono (by decide)) b_Guests_floor .nil pass0 rfl) (pa_cons (pe_ix ix_list (pe_callD d_L_tops (hr.mono (by decide)) (by rfl) (pa_cons (pe_slice sl_list (pv 2) (po_some pe_int) po_none) (pa_cons (pv 3) pa_nil))) (pe_un un_neg pe_int) (fun _ _ => rfl)) pa_nil))))) (pss_one (ps_ret pe_bl)) pss_nil)
  (pss_cons (ps_set (i := 10) sc_law.nd rfl (.inr rfl) (pe_callD d_L_pool (hr.mono (by decide)) (by rfl) (pa_cons (pe_callD d_L_cell (hr.mono (by decide)) (by rfl) (pa_cons (pv 0) (pa_cons pe_int pa_nil))) (pa_cons pe_int pa_nil))))
  (pss_cons (ps_set (i := 11) sc_law.nd rfl (.inl rfl) (pe_callD d_L_names (hr.mono (by decide)) (by rfl) (pa_cons (pv 10) (pa_cons pe_int (pa_cons (pe_op op_add pe_int (pe_callD d_L_part (hr.mono (by decide)) (by rfl) (pa_cons (pv 10) (pa_cons pe_int (pa_cons pe_int (pa_cons pe_int pa_nil)))))) pa_nil)))))
  (pss_cons (ps_setLc (i := 12) (own := [("_law_k", 7)]) (by rfl) sc_law.nd rfl rfl (sw_true rfl rfl rfl (by decide +kernel)) (pi_range1 (by rfl) m_range (pa_cons (pe_callB call_len_seq (by rfl) m_len (by decide +kernel) (pa_cons (pv 11) pa_nil)) pa_nil)) (blkOk_by (N := ["_law_script", "_law_rest", "_law_goods_here", "_law_beside_here", "_law_crowd", "_law_tops_here", "_law_before", "_law_k", "_law_got", "_law_other", "_law_pool_here", "_law_names_here", "_law_loads", "_law_rule", "_law_bare"]) (sc := defScope s_law) (by decide +kernel)) (fun _ _ _ _ _ => (pg_name (i := 7) sc_law.nd rfl (.inl rfl))) (fun _ _ _ _ _ => pts_nil) (fun _ _ _ _ _ => (pe_op op_add pe_int (pe_callD d_L_part (hr.mono (by decide)) (by rfl) (pa_cons (pv 10) (pa_cons (pe_op op_add pe_int (pv 7)) (pa_cons pe_int (pa_cons pe_int pa_nil))))))))
  (pss_cons (ps_set (i := 13) sc_law.nd rfl (.inl rfl) (pe_makeK M_BidRule G_BidRuleL (hr.mono (by decide)) (by rfl) mg_BidRule kb_BidRuleW pass0 (pa_cons (pe_ix ix_list (pv 11) pe_int (fun _ _ => rfl)) (pa_cons (pe_callTy call_list_of (by rfl) m_list (by decide +kernel) (pa_cons (pv 11) pa_nil)) pa_nil)) (pk_cons (pv 12) (pk_cons (pe_op op_add pe_int (pe_callD d_L_part (hr.mono (by decide)) (by rfl) (pa_cons (pv 10) (pa_cons pe_int (pa_cons pe_int (pa_cons pe_int pa_nil)))))) (pk_cons (pv 4) pk_nil)))))
  (pss_cons (ps_set (i := 14) sc_law.nd rfl (.inl rfl) (pe_makeK M_BidRule G_BidRuleN (hr.mono (by decide)) (by rfl) mg_BidRule kb_BidRuleN pass0 (pa_cons (pe_ix ix_list (pv 11) pe_int (fun _ _ => rfl)) (pa_cons (pe_callTy call_list_of (by rfl) m_list (by decide +kernel) (pa_cons (pv 11) pa_nil)) pa_nil)) pk_nil))
  (pss_cons (ps_if (PW.pt (pw_or (pt_not (pt_val (pe_callD d_L_floor_of (hr.mono (by decide)) (by rfl) (pa_cons (pe_prop (pv 13) T_BidRule.cl P_BidRule_floor G_BidRule_floor (hr.mono (by decide)) b_BidRule_floor .nil pass0 rfl) (pa_cons (pe_ix ix_list (pv 5) (pe_un un_neg pe_int) (fun _ _ => rfl)) pa_nil))))) (pw_or1 (pt_not (pt_val (pe_callD d_L_same (hr.mono (by decide)) (by rfl) (pa_cons (pe_cmpR (op_ownEq (fun _ _ => rfl) O_eq G_eq (hr.mono (by decide)) b_eq pass0) (pe_fld (pv 13) rfl) (pv 4) (nomark _)) (pa_cons pe_bl pa_nil)))))))) (pss_one (ps_ret pe_bl)) pss_nil)
  (pss_cons (ps_if (PW.pt (pw_or (pt_not (pt_val (pe_callD d_L_same (hr.mono (by decide)) (by rfl) (pa_cons (pe_prop (pv 14) T_BidRule.cl P_BidRule_floor G_BidRule_floor (hr.mono (by decide)) b_BidRule_floor .nil pass0 rfl) (pa_cons pe_int pa_nil))))) (pw_or1 (pt_not (pt_val (pe_callD d_L_same (hr.mono (by decide)) (by rfl) (pa_cons (pe_prop (pe_meth1 (pv 13) T_BidRule.cl Me_changed G_changed (hr.mono (by decide)) pass0 pe_non) T_BidRule.cl P_BidRule_floor G_BidRule_floor (hr.mono (by decide)) b_BidRule_floor .nil pass0 rfl) (pa_cons pe_int pa_nil)))))))) (pss_one (ps_ret pe_bl)) pss_nil)
  (pss_cons (ps_if (PW.pt (pw_or (pt_not (pt_val (pe_callD d_L_floor_of (hr.mono (by decide)) (by rfl) (pa_cons (pe_prop (pe_meth1 (pv 14) T_BidRule.cl Me_changed G_changed (hr.mono (by decide)) pass0 (pv 4)) T_BidRule.cl P_BidRule_floor G_BidRule_floor (hr.mono (by decide)) b_BidRule_floor .nil pass0 rfl) (pa_cons (pe_ix ix_list (pv 5) (pe_un un_neg pe_int) (fun _ _ => rfl)) pa_nil))))) (pw_or1 (pt_not (pt_val (pe_callD d_L_same (hr.mono (by decide)) (by rfl) (pa_cons (pe_prop (pv 14) T_BidRule.cl P_BidRule_floor G_BidRule_floor (hr.mono (by decide)) b_BidRule_floor .nil pass0 rfl) (pa_cons pe_int pa_nil)))))))) (pss_one (ps_ret pe_bl)) pss_nil)
  (pss_one (ps_ret (pe_and (pe_callD d_L_floor_of (hr.mono (by decide)) (by rfl) (pa_cons (pe_prop (pv 4) T_Guests.cl P_Guests_floor G_Guests_floor (hr.mono (by decide)) b_Guests_floor .nil pass0 rfl) (pa_cons (pe_ix ix_list (pv 5) (pe_un un_neg pe_int) (fun _ _ => rfl)) pa_nil))) (pe_one (pe_callD d_L_floor_of (hr.mono (by decide)) (by rfl) (pa_cons (pe_prop (pv 13) T_BidRule.cl P_BidRule_floor G_BidRule_floor (hr.mono (by decide)) b_BidRule_floor .nil pass0 rfl) (pa_cons (pe_ix ix_list (pv 5) (pe_un un_neg pe_int) (fun _ _ => rfl)) pa_nil)))))))))))))))))))))))))), ?_⟩
    refine ⟨_, rfl, a, ns, 1, rfl, hS, by decide, by decide, by omega, fun c1 => ⟨c1, 3, rfl, by decide, by decide, fun p1 ns1 np1 l1 o1 => ?_⟩⟩
    have s1 : Same H (upd H p1 (.lst (ns1.map V.int))) := same_upd np1
    refine ⟨_, rfl, a, ns, 0, rfl, s1.seq hS, by decide, by decide, by omega, fun c2 => ⟨c2, 32, rfl, by decide, by decide, fun p2 ns2 np2 l2 o2 => ?_⟩⟩
    have s2 := same_upd (o := .lst (ns2.map V.int)) np2
    have e12 := s2 _ _ (upd_same (H := H) (a := p1) (o := .lst (ns1.map V.int)))
    refine ⟨_, rfl, p1, ns1, 0, rfl, lstAt e12, by decide, by omega, fun nn n8 => ?_⟩
    refine ⟨_, rfl, p1, ns1, 0, 144, 2, rfl, lstAt e12, by decide, by omega, by decide, by decide, by decide, rfl, p2, ns2, 0, nn, _, rfl, lstAt upd_same, by decide, by omega, by omega, by omega, fun H3 g ts os ng s3 eg hT ok ol => ?_⟩
    have e13 := s3 _ _ e12
    have s03 := s1.trans (s2.trans s3)
    have hS3 := s03.seq hS
    clear s1 s2 s3 e12 s03 hS
    have l8 : os.length ≤ 8 := by omega
    have tl : (ts.map V.ref).length = os.length := by rw [List.length_map, hT.1]
    refine ⟨_, rfl, p1, ns1, 1, rfl, lstAt e13, by decide, by omega, fun b b0 b1 => ?_⟩
    -- the guests
    refine ⟨_, rfl, g, _, rfl, .inl (lstAt eg), fun G nG => ?_⟩
    have sG := same_upd (o := .lst (ts.map V.ref)) nG
    refine ⟨_, rfl, ?_⟩
    intro c d n1 n2 ne
    refine make_goG n1 n2 ne (.inl (lstAt upd_same)) (hT.same sG) ok l8 b0 b1 fun H6 k6 s6 => ?_
    have s36 := sG.trans s6
    have eg6 := s36 _ _ eg
    have hT6 := hT.same s36
    have hS6 := s36.seq hS3
    obtain ⟨dx, aa, us0, hcx, _⟩ := id k6
    clear sG s6 hT eg s36 hS3 e13
    -- the tops
    refine ⟨_, rfl, _, rfl, g, ts, os, b, rfl, lstAt eg6, hT6, ok, l8, b0, b1, fun H7 D es s7 eD hE => ?_⟩
    obtain ⟨el, rl, al, hel, grl, rbl⟩ := hE.last
    obtain ⟨rl0, rl1, rl2, rl3⟩ := id rbl
    have k7 := k6.same s7
    have hcx7 := s7 _ _ hcx
    have eg7 := s7 _ _ eg6
    have hT7 := hT6.same s7
    have hS7 := s7.seq hS6
    clear s7 k6 hcx eg6 hT6 hS6
    have fl : ∀ r, Best os b none r → r = rl := fun r hb => ((hb.gr ok l8 b0 (show capN none from nofun)).cap (cap_no (Nat.le_refl _))).one grl ok l8 b0
    refine ⟨_, rfl, c, dx, _, rfl, hcx7, c, os, b, rfl, k7, ok, l8, b0, b1, fun H8 r s8 hb => ?_⟩
    obtain rfl := fl r hb
    refine ⟨_, rfl, _, rfl, D, _, _, _, rfl, rfl, lstAt (s8 _ _ eD), al, el, _, r, rfl, tupAt (s8 _ _ hel), rl0, rl1, rl2, rl3, rfl, _, rfl, iteF ?_⟩
    -- one offer after another
    refine ⟨(show (2 : Nat) ≤ sizeLine by decide), fun bt0 nbt => ?_⟩
    have sb := same_upd (o := .tup [V.int 0, .int 1]) nbt
    have ebt0 := upd_same (H := H8) (a := bt0) (o := .tup [V.int 0, .int 1])
    generalize upd H8 bt0 (.tup [V.int 0, .int 1]) = H9 at sb ebt0 ⊢
    have s79 := s8.trans sb
    clear s8 sb nbt
    refine ⟨_, rfl, g, _, rfl, .inl (lstAt (s79 _ _ eg7)), _, _, rfl, rfl, _, rfl, by omega, by omega, for_range (fun i σ H' => ∃ (bt : Addr) (r0 : Int × Int) (y7 y8 : Option V), σ = [some (.ref a), some (.ref p1), some (.ref g), some (.int b), some (.ref c), some (.ref D), some (.ref bt), y7, y8, none, none, none, none, none, none] ∧ Same H7 H' ∧ H' bt = some (.tup [.int r0.1, .int r0.2]) ∧ RBd r0 ∧ (i = 0 → r0 = (0, 1)) ∧ (∀ j, i = j + 1 → Gr os b (some (j : Int)) r0)) ⟨bt0, (0, 1), _, _, rfl, s79, ebt0, ⟨by decide, by decide, by decide, by decide⟩, fun _ => rfl, nofun⟩ ?_ ?_⟩
    · rintro k σ H10 hk ⟨bt, r0, y7, y8, rfl, s10, ebt, rb0, z0, g0⟩
      have k11 : k ≤ 11 := by omega
      rw [show (0 : Int) + (k : Int) = (k : Int) from Int.zero_add _]
      refine ⟨_, rfl, c, dx, _, rfl, s10 _ _ hcx7, fldsG_best _ _, _, rfl, rfl, c, os, b, some (k : Int), rfl, k7.same s10, ok, l8, b0, b1, capS k, fun H11 t rt lt r1 s11 et ert elt hb1 => ?_⟩
      obtain ⟨e2, r2, at2, he2, gr2, rb2⟩ := hE.at (c := min k os.length) (by omega)
      have gr1 := hb1.gr ok l8 b0 (capS k)
      have er : r1 = r2 := by
        by_cases hkn : k ≤ os.length
        · rw [Nat.min_eq_left hkn] at gr2
          exact gr1.one gr2 ok l8 b0
        · rw [Nat.min_eq_right (by omega)] at gr2
          exact (gr1.cap (cap_big (by omega) (Nat.le_refl _))).one gr2 ok l8 b0
      subst er
      have s711 := s10.trans s11
      have hmin : (if (((ts.map V.ref).length : Nat) : Int) < (k : Int) then (((ts.map V.ref).length : Nat) : Int) else (k : Int)) = ((min k os.length : Nat) : Int) := by
        rw [tl]; split <;> omega
      refine ⟨_, rfl, _, _, _, _, true, rfl, .ty "tuple", TL.ty (.inl et), rfl, _, rfl, iteF ?_⟩
      refine ⟨_, rfl, t, _, rfl, .inr (tupAt et), rfl, _, rfl, iteNS rfl ?_⟩
      refine ⟨_, rfl, _, _, _, _, rfl, rfl, tupAt et, rfl, _, rfl, _, rfl, _, rfl, g, _, rfl, .inl (lstAt (s711 _ _ eg7)), _, _, rfl, _, _, _, _, rfl, rfl, lstAt (s711 _ _ eD), (by rw [hmin]; exact at2), _, _, rfl, eq_two ert (s711 _ _ he2) rfl rfl 2, _, rfl, iteF ?_⟩
      obtain ⟨b01, b02, b03, b04⟩ := id rb0
      obtain ⟨b21, b22, b23, b24⟩ := id rb2
      have ebt11 := s11 _ _ ebt
      refine ⟨_, rfl, _, _, _, _, rfl, rfl, tupAt et, rfl, _, _, _, _, rfl, rfl, tupAt ert, rfl, _, rfl, _, _, _, _, rfl, rfl, tupAt ebt11, rfl, _, _, rfl, rfl, .inl ⟨by omega, by omega⟩, _, rfl, _, _, _, _, rfl, rfl, tupAt ebt11, rfl, _, rfl, _, _, _, _, rfl, rfl, tupAt et, rfl, _, _, _, _, rfl, rfl, tupAt ert, rfl, _, _, rfl, rfl, .inl ⟨by omega, by omega⟩, _, _, rfl, rfl, _, rfl, ?_⟩
      have le : r0.1 * r1.2 ≤ r1.1 * r0.2 := by
        cases k with
        | zero => rw [z0 rfl]; show 0 * r1.2 ≤ r1.1 * 1; omega
        | succ j => exact (g0 j rfl).le gr1 (Nat.le_succ j) ok l8 b0 rb0 rb2
      rw [decide_eq_false (show ¬ r1.1 * r0.2 < r0.1 * r1.2 from Int.not_lt.mpr le)]
      refine iteF ?_
      refine ⟨_, rfl, _, _, _, _, rfl, rfl, tupAt et, rfl, _, _, _, _, true, rfl, .ty "tuple", TL.ty (.inl elt), rfl, _, rfl, iteF ?_⟩
      obtain ⟨S, oS⟩ := hb1.ord
      have ll : ((((pickL os.length (overF os r1) (some (k : Int))).map kI).length : Nat) : Int) ≤ (k : Int) := by
        rw [List.length_map]
        exact (pickL_allow oS (capS k)).2
      refine ⟨_, rfl, _, _, _, _, rfl, rfl, tupAt et, rfl, lt, _, rfl, .inr (tupAt elt), _, rfl, _, _, rfl, rfl, _, rfl, ?_⟩
      rw [decide_eq_false (Int.not_lt.mpr ll)]
      refine iteF ?_
      refine ⟨_, rfl, _, _, _, _, rfl, rfl, tupAt et, rfl, ?_⟩
      exact ⟨rt, r1, _, _, rfl, s711, ert, rb2, nofun, fun j ej => by cases ej; exact gr1⟩
    rintro σ H10 ⟨bt, r0, y7, y8, rfl, s10, ebt, rb0, z0, g0⟩
    have g0 := g0 (os.length + 2) (by rw [tl]; omega)
    obtain rfl : r0 = r := (g0.cap (cap_big (by omega) (Nat.le_refl _))).one grl ok l8 b0
    have k10 := k7.same s10
    have hcx10 := s10 _ _ hcx7
    have eD10 := s10 _ _ eD
    have hE10 := hE.same s10
    have hel10 := s10 _ _ hel
    have eg10 := s10 _ _ eg7
    have hT10 := hT7.same s10
    have hS10 := s10.seq hS7
    clear s79 ebt0 z0 g0 s10 k7 hcx7 eD hE hel eg7 hT7 hS7 hb rb0
    have fl' : ∀ r, Best os b none r → r = r0 := fl
    clear fl
    refine ⟨_, rfl, c, dx, _, rfl, hcx10, fldsG_best _ _, c, os, b, none, rfl, k10, ok, l8, b0, b1, nofun, fun H11 t rt lt r1 s11 et ert elt hb1 => ?_⟩
    obtain rfl := fl' r1 hb1
    refine ⟨_, _, _, _, rfl, rfl, tupAt et, rfl, _, rfl, _, _, rfl, eq_two ert (s11 _ _ ebt) rfl rfl 2, _, rfl, iteF ?_⟩
    refine ⟨_, rfl, c, dx, _, rfl, s11 _ _ hcx10, fldsG_best _ _, rfl, c, os, b, none, rfl, k10.same s11, ok, l8, b0, b1, nofun, fun H12 t2 rt2 lt2 r2 s12 et2 ert2 elt2 hb2 => ?_⟩
    obtain rfl := fl' r2 hb2
    refine ⟨_, _, _, _, rfl, rfl, tupAt et2, rfl, _, rfl, _, _, rfl, eq_two ert2 ((s11.trans s12) _ _ ebt) rfl rfl 2, _, rfl, iteF ?_⟩
    have s1012 := s11.trans s12
    have k12 := k10.same s1012
    have hcx12 := s1012 _ _ hcx10
    have eD12 := s1012 _ _ eD10
    have hel12 := s1012 _ _ hel10
    have eg12 := s1012 _ _ eg10
    have hT12 := hT10.same s1012
    have hS12 := s1012.seq hS10
    clear s1012 s11 s12 et et2 ert ert2 elt elt2 hb1 hb2 hE10 k10 hcx10 eD10 hel10 eg10 hT10 hS10 ebt
    -- another crowd
    have okt : OffsOk os.tail := fun o m => ok o (List.mem_of_mem_tail m)
    have l8t : os.tail.length ≤ 8 := by rw [List.length_tail]; omega
    refine ⟨_, rfl, _, rfl, g, _, rfl, lstAt eg12, fun w1 nw1 => ?_⟩
    rw [cut_1, ← List.map_tail]
    have sw := same_upd (o := .lst (ts.tail.map V.ref)) nw1
    refine ⟨_, rfl, ?_⟩
    intro u d2 n3 n4 ne2
    refine make_goG n3 n4 ne2 (.inl (lstAt upd_same)) (offs_tail (hT12.same sw)) okt l8t b0 b1 fun H13 k13 s13 => ?_
    have s1213 := sw.trans s13
    obtain ⟨dx2, aa2, us2, hu, _⟩ := id k13
    refine ⟨_, rfl, u, dx2, _, rfl, hu, u, os.tail, b, rfl, k13, okt, l8t, b0, b1, fun H14 r2 s14 hb2 => ?_⟩
    have s1214 := s1213.trans s14
    refine ⟨_, rfl, _, rfl, g, _, rfl, lstAt (s1214 _ _ eg12), fun w2 nw2 => ?_⟩
    rw [cut_1, ← List.map_tail]
    have sw2 := same_upd (o := .lst (ts.tail.map V.ref)) nw2
    refine ⟨_, rfl, w2, ts.tail, os.tail, b, rfl, lstAt upd_same, offs_tail ((hT12.same s1214).same sw2), okt, l8t, b0, b1, fun H15 D2 es2 s15 eD2 hE2 => ?_⟩
    obtain ⟨el2, rl2', al2, hel2, grl2, rbl2⟩ := hE2.last
    obtain ⟨rq0, rq1, rq2, rq3⟩ := id rbl2
    obtain rfl : r2 = rl2' := ((hb2.gr okt l8t b0 (show capN none from nofun)).cap (cap_no (Nat.le_refl _))).one grl2 okt l8t b0
    refine ⟨_, rfl, D2, _, _, _, rfl, rfl, lstAt eD2, al2, el2, _, r2, rfl, tupAt hel2, rq0, rq1, rq2, rq3, rfl, _, rfl, iteF ?_⟩
    have s1215 := s1214.trans (sw2.trans s15)
    have k15 := k12.same s1215
    have hcx15 := s1215 _ _ hcx12
    have eD15 := s1215 _ _ eD12
    have hel15 := s1215 _ _ hel12
    have hS15 := s1215.seq hS12
    clear s1215 sw sw2 s15 s1214 s14 s1213 s13 hE2 grl2 hel2 al2 eD2 k13 hu hb2 k12 hcx12 eD12 hel12 eg12 hT12 hS12 n3 n4 ne2 nw1 nw2
    -- the names and the loads
    refine ⟨_, rfl, a, ns, 2, rfl, hS15, by decide, by decide, by omega, fun c3 => ⟨c3, 10, rfl, by decide, by decide, fun p3 ns3 np3 l3 o3 => ?_⟩⟩
    have sp3 := same_upd (o := .lst (ns3.map V.int)) np3
    have ep3 := upd_same (H := H15) (a := p3) (o := .lst (ns3.map V.int))
    generalize upd H15 p3 (.lst (ns3.map V.int)) = H16 at sp3 ep3 ⊢
    have m0 := part_lo (ns := ns3) (s := 5) (u := 1) (z := 4) (by decide)
    have m1 := part_hi (ns := ns3) (s := 5) (u := 1) (z := 4) (by decide)
    refine ⟨_, rfl, _, rfl, p3, ns3, 5, 1, 4, rfl, lstAt ep3, by decide, by omega, by decide, by decide, by decide, _, _, rfl, rfl, p3, ns3, 0, _, rfl, lstAt ep3, by decide, by omega, by omega, by omega, fun p4 zs np4 zl zn nz => ?_⟩
    have sp4 := same_upd (o := .lst (zs.map vN)) np4
    have ep4 := upd_same (H := H16) (a := p4) (o := .lst (zs.map vN))
    generalize upd H16 p4 (.lst (zs.map vN)) = H17 at sp4 ep4 ⊢
    have z4 : zs.length ≤ 4 := by omega
    have z1 : 1 ≤ zs.length := by omega
    have ep3' := sp4 _ _ ep3
    have zl' : (zs.map vN).length = zs.length := List.length_map ..
    refine ⟨_, rfl, p4, _, rfl, .inl (lstAt ep4), _, rfl, by omega, by omega, fun L nL => ?_⟩
    refine lc_range (fun i H' => ∃ ls : List Int, ls.length = i ∧ Same H17 H' ∧ H' L = some (.lst (ls.map V.int)) ∧ ∀ x ∈ ls, 1 ≤ x ∧ x ≤ 1000) ⟨[], rfl, same_upd nL, upd_same, nofun⟩ (fun i H' hi hq => ?_) (fun H18 hq => ?_)
    · obtain ⟨ls, ll, s18, eL, hb⟩ := hq
      have hi4 : i < 4 := by omega
      have x0 := part_lo (ns := ns3) (s := 6 + (0 + (i : Int))) (u := 1) (z := 1000) (by decide)
      have x1 := part_hi (ns := ns3) (s := 6 + (0 + (i : Int))) (u := 1) (z := 1000) (by decide)
      refine ⟨rfl, yesT ⟨_, rfl, _, rfl, _, _, rfl, rfl, p3, ns3, _, 1, 1000, rfl, lstAt (s18 _ _ ep3'), by omega, by omega, by decide, by decide, by decide, _, _, rfl, rfl, _, eL, by rw [List.length_map, ll]; exact small1000 (by omega), ls ++ [1 + partOf ns3 (6 + (0 + (i : Int))) 1 1000], by rw [List.length_append, ll]; rfl, same_at s18 nL, by rw [upd_same, List.map_append]; rfl, fun x hx => ?_⟩⟩
      rcases List.mem_append.mp hx with hx | hx
      · exact hb x hx
      · rw [List.mem_singleton.mp hx]; omega
    obtain ⟨ls, ll, s18, eL, lb⟩ := hq
    have ll : ls.length = zs.length := by rw [ll]; omega
    have ep3 := s18 _ _ ep3'
    have ep4 := s18 _ _ ep4
    have s1518 := sp3.trans (sp4.trans s18)
    have k18 := k15.same s1518
    have hcx18 := s1518 _ _ hcx15
    have eD18 := s1518 _ _ eD15
    have hel18 := s1518 _ _ hel15
    clear s1518 s18 sp3 sp4 k15 hcx15 eD15 hel15 hS15 np3 np4 nL ep3'
    obtain ⟨nm, _, mx, ax⟩ := nm_get35 (zs := zs) (i := 0) (by decide) (by omega)
    have hnm := zn nm mx
    have h0 := part_lo (ns := ns3) (s := 5) (u := 4) (z := 3) (by decide)
    have h2 := part_hi (ns := ns3) (s := 5) (u := 4) (z := 3) (by decide)
    have lk : LOk zs [] := ⟨zn, nz, z1, by omega, Nat.zero_le _, nofun, nofun, nofun, nofun, nofun⟩
    have bok : BrOk zs ls (1 + partOf ns3 5 4 3) nm := ⟨z4, lk, hnm, by omega, by omega, ll, lb⟩
    have e0 : (zs.filter fun z => decide (z ∈ ([] : List Nam))) = [] := by simp
    -- the rule
    refine ⟨_, rfl, _, _, _, _, rfl, rfl, lstAt ep4, ax, _, rfl, p4, _, rfl, .inl (lstAt ep4), fun m2 nm2 => ?_⟩
    have sm := same_upd (o := .lst (zs.map vN)) nm2
    have em2 := upd_same (H := H18) (a := m2) (o := .lst (zs.map vN))
    generalize upd H18 m2 (.lst (zs.map vN)) = H19 at sm em2 ⊢
    refine ⟨_, rfl, _, rfl, p3, ns3, 5, 4, 3, rfl, lstAt (sm _ _ ep3), by decide, by omega, by decide, by decide, by decide, _, _, rfl, rfl, _, rfl, rfl, rfl, fun x dx3 nx ndx nex => ?_⟩
    have sdx := same_upd (o := .own x) ndx
    have nxx : (upd H19 dx3 (.own x)) x = none := by rw [upd_ne nex.symm]; exact nx
    have sx := sdx.trans (same_upd (o := .ins C dx3 []) nxx)
    refine ⟨x, m2, EB, EL, L, dx3, nm, none, ls, _, 0, 1, 0, .ref c, zs, [], [], [], rfl, upd_same, ⟨lstAt (sx _ _ em2), hEB _, .inr (hEL _), ⟨rfl, nofun⟩⟩, lk, z4, hnm, nofun, List.nodup_nil, nofun, by decide, by decide, by decide, bok.h1, bok.h3, lstAt (sx _ _ (sm _ _ eL)), ll, lb, fun H20 br sp => ⟨rfl, ?_⟩⟩
    rw [e0] at br
    have br : BrP K C CL CT H20 x zs ls (1 + partOf ns3 5 4 3) (.ref c) nm := br
    have s20 : Same H18 H20 := fun y o e => sp y o (sx _ _ (sm _ _ e)) (ne_of_none (sm _ _ e) nx)
    have k20 := k18.same s20
    have hcx20 := s20 _ _ hcx18
    have eD20 := s20 _ _ eD18
    have hel20 := s20 _ _ hel18
    have ep420 := s20 _ _ ep4
    clear s20 sp sx nxx sdx nx ndx nex sm em2 nm2 k18 hcx18 eD18 hel18 ep4 ep3 eL
    -- the bare one
    refine ⟨_, rfl, _, _, _, _, rfl, rfl, lstAt ep420, ax, _, rfl, p4, _, rfl, .inl (lstAt ep420), fun m3 nm3 => ?_⟩
    have sm := same_upd (o := .lst (zs.map vN)) nm3
    have em3 := upd_same (H := H20) (a := m3) (o := .lst (zs.map vN))
    generalize upd H20 m3 (.lst (zs.map vN)) = H21 at sm em3 ⊢
    refine ⟨rfl, rfl, fun y dx4 nx ndx nex => ?_⟩
    have sdx := same_upd (o := .own y) ndx
    have nxx : (upd H21 dx4 (.own y)) y = none := by rw [upd_ne nex.symm]; exact nx
    have sx := sdx.trans (same_upd (o := .ins C dx4 []) nxx)
    refine ⟨y, m3, EB, EL, dx4, nm, none, 1, 0, 1, 0, .non, zs, [], [], [], rfl, upd_same, ⟨lstAt (sx _ _ em3), hEB _, .inr (hEL _), ⟨rfl, nofun⟩⟩, lk, z4, hnm, nofun, List.nodup_nil, nofun, by decide, by decide, by decide, by decide, by decide, fun H22 by_ sp => ⟨rfl, ?_⟩⟩
    rw [e0] at by_
    have by_ : BrP K C CL CT H22 y zs (List.replicate zs.length 1) 1 .non nm := by_
    have bok2 : BrOk zs (List.replicate zs.length 1) 1 nm := ⟨z4, lk, hnm, by decide, by decide, List.length_replicate, fun x m => by rw [List.eq_of_mem_replicate m]; decide⟩
    have s22 : Same H20 H22 := fun y' o e => sp y' o (sx _ _ (sm _ _ e)) (ne_of_none (sm _ _ e) nx)
    have k22 := k20.same s22
    have hcx22 := s22 _ _ hcx20
    have eD22 := s22 _ _ eD20
    have hel22 := s22 _ _ hel20
    have br22 := br.same s22
    clear s22 sp sx nxx sdx nx ndx nex sm em3 nm3 k20 hcx20 eD20 hel20 ep420 br
    obtain ⟨dxr, fsr, hxr, ncr, gvr⟩ := br22.ins
    obtain ⟨dyr, fyr, hyr, ncy, gvy⟩ := by_.ins
    refine ⟨_, rfl, x, dxr, fsr, rfl, hxr, x, zs, [], [], ls, _, .ref c, some (os, b), rfl, br22.at, ⟨c, rfl, k22, ok, l8, b0, b1⟩, fun H23 v s23 sv => ?_⟩
    obtain ⟨r3, hb3, ev⟩ := sv
    rw [fl' r3 hb3] at ev
    refine ⟨_, rfl, _, rfl, D, _, _, _, rfl, rfl, lstAt (s23 _ _ eD22), al, el, _, _, rfl, tupAt (s23 _ _ hel22), rl0, rl1, rl2, rl3, ev, _, rfl, iteF ?_⟩
    refine ⟨_, rfl, x, C, dxr, _, _, rfl, s23 _ _ hxr, T_BidRule.cl, nAG, gvr, _, rfl, ⟨c, dx, _, rfl, s23 _ _ hcx22⟩, ⟨c, dx, _, rfl, s23 _ _ hcx22⟩, c, .ref c, os, b, rfl, k22.same s23, .inl ⟨c, os, b, rfl, k22.same s23, ?_⟩⟩
    rw [show (decide (os = os) && decide (b = b)) = true by simp]
    refine ⟨_, _, rfl, .inl ⟨rfl, rfl⟩, _, rfl, iteF ?_⟩
    refine ⟨_, rfl, y, dyr, fyr, rfl, s23 _ _ hyr, y, zs, [], [], _, 1, .non, none, rfl, (by_.same s23).at, rfl, fun H24 v2 s24 sv2 => ?_⟩
    obtain rfl : v2 = 0 := sv2
    refine ⟨_, _, rfl, .inl ⟨rfl, rfl⟩, _, rfl, iteF ?_⟩
    have t24 := s23.trans s24
    refine ⟨_, rfl, x, dxr, fsr, rfl, t24 _ _ hxr, ncr, rfl, fun d5 nd5 => ⟨x, d5, zs, ls, _, .ref c, .non, nm, rfl, upd_same, br22.same (t24.trans (same_upd nd5)), bok, fun H25 z s25' bz => ?_⟩⟩
    have s25 := t24.trans ((same_upd nd5).trans s25')
    obtain ⟨dz, fz, hz, _, _⟩ := bz.ins
    refine ⟨z, dz, fz, rfl, hz, z, zs, [], [], ls, _, .non, none, rfl, bz.at, rfl, fun H26 v3 s26' sv3 => ?_⟩
    obtain rfl : v3 = 0 := sv3
    refine ⟨_, _, rfl, .inl ⟨rfl, rfl⟩, _, rfl, iteF ?_⟩
    have s26 := s25.trans s26'
    refine ⟨_, rfl, y, dyr, fyr, rfl, s26 _ _ hyr, ncy, _, rfl, rfl, fun d6 nd6 => ⟨y, d6, zs, _, _, .non, .ref c, nm, rfl, upd_same, by_.same (s26.trans (same_upd nd6)), bok2, fun H27 z2 s27' bz2 => ?_⟩⟩
    have s27 := s26.trans ((same_upd nd6).trans s27')
    obtain ⟨dz2, fz2, hz2, _, _⟩ := bz2.ins
    refine ⟨z2, dz2, fz2, rfl, hz2, z2, zs, [], [], _, _, .ref c, some (os, b), rfl, bz2.at, ⟨c, rfl, k22.same s27, ok, l8, b0, b1⟩, fun H28 v4 s28' sv4 => ?_⟩
    obtain ⟨r4, hb4, ev4⟩ := sv4
    rw [fl' r4 hb4] at ev4
    have s28 := s27.trans s28'
    refine ⟨_, rfl, _, rfl, D, _, _, _, rfl, rfl, lstAt (s28 _ _ eD22), al, el, _, _, rfl, tupAt (s28 _ _ hel22), rl0, rl1, rl2, rl3, ev4, _, rfl, iteF ?_⟩
    refine ⟨_, rfl, y, dyr, fyr, rfl, s28 _ _ hyr, y, zs, [], [], _, 1, .non, none, rfl, (by_.same s28).at, rfl, fun H29 v5 s29' sv5 => ?_⟩
    obtain rfl : v5 = 0 := sv5
    refine ⟨_, _, rfl, .inl ⟨rfl, rfl⟩, _, rfl, iteF ?_⟩
    have s29 := s28.trans s29'
    refine ⟨_, rfl, c, dx, _, rfl, s29 _ _ hcx22, c, os, b, rfl, k22.same s29, ok, l8, b0, b1, fun H30 r6 s30' hb6 => ?_⟩
    have e6 := fl' r6 hb6
    have s30 := s29.trans s30'
    refine ⟨_, rfl, _, rfl, D, _, _, _, rfl, rfl, lstAt (s30 _ _ eD22), al, el, _, _, rfl, tupAt (s30 _ _ hel22), rl0, rl1, rl2, rl3, by rw [e6], _, rfl, iteT ?_⟩
    refine ⟨_, rfl, x, dxr, fsr, rfl, s30 _ _ hxr, x, zs, [], [], ls, _, .ref c, some (os, b), rfl, (br22.same s30).at, ⟨c, rfl, k22.same s30, ok, l8, b0, b1⟩, fun H31 v7 s31' sv7 => ?_⟩
    obtain ⟨r7, hb7, ev7⟩ := sv7
    rw [fl' r7 hb7] at ev7
    have s31 := s30.trans s31'
    exact ⟨_, rfl, _, rfl, D, _, _, _, rfl, rfl, lstAt (s31 _ _ eD22), al, el, _, _, rfl, tupAt (s31 _ _ hel22), rl0, rl1, rl2, rl3, ev7, q _⟩
end
end TK

namespace TK
open PySem PySem.Spec PyProof.Rows L2 NdefX
theorem kit_off {K : PySem.W.Frag} {C : Addr} {T : String} (h1 : PySem.W.isClsIn K C = true) (h2 : PySem.W.typeIn K (.ref C) = some (.type "type")) (h3 : PySem.W.notFirst K C (.type T) = true) : PySem.W.kitOne K (.type T) (.ref C) = some false := by
  unfold PySem.W.notFirst at h3
  have e0 : ((Value.type T) == Value.ref C) = false := rfl
  rw [e0, Bool.false_or] at h3
  have h4 := eq_of_beq h3
  unfold PySem.W.kitOne PySem.W.kitCls
  rw [e0]
  unfold PySem.W.isClsIn at h1
  simp [h1, h2, h4]
/-- how the keywords of a def without defaults bind -/
theorem fun_kb {K : PySem.W.Frag} {x qual : Str} {st : Stmt} {f : Addr} {fd : FuncData} {ps : List Str} (F : Fun K x qual st f fd) (n : Nat) (ks : List Str)
    (h : ∀ (kV doc pm : Value) (an : Option Addr) (cdv ct : Value) (us ws : List Value), us.length = n → ws.length = ks.length → bindArgs (PySem.W.fnOf x qual (defArgs st) (defBody st) (defScope st) .none kV doc pm an cdv ct) ⟨us, ks.zip ws⟩ = pure (ps.zip (us ++ ws))) :
    KBn K fd ps n ks (fun us ws => us ++ ws) (fun vs zs => vs ++ zs) := by
  obtain ⟨oc, od, kV, doc, pm, an, cdv, ct, osl, rfl, lk, hcd⟩ := F.ex
  exact ⟨fun s us ws X l1 l2 => .of_eq (h _ _ _ _ _ _ us ws l1 l2), fun r1 r2 => r1.append r2⟩
/-- how best binds: with most by its name, and with nothing -/
theorem best_kb {K : PySem.W.Frag} {f : Addr} {fd : FuncData} (F : FunD K "best" "Guests.best" (defArgs s_Guests_best) (defBody s_Guests_best) (defScope s_Guests_best) [] [("most", V.non)] f fd) :
    (∃ g, KBn K fd ["self", "most"] 1 ["most"] g (fun vs zs => vs ++ zs)) ∧ ∃ ds, Vals [V.non] ds ∧ Binds K fd ["self", "most"] ds := by
  refine ⟨?_, ?_⟩
  · obtain ⟨mv, h⟩ := F.kbinds0 (ps := ["self", "most"]) 1 ["most"] [] (fun us _ ws => us ++ ws) (by decide) (fun q hq => nomatch hq) (fun a _ b => a.append b) fun D doc pm an cdv ct us mv ws h1 h2 h3 => match us, h1, mv, h2, ws, h3 with | [_], _, [], _, [_], _ => rfl
    exact ⟨_, h⟩
  · exact F.binds0 (ps := ["self", "most"]) 1 (by simp) rfl fun D doc pm an cdv ct us ks h1 h2 => match us, h1, ks, h2 with | [_], _, [_], _ => ⟨_, _, _, _, _, _, rfl, rfl, rfl⟩
def gN35 {α : Type} (us mv ws : List α) : List α := us ++ mv
def msN35 (EB EL : Addr) : List (Str × V) := [("weights", .non), ("hours", .int 1), ("guests", .non), ("limit", .non), ("barred", .ref EB), ("links", .ref EL), ("deposit", .int 0), ("fee", .int 1), ("start", .int 0)]
theorem bidN_kb {K : PySem.W.Frag} {cc cda D EB EL : Addr} {doc pm ct : Value} {an : Option Addr} (hq : ∀ q ∈ msN35 EB EL, ∃ u, PySem.W.nsIn K D q.1 = some (some u) ∧ RelV q.2 u) :
    ∃ g', KBn K (PySem.W.fnX "__init__" "BidRule.__init__" (defArgs s_BidRule_init) (defBody s_BidRule_init) (defScope s_BidRule_init) [("__class__", cc)] .none (.ref D) doc pm an (.ref cda) ct) ("self" :: brPs) 3 [] g' (fun vs zs => gN35 vs ((msN35 EB EL).map (·.2)) zs) :=
  kbX (kws := msN35 EB EL) hq 3 [] (msN35 EB EL) gN35 (fun _ h => h) (fun a b c => a.append b) fun us mv ws h1 h2 h3 => match us, h1, mv, h2, ws, h3 with
    | [_, _, _], _, [_, _, _, _, _, _, _, _, _], _, [], _ => ⟨_, _, _, _, _, _, rfl, rfl, ⟨_, _, _, _, _, _, rfl, rfl, ⟨_, _, _, _, _, _, rfl, rfl, ⟨_, _, _, _, _, _, rfl, rfl, ⟨_, _, _, _, _, _, rfl, rfl, ⟨_, _, _, _, _, _, rfl, rfl, ⟨_, _, _, _, _, _, rfl, rfl, ⟨_, _, _, _, _, _, rfl, rfl, ⟨_, _, _, _, _, _, rfl, rfl, rfl⟩⟩⟩⟩⟩⟩⟩⟩⟩

theorem all_mk {l : PySem.W.OpenLaw} {w : World} {K : PySem.W.Frag} {h : Heap} {mg : Str → Option Value} {fa f0 f1 f2 f3 f4 f5 f6 f7 f8 f9 f10 f11 f12 f13 f14 f15 f16 f17 f18 f19 f20 f21 f22 f23 f24 f25 f26 f27 f28 f29 f30 f31 f32 f33 : Addr} (X : K.In h) (G : h.Ns mainGlobals mg) (hfa : mg "law" = some (.ref fa))
    {tk : Tok}
    {CL CT C1 CG TP EP TI EI DN EB EL DLB pS pGF pBF : Addr} {restS restGF restBF : List Value} {odEB odEL : Option Addr} {slEB slEL : Array (Option Value)} {nEB nEL : Nat} {odTP odD odN2 odEm : Option Addr} {slTP slD slN2 slEm : Array (Option Value)} {ocTP ocD ocN2 : Value} {nTP nD nN nX : Nat} {tkL tkT : Tok}
    {fP : Addr} {odP anP : Option Addr} {slP : Array (Option Value)} {ocP kVP dcP pmP cdP ctP : Value}
    {fE : Addr} {odE anE : Option Addr} {slE : Array (Option Value)} {ocE kVE dcE pmE cdE ctE : Value}
    {fM : Addr} {odM anM : Option Addr} {slM : Array (Option Value)} {ocM kVM dcM pmM cdM ctM : Value}
    {fO : Addr} {odO anO : Option Addr} {slO : Array (Option Value)} {ocO kVO dcO pmO cdO ctO : Value}
    {fZ : Addr} {odZ anZ : Option Addr} {slZ : Array (Option Value)} {ocZ kVZ dcZ pmZ cdZ ctZ : Value}
    {fS : Addr} {odS anS : Option Addr} {slS : Array (Option Value)} {ocS kVS dcS pmS cdS ctS : Value}
    {fI : Addr} {odI anI : Option Addr} {slI : Array (Option Value)} {ocI kVI dcI pmI cdI ctI : Value}
    {fY : Addr} {odY anY : Option Addr} {slY : Array (Option Value)} {ocY kVY dcY pmY cdY ctY : Value}
    {fV : Addr} {odV anV : Option Addr} {slV : Array (Option Value)} {ocV kVV dcV pmV cdV ctV : Value}
    {fRi : Addr} {odRi anRi : Option Addr} {slRi : Array (Option Value)} {ocRi kVRi dcRi pmRi cdRi ctRi : Value}
    {fCh : Addr} {odCh anCh : Option Addr} {slCh : Array (Option Value)} {ocCh kVCh dcCh pmCh cdCh ctCh : Value}
    {fGi : Addr} {odGi anGi : Option Addr} {slGi : Array (Option Value)} {ocGi kVGi dcGi pmGi cdGi ctGi : Value}
    {fGm : Addr} {odGm anGm : Option Addr} {slGm : Array (Option Value)} {ocGm kVGm dcGm pmGm cdGm ctGm : Value}
    {fGp : Addr} {odGp anGp : Option Addr} {slGp : Array (Option Value)} {ocGp kVGp dcGp pmGp cdGp ctGp : Value}
    {fGc : Addr} {odGc anGc : Option Addr} {slGc : Array (Option Value)} {ocGc kVGc dcGc pmGc cdGc ctGc : Value}
    {fGb : Addr} {odGb anGb : Option Addr} {slGb : Array (Option Value)} {ocGb dcGb pmGb cdGb ctGb : Value}
    {fGe : Addr} {odGe anGe : Option Addr} {slGe : Array (Option Value)} {ocGe kVGe dcGe pmGe cdGe ctGe : Value}
    {fGF : Addr} {odGF anGF : Option Addr} {slGF : Array (Option Value)} {ocGF kVGF dcGF pmGF cdGF ctGF : Value}
    {fBF : Addr} {odBF anBF : Option Addr} {slBF : Array (Option Value)} {ocBF kVBF dcBF pmBF cdBF ctBF : Value}
    {fB ccB cdaB DB : Addr} {ocB cclB clB docB pmB ctB : Value} {anB odB cddB cldB : Option Addr} {oslB ccsB cslB : Array (Option Value)} {vsB : Array Value} {tfB : Tok} {fileB : Str} {tkB1 : Tok} {tkB6 : Tok} {tkB7 : Tok} {tkB8 : Tok}
    {od0 an0 : Option Addr} {sl0 : Array (Option Value)} {oc0 kV0 dc0 pm0 cd0 ct0 : Value}
    (a0 : PySem.W.nsIn K mainGlobals "_wall" = some (some (.ref f0))) (l0 : K.lookup f0 = some ⟨oc0, od0, .func (PySem.W.fnOf "_wall" "_wall" (defArgs s_wall) (defBody s_wall) (defScope s_wall) .none kV0 dc0 pm0 an0 cd0 ct0), sl0⟩) (c0 : PySem.W.codeIn K cd0 "_wall" = true) (k0 : PySem.W.keepIn K (.ref f0) = true)
    {od1 an1 : Option Addr} {sl1 : Array (Option Value)} {oc1 kV1 dc1 pm1 cd1 ct1 : Value}
    (a1 : PySem.W.nsIn K mainGlobals "is_name" = some (some (.ref f1))) (l1 : K.lookup f1 = some ⟨oc1, od1, .func (PySem.W.fnOf "is_name" "is_name" (defArgs s_is_name) (defBody s_is_name) (defScope s_is_name) .none kV1 dc1 pm1 an1 cd1 ct1), sl1⟩) (c1 : PySem.W.codeIn K cd1 "is_name" = true) (k1 : PySem.W.keepIn K (.ref f1) = true)
    {od2 an2 : Option Addr} {sl2 : Array (Option Value)} {oc2 kV2 dc2 pm2 cd2 ct2 : Value}
    (a2 : PySem.W.nsIn K mainGlobals "check_size" = some (some (.ref f2))) (l2 : K.lookup f2 = some ⟨oc2, od2, .func (PySem.W.fnOf "check_size" "check_size" (defArgs s_check_size) (defBody s_check_size) (defScope s_check_size) .none kV2 dc2 pm2 an2 cd2 ct2), sl2⟩) (c2 : PySem.W.codeIn K cd2 "check_size" = true) (k2 : PySem.W.keepIn K (.ref f2) = true)
    {od3 an3 : Option Addr} {sl3 : Array (Option Value)} {oc3 kV3 dc3 pm3 cd3 ct3 : Value}
    (a3 : PySem.W.nsIn K mainGlobals "check_range" = some (some (.ref f3))) (l3 : K.lookup f3 = some ⟨oc3, od3, .func (PySem.W.fnOf "check_range" "check_range" (defArgs s_check_range) (defBody s_check_range) (defScope s_check_range) .none kV3 dc3 pm3 an3 cd3 ct3), sl3⟩) (c3 : PySem.W.codeIn K cd3 "check_range" = true) (k3 : PySem.W.keepIn K (.ref f3) = true)
    {od4 an4 : Option Addr} {sl4 : Array (Option Value)} {oc4 kV4 dc4 pm4 cd4 ct4 : Value}
    (a4 : PySem.W.nsIn K mainGlobals "check_names" = some (some (.ref f4))) (l4 : K.lookup f4 = some ⟨oc4, od4, .func (PySem.W.fnOf "check_names" "check_names" (defArgs s_check_names) (defBody s_check_names) (defScope s_check_names) (.ref DN) kV4 dc4 pm4 an4 cd4 ct4), sl4⟩) (c4 : PySem.W.codeIn K cd4 "check_names" = true) (k4 : PySem.W.keepIn K (.ref f4) = true)
    {od5 an5 : Option Addr} {sl5 : Array (Option Value)} {oc5 kV5 dc5 pm5 cd5 ct5 : Value}
    (a5 : PySem.W.nsIn K mainGlobals "check_known" = some (some (.ref f5))) (l5 : K.lookup f5 = some ⟨oc5, od5, .func (PySem.W.fnOf "check_known" "check_known" (defArgs s_check_known) (defBody s_check_known) (defScope s_check_known) .none kV5 dc5 pm5 an5 cd5 ct5), sl5⟩) (c5 : PySem.W.codeIn K cd5 "check_known" = true) (k5 : PySem.W.keepIn K (.ref f5) = true)
    {od6 an6 : Option Addr} {sl6 : Array (Option Value)} {oc6 kV6 dc6 pm6 cd6 ct6 : Value}
    (a6 : PySem.W.nsIn K mainGlobals "check_picks" = some (some (.ref f6))) (l6 : K.lookup f6 = some ⟨oc6, od6, .func (PySem.W.fnOf "check_picks" "check_picks" (defArgs s_check_picks) (defBody s_check_picks) (defScope s_check_picks) .none kV6 dc6 pm6 an6 cd6 ct6), sl6⟩) (c6 : PySem.W.codeIn K cd6 "check_picks" = true) (k6 : PySem.W.keepIn K (.ref f6) = true)
    {od7 an7 : Option Addr} {sl7 : Array (Option Value)} {oc7 kV7 dc7 pm7 cd7 ct7 : Value}
    (a7 : PySem.W.nsIn K mainGlobals "_check_offers" = some (some (.ref f7))) (l7 : K.lookup f7 = some ⟨oc7, od7, .func (PySem.W.fnOf "_check_offers" "_check_offers" (defArgs s_check_offers) (defBody s_check_offers) (defScope s_check_offers) .none kV7 dc7 pm7 an7 cd7 ct7), sl7⟩) (c7 : PySem.W.codeIn K cd7 "_check_offers" = true) (k7 : PySem.W.keepIn K (.ref f7) = true)
    {od8 an8 : Option Addr} {sl8 : Array (Option Value)} {oc8 kV8 dc8 pm8 cd8 ct8 : Value}
    (a8 : PySem.W.nsIn K mainGlobals "plus" = some (some (.ref f8))) (l8 : K.lookup f8 = some ⟨oc8, od8, .func (PySem.W.fnOf "plus" "plus" (defArgs s_plus) (defBody s_plus) (defScope s_plus) .none kV8 dc8 pm8 an8 cd8 ct8), sl8⟩) (c8 : PySem.W.codeIn K cd8 "plus" = true) (k8 : PySem.W.keepIn K (.ref f8) = true)
    {od9 an9 : Option Addr} {sl9 : Array (Option Value)} {oc9 kV9 dc9 pm9 cd9 ct9 : Value}
    (a9 : PySem.W.nsIn K mainGlobals "least" = some (some (.ref f9))) (l9 : K.lookup f9 = some ⟨oc9, od9, .func (PySem.W.fnOf "least" "least" (defArgs s_least) (defBody s_least) (defScope s_least) .none kV9 dc9 pm9 an9 cd9 ct9), sl9⟩) (c9 : PySem.W.codeIn K cd9 "least" = true) (k9 : PySem.W.keepIn K (.ref f9) = true)
    {od10 an10 : Option Addr} {sl10 : Array (Option Value)} {oc10 kV10 dc10 pm10 cd10 ct10 : Value}
    (a10 : PySem.W.nsIn K mainGlobals "_check_entries" = some (some (.ref f10))) (l10 : K.lookup f10 = some ⟨oc10, od10, .func (PySem.W.fnOf "_check_entries" "_check_entries" (defArgs s_check_entries) (defBody s_check_entries) (defScope s_check_entries) .none kV10 dc10 pm10 an10 cd10 ct10), sl10⟩) (c10 : PySem.W.codeIn K cd10 "_check_entries" = true) (k10 : PySem.W.keepIn K (.ref f10) = true)
    {od11 an11 : Option Addr} {sl11 : Array (Option Value)} {oc11 kV11 dc11 pm11 cd11 ct11 : Value}
    (a11 : PySem.W.nsIn K mainGlobals "_least_tolls" = some (some (.ref f11))) (l11 : K.lookup f11 = some ⟨oc11, od11, .func (PySem.W.fnOf "_least_tolls" "_least_tolls" (defArgs s_least_tolls) (defBody s_least_tolls) (defScope s_least_tolls) .none kV11 dc11 pm11 an11 cd11 ct11), sl11⟩) (c11 : PySem.W.codeIn K cd11 "_least_tolls" = true) (k11 : PySem.W.keepIn K (.ref f11) = true)
    {od12 an12 : Option Addr} {sl12 : Array (Option Value)} {oc12 kV12 dc12 pm12 cd12 ct12 : Value}
    (a12 : PySem.W.nsIn K mainGlobals "_check_links" = some (some (.ref f12))) (l12 : K.lookup f12 = some ⟨oc12, od12, .func (PySem.W.fnOf "_check_links" "_check_links" (defArgs s_check_links) (defBody s_check_links) (defScope s_check_links) .none kV12 dc12 pm12 an12 cd12 ct12), sl12⟩) (c12 : PySem.W.codeIn K cd12 "_check_links" = true) (k12 : PySem.W.keepIn K (.ref f12) = true)
    {od13 an13 : Option Addr} {sl13 : Array (Option Value)} {oc13 kV13 dc13 pm13 cd13 ct13 : Value}
    (a13 : PySem.W.nsIn K mainGlobals "_hand_tolls" = some (some (.ref f13))) (l13 : K.lookup f13 = some ⟨oc13, od13, .func (PySem.W.fnOf "_hand_tolls" "_hand_tolls" (defArgs s_hand_tolls) (defBody s_hand_tolls) (defScope s_hand_tolls) .none kV13 dc13 pm13 an13 cd13 ct13), sl13⟩) (c13 : PySem.W.codeIn K cd13 "_hand_tolls" = true) (k13 : PySem.W.keepIn K (.ref f13) = true)
    {od14 an14 : Option Addr} {sl14 : Array (Option Value)} {oc14 kV14 dc14 pm14 cd14 ct14 : Value}
    (a14 : PySem.W.nsIn K mainGlobals "_shared_parts" = some (some (.ref f14))) (l14 : K.lookup f14 = some ⟨oc14, od14, .func (PySem.W.fnOf "_shared_parts" "_shared_parts" (defArgs s_shared_parts) (defBody s_shared_parts) (defScope s_shared_parts) .none kV14 dc14 pm14 an14 cd14 ct14), sl14⟩) (c14 : PySem.W.codeIn K cd14 "_shared_parts" = true) (k14 : PySem.W.keepIn K (.ref f14) = true)
    {od15 an15 : Option Addr} {sl15 : Array (Option Value)} {oc15 kV15 dc15 pm15 cd15 ct15 : Value}
    (a15 : PySem.W.nsIn K mainGlobals "_bid_parts" = some (some (.ref f15))) (l15 : K.lookup f15 = some ⟨oc15, od15, .func (PySem.W.fnOf "_bid_parts" "_bid_parts" (defArgs s_bid_parts) (defBody s_bid_parts) (defScope s_bid_parts) .none kV15 dc15 pm15 an15 cd15 ct15), sl15⟩) (c15 : PySem.W.codeIn K cd15 "_bid_parts" = true) (k15 : PySem.W.keepIn K (.ref f15) = true)
    {od16 an16 : Option Addr} {sl16 : Array (Option Value)} {oc16 kV16 dc16 pm16 cd16 ct16 : Value}
    (a16 : PySem.W.nsIn K mainGlobals "_facts" = some (some (.ref f16))) (l16 : K.lookup f16 = some ⟨oc16, od16, .func (PySem.W.fnOf "_facts" "_facts" (defArgs s_facts) (defBody s_facts) (defScope s_facts) .none kV16 dc16 pm16 an16 cd16 ct16), sl16⟩) (c16 : PySem.W.codeIn K cd16 "_facts" = true) (k16 : PySem.W.keepIn K (.ref f16) = true)
    {od17 an17 : Option Addr} {sl17 : Array (Option Value)} {oc17 kV17 dc17 pm17 cd17 ct17 : Value}
    (a17 : PySem.W.nsIn K mainGlobals "_law_cell" = some (some (.ref f17))) (l17 : K.lookup f17 = some ⟨oc17, od17, .func (PySem.W.fnOf "_law_cell" "_law_cell" (defArgs s_L_cell) (defBody s_L_cell) (defScope s_L_cell) .none kV17 dc17 pm17 an17 cd17 ct17), sl17⟩) (c17 : PySem.W.codeIn K cd17 "_law_cell" = true) (k17 : PySem.W.keepIn K (.ref f17) = true)
    {od18 an18 : Option Addr} {sl18 : Array (Option Value)} {oc18 kV18 dc18 pm18 cd18 ct18 : Value}
    (a18 : PySem.W.nsIn K mainGlobals "_law_mixed" = some (some (.ref f18))) (l18 : K.lookup f18 = some ⟨oc18, od18, .func (PySem.W.fnOf "_law_mixed" "_law_mixed" (defArgs s_L_mixed) (defBody s_L_mixed) (defScope s_L_mixed) .none kV18 dc18 pm18 an18 cd18 ct18), sl18⟩) (c18 : PySem.W.codeIn K cd18 "_law_mixed" = true) (k18 : PySem.W.keepIn K (.ref f18) = true)
    {od19 an19 : Option Addr} {sl19 : Array (Option Value)} {oc19 kV19 dc19 pm19 cd19 ct19 : Value}
    (a19 : PySem.W.nsIn K mainGlobals "_law_pool" = some (some (.ref f19))) (l19 : K.lookup f19 = some ⟨oc19, od19, .func (PySem.W.fnOf "_law_pool" "_law_pool" (defArgs s_L_pool) (defBody s_L_pool) (defScope s_L_pool) .none kV19 dc19 pm19 an19 cd19 ct19), sl19⟩) (c19 : PySem.W.codeIn K cd19 "_law_pool" = true) (k19 : PySem.W.keepIn K (.ref f19) = true)
    {od20 an20 : Option Addr} {sl20 : Array (Option Value)} {oc20 kV20 dc20 pm20 cd20 ct20 : Value}
    (a20 : PySem.W.nsIn K mainGlobals "_law_part" = some (some (.ref f20))) (l20 : K.lookup f20 = some ⟨oc20, od20, .func (PySem.W.fnOf "_law_part" "_law_part" (defArgs s_L_part) (defBody s_L_part) (defScope s_L_part) .none kV20 dc20 pm20 an20 cd20 ct20), sl20⟩) (c20 : PySem.W.codeIn K cd20 "_law_part" = true) (k20 : PySem.W.keepIn K (.ref f20) = true)
    {od21 an21 : Option Addr} {sl21 : Array (Option Value)} {oc21 kV21 dc21 pm21 cd21 ct21 : Value}
    (a21 : PySem.W.nsIn K mainGlobals "_law_names" = some (some (.ref f21))) (l21 : K.lookup f21 = some ⟨oc21, od21, .func (PySem.W.fnOf "_law_names" "_law_names" (defArgs s_L_names) (defBody s_L_names) (defScope s_L_names) .none kV21 dc21 pm21 an21 cd21 ct21), sl21⟩) (c21 : PySem.W.codeIn K cd21 "_law_names" = true) (k21 : PySem.W.keepIn K (.ref f21) = true)
    {od22 an22 : Option Addr} {sl22 : Array (Option Value)} {oc22 kV22 dc22 pm22 cd22 ct22 : Value}
    (a22 : PySem.W.nsIn K mainGlobals "_law_far" = some (some (.ref f22))) (l22 : K.lookup f22 = some ⟨oc22, od22, .func (PySem.W.fnOf "_law_far" "_law_far" (defArgs s_L_far) (defBody s_L_far) (defScope s_L_far) .none kV22 dc22 pm22 an22 cd22 ct22), sl22⟩) (c22 : PySem.W.codeIn K cd22 "_law_far" = true) (k22 : PySem.W.keepIn K (.ref f22) = true)
    {od23 an23 : Option Addr} {sl23 : Array (Option Value)} {oc23 kV23 dc23 pm23 cd23 ct23 : Value}
    (a23 : PySem.W.nsIn K mainGlobals "_law_chosen" = some (some (.ref f23))) (l23 : K.lookup f23 = some ⟨oc23, od23, .func (PySem.W.fnOf "_law_chosen" "_law_chosen" (defArgs s_L_chosen) (defBody s_L_chosen) (defScope s_L_chosen) .none kV23 dc23 pm23 an23 cd23 ct23), sl23⟩) (c23 : PySem.W.codeIn K cd23 "_law_chosen" = true) (k23 : PySem.W.keepIn K (.ref f23) = true)
    {od24 an24 : Option Addr} {sl24 : Array (Option Value)} {oc24 kV24 dc24 pm24 cd24 ct24 : Value}
    (a24 : PySem.W.nsIn K mainGlobals "_law_goods" = some (some (.ref f24))) (l24 : K.lookup f24 = some ⟨oc24, od24, .func (PySem.W.fnOf "_law_goods" "_law_goods" (defArgs s_L_goods) (defBody s_L_goods) (defScope s_L_goods) .none kV24 dc24 pm24 an24 cd24 ct24), sl24⟩) (c24 : PySem.W.codeIn K cd24 "_law_goods" = true) (k24 : PySem.W.keepIn K (.ref f24) = true)
    {od25 an25 : Option Addr} {sl25 : Array (Option Value)} {oc25 kV25 dc25 pm25 cd25 ct25 : Value}
    (a25 : PySem.W.nsIn K mainGlobals "_law_beside" = some (some (.ref f25))) (l25 : K.lookup f25 = some ⟨oc25, od25, .func (PySem.W.fnOf "_law_beside" "_law_beside" (defArgs s_L_beside) (defBody s_L_beside) (defScope s_L_beside) .none kV25 dc25 pm25 an25 cd25 ct25), sl25⟩) (c25 : PySem.W.codeIn K cd25 "_law_beside" = true) (k25 : PySem.W.keepIn K (.ref f25) = true)
    {od26 an26 : Option Addr} {sl26 : Array (Option Value)} {oc26 kV26 dc26 pm26 cd26 ct26 : Value}
    (a26 : PySem.W.nsIn K mainGlobals "_law_few" = some (some (.ref f26))) (l26 : K.lookup f26 = some ⟨oc26, od26, .func (PySem.W.fnOf "_law_few" "_law_few" (defArgs s_L_few) (defBody s_L_few) (defScope s_L_few) .none kV26 dc26 pm26 an26 cd26 ct26), sl26⟩) (c26 : PySem.W.codeIn K cd26 "_law_few" = true) (k26 : PySem.W.keepIn K (.ref f26) = true)
    {od27 an27 : Option Addr} {sl27 : Array (Option Value)} {oc27 kV27 dc27 pm27 cd27 ct27 : Value}
    (a27 : PySem.W.nsIn K mainGlobals "_law_lowest" = some (some (.ref f27))) (l27 : K.lookup f27 = some ⟨oc27, od27, .func (PySem.W.fnOf "_law_lowest" "_law_lowest" (defArgs s_L_lowest) (defBody s_L_lowest) (defScope s_L_lowest) .none kV27 dc27 pm27 an27 cd27 ct27), sl27⟩) (c27 : PySem.W.codeIn K cd27 "_law_lowest" = true) (k27 : PySem.W.keepIn K (.ref f27) = true)
    {od28 an28 : Option Addr} {sl28 : Array (Option Value)} {oc28 kV28 dc28 pm28 cd28 ct28 : Value}
    (a28 : PySem.W.nsIn K mainGlobals "_law_lots" = some (some (.ref f28))) (l28 : K.lookup f28 = some ⟨oc28, od28, .func (PySem.W.fnOf "_law_lots" "_law_lots" (defArgs s_L_lots) (defBody s_L_lots) (defScope s_L_lots) .none kV28 dc28 pm28 an28 cd28 ct28), sl28⟩) (c28 : PySem.W.codeIn K cd28 "_law_lots" = true) (k28 : PySem.W.keepIn K (.ref f28) = true)
    {od29 an29 : Option Addr} {sl29 : Array (Option Value)} {oc29 kV29 dc29 pm29 cd29 ct29 : Value}
    (a29 : PySem.W.nsIn K mainGlobals "_law_tops" = some (some (.ref f29))) (l29 : K.lookup f29 = some ⟨oc29, od29, .func (PySem.W.fnOf "_law_tops" "_law_tops" (defArgs s_L_tops) (defBody s_L_tops) (defScope s_L_tops) .none kV29 dc29 pm29 an29 cd29 ct29), sl29⟩) (c29 : PySem.W.codeIn K cd29 "_law_tops" = true) (k29 : PySem.W.keepIn K (.ref f29) = true)
    {od30 an30 : Option Addr} {sl30 : Array (Option Value)} {oc30 kV30 dc30 pm30 cd30 ct30 : Value}
    (a30 : PySem.W.nsIn K mainGlobals "_law_floor_of" = some (some (.ref f30))) (l30 : K.lookup f30 = some ⟨oc30, od30, .func (PySem.W.fnOf "_law_floor_of" "_law_floor_of" (defArgs s_L_floor_of) (defBody s_L_floor_of) (defScope s_L_floor_of) .none kV30 dc30 pm30 an30 cd30 ct30), sl30⟩) (c30 : PySem.W.codeIn K cd30 "_law_floor_of" = true) (k30 : PySem.W.keepIn K (.ref f30) = true)
    {od31 an31 : Option Addr} {sl31 : Array (Option Value)} {oc31 kV31 dc31 pm31 cd31 ct31 : Value}
    (a31 : PySem.W.nsIn K mainGlobals "_law_integer" = some (some (.ref f31))) (l31 : K.lookup f31 = some ⟨oc31, od31, .func (PySem.W.fnOf "_law_integer" "_law_integer" (defArgs s_L_integer) (defBody s_L_integer) (defScope s_L_integer) .none kV31 dc31 pm31 an31 cd31 ct31), sl31⟩) (c31 : PySem.W.codeIn K cd31 "_law_integer" = true) (k31 : PySem.W.keepIn K (.ref f31) = true)
    {od32 an32 : Option Addr} {sl32 : Array (Option Value)} {oc32 kV32 dc32 pm32 cd32 ct32 : Value}
    (a32 : PySem.W.nsIn K mainGlobals "_law_same" = some (some (.ref f32))) (l32 : K.lookup f32 = some ⟨oc32, od32, .func (PySem.W.fnOf "_law_same" "_law_same" (defArgs s_L_same) (defBody s_L_same) (defScope s_L_same) .none kV32 dc32 pm32 an32 cd32 ct32), sl32⟩) (c32 : PySem.W.codeIn K cd32 "_law_same" = true) (k32 : PySem.W.keepIn K (.ref f32) = true)
    {od33 an33 : Option Addr} {sl33 : Array (Option Value)} {oc33 kV33 dc33 pm33 cd33 ct33 : Value}
    (a33 : PySem.W.nsIn K mainGlobals "law" = some (some (.ref f33))) (l33 : K.lookup f33 = some ⟨oc33, od33, .func (PySem.W.fnOf "law" "law" (defArgs s_law) (defBody s_law) (defScope s_law) .none kV33 dc33 pm33 an33 cd33 ct33), sl33⟩) (c33 : PySem.W.codeIn K cd33 "law" = true) (k33 : PySem.W.keepIn K (.ref f33) = true)
    (aL : PySem.W.nsIn K mainGlobals "LETTERS" = some (some (.str lettersZ tk)))
    (z_len : PySem.W.nsIn K mainGlobals "len" = some none)
    (z_all : PySem.W.nsIn K mainGlobals "all" = some none)
    (z_enumerate : PySem.W.nsIn K mainGlobals "enumerate" = some none)
    (z_tuple : PySem.W.nsIn K mainGlobals "tuple" = some none)
    (z_list : PySem.W.nsIn K mainGlobals "list" = some none)
    (z_range : PySem.W.nsIn K mainGlobals "range" = some none)
    (z_abs : PySem.W.nsIn K mainGlobals "abs" = some none)
    (z_int : PySem.W.nsIn K mainGlobals "int" = some none)
    (z_isinstance : PySem.W.nsIn K mainGlobals "isinstance" = some none)
    (z_bool : PySem.W.nsIn K mainGlobals "bool" = some none)
    (z_str : PySem.W.nsIn K mainGlobals "str" = some none)
    (z_iter : PySem.W.nsIn K mainGlobals "iter" = some none)
    (z_sum : PySem.W.nsIn K mainGlobals "sum" = some none)
    (z_sorted : PySem.W.nsIn K mainGlobals "sorted" = some none)
    (z_min : PySem.W.nsIn K mainGlobals "min" = some none)
    (aML : PySem.W.nsIn K mainGlobals "MOST_LINKS" = some (some (.int 12 tkL))) (aMT : PySem.W.nsIn K mainGlobals "MOST_TOLL" = some (some (.int 1000000000 tkT)))
    (aLi : PySem.W.nsIn K mainGlobals "Links" = some (some (.ref CL))) (aTo : PySem.W.nsIn K mainGlobals "Tolls" = some (some (.ref CT))) (aBi : PySem.W.nsIn K mainGlobals "BidRule" = some (some (.ref C1))) (aGu : PySem.W.nsIn K mainGlobals "Guests" = some (some (.ref CG))) (aGcd : PySem.W.nsIn K mainGlobals "gcd" = some (some (.builtin "math.gcd"))) (haG : PySem.W.findIn K (.ref CG) "__class__" = some (some (.builtin "object.__class__"))) (hnG : PySem.W.specialIn K (.builtin "object.__class__") "__get__" = some (some (.builtin "getset_descriptor.__get__"))) (htkG : PySem.W.takesIn K (.builtin "object.__class__") = some true) (hmG : PySem.W.mroIn K CG (.type "object") = some true)
    (aP : PySem.W.findIn K (.ref CT) "__init__" = some (some (.ref fP))) (iP : PySem.W.isFn K (.ref fP) = true) (lP : K.lookup fP = some ⟨ocP, odP, .func (PySem.W.fnOf "__init__" "Tolls.__init__" (defArgs s_Tolls_init) (defBody s_Tolls_init) (defScope s_Tolls_init) (.ref TP) kVP dcP pmP anP cdP ctP), slP⟩) (cP : PySem.W.codeIn K cdP "Tolls.__init__" = true) (kP : PySem.W.keepIn K (.ref fP) = true)
    (aE : PySem.W.findIn K (.ref CT) "entries" = some (some (.ref fE))) (iE : PySem.W.isFn K (.ref fE) = true) (lE : K.lookup fE = some ⟨ocE, odE, .func (PySem.W.fnOf "entries" "Tolls.entries" (defArgs s_Tolls_entries) (defBody s_Tolls_entries) (defScope s_Tolls_entries) .none kVE dcE pmE anE cdE ctE), slE⟩) (cE : PySem.W.codeIn K cdE "Tolls.entries" = true) (kE : PySem.W.keepIn K (.ref fE) = true)
    (aM : PySem.W.findIn K (.ref CT) "__mul__" = some (some (.ref fM))) (iM : PySem.W.isFn K (.ref fM) = true) (lM : K.lookup fM = some ⟨ocM, odM, .func (PySem.W.fnOf "__mul__" "Tolls.__mul__" (defArgs s_Tolls_mul) (defBody s_Tolls_mul) (defScope s_Tolls_mul) .none kVM dcM pmM anM cdM ctM), slM⟩) (cM : PySem.W.codeIn K cdM "Tolls.__mul__" = true) (kM : PySem.W.keepIn K (.ref fM) = true)
    (aO : PySem.W.findIn K (.ref CT) "__or__" = some (some (.ref fO))) (iO : PySem.W.isFn K (.ref fO) = true) (lO : K.lookup fO = some ⟨ocO, odO, .func (PySem.W.fnOf "__or__" "Tolls.__or__" (defArgs s_Tolls_or) (defBody s_Tolls_or) (defScope s_Tolls_or) .none kVO dcO pmO anO cdO ctO), slO⟩) (cO : PySem.W.codeIn K cdO "Tolls.__or__" = true) (kO : PySem.W.keepIn K (.ref fO) = true)
    (aZ : PySem.W.findIn K (.ref CT) "closed" = some (some (.ref fZ))) (iZ : PySem.W.isFn K (.ref fZ) = true) (lZ : K.lookup fZ = some ⟨ocZ, odZ, .func (PySem.W.fnOf "closed" "Tolls.closed" (defArgs s_Tolls_closed) (defBody s_Tolls_closed) (defScope s_Tolls_closed) .none kVZ dcZ pmZ anZ cdZ ctZ), slZ⟩) (cZ : PySem.W.codeIn K cdZ "Tolls.closed" = true) (kZ : PySem.W.keepIn K (.ref fZ) = true)
    (aS : PySem.W.findCls K (.ref CT) (.type "type") "same" = some (.get (.builtin "staticmethod.__get__") (.ref pS) .none (.ref CT))) (rS : PySem.W.recIn K pS "staticmethod" = some (.ref fS :: restS)) (iS : PySem.W.isFn K (.ref fS) = true) (lS : K.lookup fS = some ⟨ocS, odS, .func (PySem.W.fnOf "same" "Tolls.same" (defArgs s_Tolls_same) (defBody s_Tolls_same) (defScope s_Tolls_same) .none kVS dcS pmS anS cdS ctS), slS⟩) (cS : PySem.W.codeIn K cdS "Tolls.same" = true) (kS : PySem.W.keepIn K (.ref fS) = true)
    (aI : PySem.W.findIn K (.ref CL) "__init__" = some (some (.ref fI))) (iI : PySem.W.isFn K (.ref fI) = true) (lI : K.lookup fI = some ⟨ocI, odI, .func (PySem.W.fnOf "__init__" "Links.__init__" (defArgs s_Links_init) (defBody s_Links_init) (defScope s_Links_init) (.ref TI) kVI dcI pmI anI cdI ctI), slI⟩) (cI : PySem.W.codeIn K cdI "Links.__init__" = true) (kI : PySem.W.keepIn K (.ref fI) = true)
    (aY : PySem.W.findIn K (.ref CL) "__iter__" = some (some (.ref fY))) (iY : PySem.W.isFn K (.ref fY) = true) (lY : K.lookup fY = some ⟨ocY, odY, .func (PySem.W.fnOf "__iter__" "Links.__iter__" (defArgs s_Links_iter) (defBody s_Links_iter) (defScope s_Links_iter) .none kVY dcY pmY anY cdY ctY), slY⟩) (cY : PySem.W.codeIn K cdY "Links.__iter__" = true) (kY : PySem.W.keepIn K (.ref fY) = true)
    (aV : PySem.W.findIn K (.ref CL) "tolls" = some (some (.ref fV))) (iV : PySem.W.isFn K (.ref fV) = true) (lV : K.lookup fV = some ⟨ocV, odV, .func (PySem.W.fnOf "tolls" "Links.tolls" (defArgs s_Links_tolls) (defBody s_Links_tolls) (defScope s_Links_tolls) .none kVV dcV pmV anV cdV ctV), slV⟩) (cV : PySem.W.codeIn K cdV "Links.tolls" = true) (kV : PySem.W.keepIn K (.ref fV) = true)
    (al1 : PySem.W.ks_superIn K C1 C1 "__init__" = some (some (.ref fRi))) (tyRi : PySem.W.typeIn K (.ref fRi) = some (.type "function")) (fiRi : PySem.W.fnIn K fRi = true) (iRi : PySem.W.isFn K (.ref fRi) = true) (lRi : K.lookup fRi = some ⟨ocRi, odRi, .func (PySem.W.fnOf "__init__" "Rule.__init__" (defArgs s_Rule_init) (defBody s_Rule_init) (defScope s_Rule_init) .none kVRi dcRi pmRi anRi cdRi ctRi), slRi⟩) (cRi : PySem.W.codeIn K cdRi "Rule.__init__" = true) (kRi : PySem.W.keepIn K (.ref fRi) = true)
    (aCh : PySem.W.findIn K (.ref C1) "changed" = some (some (.ref fCh))) (iCh : PySem.W.isFn K (.ref fCh) = true) (lCh : K.lookup fCh = some ⟨ocCh, odCh, .func (PySem.W.fnOf "changed" "BidRule.changed" (defArgs s_BidRule_changed) (defBody s_BidRule_changed) (defScope s_BidRule_changed) .none kVCh dcCh pmCh anCh cdCh ctCh), slCh⟩) (cCh : PySem.W.codeIn K cdCh "BidRule.changed" = true) (kCh : PySem.W.keepIn K (.ref fCh) = true)
    (aGi : PySem.W.findIn K (.ref CG) "__init__" = some (some (.ref fGi))) (iGi : PySem.W.isFn K (.ref fGi) = true) (lGi : K.lookup fGi = some ⟨ocGi, odGi, .func (PySem.W.fnOf "__init__" "Guests.__init__" (defArgs s_Guests_init) (defBody s_Guests_init) (defScope s_Guests_init) .none kVGi dcGi pmGi anGi cdGi ctGi), slGi⟩) (cGi : PySem.W.codeIn K cdGi "Guests.__init__" = true) (kGi : PySem.W.keepIn K (.ref fGi) = true)
    (aGm : PySem.W.findIn K (.ref CG) "mean" = some (some (.ref fGm))) (iGm : PySem.W.isFn K (.ref fGm) = true) (lGm : K.lookup fGm = some ⟨ocGm, odGm, .func (PySem.W.fnOf "mean" "Guests.mean" (defArgs s_Guests_mean) (defBody s_Guests_mean) (defScope s_Guests_mean) .none kVGm dcGm pmGm anGm cdGm ctGm), slGm⟩) (cGm : PySem.W.codeIn K cdGm "Guests.mean" = true) (kGm : PySem.W.keepIn K (.ref fGm) = true)
    (aGp : PySem.W.findIn K (.ref CG) "_picked" = some (some (.ref fGp))) (iGp : PySem.W.isFn K (.ref fGp) = true) (lGp : K.lookup fGp = some ⟨ocGp, odGp, .func (PySem.W.fnOf "_picked" "Guests._picked" (defArgs s_Guests_picked) (defBody s_Guests_picked) (defScope s_Guests_picked) .none kVGp dcGp pmGp anGp cdGp ctGp), slGp⟩) (cGp : PySem.W.codeIn K cdGp "Guests._picked" = true) (kGp : PySem.W.keepIn K (.ref fGp) = true)
    (aGc : PySem.W.findIn K (.ref CG) "_climbed" = some (some (.ref fGc))) (iGc : PySem.W.isFn K (.ref fGc) = true) (lGc : K.lookup fGc = some ⟨ocGc, odGc, .func (PySem.W.fnOf "_climbed" "Guests._climbed" (defArgs s_Guests_climbed) (defBody s_Guests_climbed) (defScope s_Guests_climbed) .none kVGc dcGc pmGc anGc cdGc ctGc), slGc⟩) (cGc : PySem.W.codeIn K cdGc "Guests._climbed" = true) (kGc : PySem.W.keepIn K (.ref fGc) = true)
    (aGb : PySem.W.findIn K (.ref CG) "best" = some (some (.ref fGb))) (iGb : PySem.W.isFn K (.ref fGb) = true) (lGb : K.lookup fGb = some ⟨ocGb, odGb, .func (PySem.W.fnOf "best" "Guests.best" (defArgs s_Guests_best) (defBody s_Guests_best) (defScope s_Guests_best) .none (.ref DLB) dcGb pmGb anGb cdGb ctGb), slGb⟩) (cGb : PySem.W.codeIn K cdGb "Guests.best" = true) (kGb : PySem.W.keepIn K (.ref fGb) = true)
    (aGe : PySem.W.findIn K (.ref CG) "__eq__" = some (some (.ref fGe))) (iGe : PySem.W.isFn K (.ref fGe) = true) (lGe : K.lookup fGe = some ⟨ocGe, odGe, .func (PySem.W.fnOf "__eq__" "Guests.__eq__" (defArgs s_Guests_eq) (defBody s_Guests_eq) (defScope s_Guests_eq) .none kVGe dcGe pmGe anGe cdGe ctGe), slGe⟩) (cGe : PySem.W.codeIn K cdGe "Guests.__eq__" = true) (kGe : PySem.W.keepIn K (.ref fGe) = true)
    (aGF : PySem.W.findIn K (.ref CG) "floor" = some (some (.ref pGF))) (gtGF : PySem.W.specialIn K (.ref pGF) "__get__" = some (some (.builtin "property.__get__"))) (tkGF : PySem.W.takesIn K (.ref pGF) = some true) (rGF : PySem.W.recIn K pGF "property" = some (.ref fGF :: restGF)) (iGF : PySem.W.isFn K (.ref fGF) = true) (lGF : K.lookup fGF = some ⟨ocGF, odGF, .func (PySem.W.fnOf "floor" "Guests.floor" (defArgs s_Guests_floor) (defBody s_Guests_floor) (defScope s_Guests_floor) .none kVGF dcGF pmGF anGF cdGF ctGF), slGF⟩) (cGF : PySem.W.codeIn K cdGF "Guests.floor" = true) (kGF : PySem.W.keepIn K (.ref fGF) = true)
    (aBF : PySem.W.findIn K (.ref C1) "floor" = some (some (.ref pBF))) (gtBF : PySem.W.specialIn K (.ref pBF) "__get__" = some (some (.builtin "property.__get__"))) (tkBF : PySem.W.takesIn K (.ref pBF) = some true) (rBF : PySem.W.recIn K pBF "property" = some (.ref fBF :: restBF)) (iBF : PySem.W.isFn K (.ref fBF) = true) (lBF : K.lookup fBF = some ⟨ocBF, odBF, .func (PySem.W.fnOf "floor" "BidRule.floor" (defArgs s_BidRule_floor) (defBody s_BidRule_floor) (defScope s_BidRule_floor) .none kVBF dcBF pmBF anBF cdBF ctBF), slBF⟩) (cBF : PySem.W.codeIn K cdBF "BidRule.floor" = true) (kBF : PySem.W.keepIn K (.ref fBF) = true)
    (aB : PySem.W.findIn K (.ref C1) "__init__" = some (some (.ref fB))) (iB : PySem.W.isFn K (.ref fB) = true)
    (lB : K.lookup fB = some ⟨ocB, odB, .func (PySem.W.fnX "__init__" "BidRule.__init__" (defArgs s_BidRule_init) (defBody s_BidRule_init) (defScope s_BidRule_init) [("__class__", ccB)] .none (.ref DB) docB pmB anB (.ref cdaB) ctB), oslB⟩) (cB : PySem.W.codeIn K (.ref cdaB) "BidRule.__init__" = true)
    (hcB : K.lookup cdaB = some ⟨cclB, cddB, .fields vsB, ccsB⟩) (hvB : vsB[2]? = some (.str fileB tfB)) (hfB : ((l.prog.main.file : Str) == fileB) = true) (hlB : K.lookup ccB = some ⟨clB, cldB, .cell (some (.ref C1)), cslB⟩)
    (hmB : PySem.W.mroIn K C1 (.ref C1) = some true) (isB : PySem.W.isClsIn K C1 = true) (nB0 : PySem.W.nsIn K DB "weights" = some (some .none)) (nB1 : PySem.W.nsIn K DB "hours" = some (some (.int 1 tkB1))) (nB2 : PySem.W.nsIn K DB "guests" = some (some .none)) (nB3 : PySem.W.nsIn K DB "limit" = some (some .none)) (nB4 : PySem.W.nsIn K DB "barred" = some (some (.ref EB))) (nB5 : PySem.W.nsIn K DB "links" = some (some (.ref EL))) (nB6 : PySem.W.nsIn K DB "deposit" = some (some (.int 0 tkB6))) (nB7 : PySem.W.nsIn K DB "fee" = some (some (.int 1 tkB7))) (nB8 : PySem.W.nsIn K DB "start" = some (some (.int 0 tkB8)))
    (pgL : PySem.W.plainGet K CL Str.empty = true) (hdL : PySem.W.hasDictIn K CL = true) (poL : PySem.W.plainOver K CL = true) (saL : PySem.W.findIn K (.ref CL) "__setattr__" = some (some (.builtin "object.__setattr__"))) (mkL : PySem.W.makesIn K CL = true) (kcL : PySem.W.keepIn K (.ref CL) = true) (nA0L : PySem.W.findIn K (.ref CL) "names" = some none) (nA1L : PySem.W.findIn K (.ref CL) "links" = some none)
    (pgT : PySem.W.plainGet K CT Str.empty = true) (hdT : PySem.W.hasDictIn K CT = true) (poT : PySem.W.plainOver K CT = true) (saT : PySem.W.findIn K (.ref CT) "__setattr__" = some (some (.builtin "object.__setattr__"))) (mkT : PySem.W.makesIn K CT = true) (kcT : PySem.W.keepIn K (.ref CT) = true) (nA0T : PySem.W.findIn K (.ref CT) "names" = some none) (nA1T : PySem.W.findIn K (.ref CT) "_prices" = some none)
    (pg1 : PySem.W.plainGet K C1 Str.empty = true) (hd1 : PySem.W.hasDictIn K C1 = true) (po1 : PySem.W.plainOver K C1 = true) (sa1 : PySem.W.findIn K (.ref C1) "__setattr__" = some (some (.builtin "object.__setattr__"))) (mk1 : PySem.W.makesIn K C1 = true) (kc1 : PySem.W.keepIn K (.ref C1) = true) (nA01 : PySem.W.findIn K (.ref C1) "name" = some none) (nA11 : PySem.W.findIn K (.ref C1) "members" = some none) (nA21 : PySem.W.findIn K (.ref C1) "limit" = some none) (nA31 : PySem.W.findIn K (.ref C1) "barred" = some none) (nA41 : PySem.W.findIn K (.ref C1) "links" = some none) (nA51 : PySem.W.findIn K (.ref C1) "deposit" = some none) (nA61 : PySem.W.findIn K (.ref C1) "fee" = some none) (nA71 : PySem.W.findIn K (.ref C1) "start" = some none) (nA81 : PySem.W.findIn K (.ref C1) "_hand_tolls" = some none) (nA91 : PySem.W.findIn K (.ref C1) "weights" = some none) (nA101 : PySem.W.findIn K (.ref C1) "hours" = some none) (nA111 : PySem.W.findIn K (.ref C1) "guests" = some none)
    (pgG : PySem.W.plainGet K CG Str.empty = true) (hdG : PySem.W.hasDictIn K CG = true) (poG : PySem.W.plainOver K CG = true) (saG : PySem.W.findIn K (.ref CG) "__setattr__" = some (some (.builtin "object.__setattr__"))) (mkG : PySem.W.makesIn K CG = true) (kcG : PySem.W.keepIn K (.ref CG) = true) (nA0G : PySem.W.findIn K (.ref CG) "offers" = some none) (nA1G : PySem.W.findIn K (.ref CG) "aside" = some none)
    (lTP : K.lookup TP = some ⟨ocTP, odTP, .seq (List.toArray [Value.ref EP]) nTP, slTP⟩) (lTI : K.lookup TI = some ⟨ocD, odD, .seq (List.toArray [Value.ref EI]) nD, slD⟩) (lEI : K.lookup EI = some ⟨.type "tuple", odEm, .seq (List.toArray []) nX, slEm⟩)
    (lDN : K.lookup DN = some ⟨ocN2, odN2, .seq (List.toArray [Value.bool false]) nN, slN2⟩) (lEB : K.lookup EB = some ⟨.type "tuple", odEB, .seq (List.toArray []) nEB, slEB⟩) (lEL : K.lookup EL = some ⟨.type "tuple", odEL, .seq (List.toArray []) nEL, slEL⟩) (nMo : PySem.W.nsIn K DLB "most" = some (some Value.none))
    (sf : PySem.W.selfFirst K CT = true) (rdC : PySem.W.readsIn K CT (.type "type") = true) (gaC : PySem.W.specialIn K (.ref CT) "__getattribute__" = some (some (.builtin "type.__getattribute__")))
    (htopS : (l.prog.main.scope.names.lookup ("super" : Str)).isSome = false) (z_super : PySem.W.nsIn K mainGlobals "super" = some none) (hstS : PySem.W.nsIn K cStatics "thirdparty.any" = some none) :
    ∃ fd : FuncData, (∀ (s : Shared) (v : Value), BindsTo s fd ⟨[v], []⟩ [("_law_script", v)]) ∧ ∀ base : Heap, K.In base → base.Ns mainGlobals mg → FnOk l.prog w K mg base CX0 12 fa fd ["_law_script"] (spLaw K) := by
  have e := hfa.symm.trans (PySem.W.mg_of X G a33)
  cases e
  have m_len := PySem.W.mg_none_of X G z_len
  have m_all := PySem.W.mg_none_of X G z_all
  have m_enumerate := PySem.W.mg_none_of X G z_enumerate
  have m_tuple := PySem.W.mg_none_of X G z_tuple
  have m_list := PySem.W.mg_none_of X G z_list
  have m_range := PySem.W.mg_none_of X G z_range
  have m_abs := PySem.W.mg_none_of X G z_abs
  have m_int := PySem.W.mg_none_of X G z_int
  have m_isinstance := PySem.W.mg_none_of X G z_isinstance
  have m_bool := PySem.W.mg_none_of X G z_bool
  have m_str := PySem.W.mg_none_of X G z_str
  have m_iter := PySem.W.mg_none_of X G z_iter
  have m_sum := PySem.W.mg_none_of X G z_sum
  have m_sorted := PySem.W.mg_none_of X G z_sorted
  have m_min := PySem.W.mg_none_of X G z_min
  have F0 := fun_mk (st := s_wall) l0 c0 k0
  have b0 := F0.binds (ps := ["k"]) fun _ _ _ _ _ _ us hl => match us, hl with | [_], _ => rfl
  have g0 := PySem.W.mg_of X G a0
  have F1 := fun_mk (st := s_is_name) l1 c1 k1
  have b1 := F1.binds (ps := ["word"]) fun _ _ _ _ _ _ us hl => match us, hl with | [_], _ => rfl
  have g1 := PySem.W.mg_of X G a1
  have F2 := fun_mk (st := s_check_size) l2 c2 k2
  have b2 := F2.binds (ps := ["size", "low", "high"]) fun _ _ _ _ _ _ us hl => match us, hl with | [_, _, _], _ => rfl
  have g2 := PySem.W.mg_of X G a2
  have F3 := fun_mk (st := s_check_range) l3 c3 k3
  have b3 := F3.binds (ps := ["number", "low", "high"]) fun _ _ _ _ _ _ us hl => match us, hl with | [_, _, _], _ => rfl
  have g3 := PySem.W.mg_of X G a3
  have F4 : FunD K "check_names" "check_names" (defArgs s_check_names) (defBody s_check_names) (defScope s_check_names) [V.bl false] [] f4 _ := ⟨⟨oc4, od4, .ref DN, kV4, dc4, pm4, an4, cd4, ct4, sl4, rfl, l4, c4, .inr ⟨by simp, DN, _, [Value.bool false], nN, rfl, lDN, rfl, .cons rfl .nil⟩, .inl rfl⟩, k4⟩
  have g4 := PySem.W.mg_of X G a4
  have F5 := fun_mk (st := s_check_known) l5 c5 k5
  have b5 := F5.binds (ps := ["names", "known"]) fun _ _ _ _ _ _ us hl => match us, hl with | [_, _], _ => rfl
  have g5 := PySem.W.mg_of X G a5
  have F6 := fun_mk (st := s_check_picks) l6 c6 k6
  have b6 := F6.binds (ps := ["picks", "known"]) fun _ _ _ _ _ _ us hl => match us, hl with | [_, _], _ => rfl
  have g6 := PySem.W.mg_of X G a6
  have F7 := fun_mk (st := s_check_offers) l7 c7 k7
  have b7 := F7.binds (ps := ["offers"]) fun _ _ _ _ _ _ us hl => match us, hl with | [_], _ => rfl
  have g7 := PySem.W.mg_of X G a7
  have F8 := fun_mk (st := s_plus) l8 c8 k8
  have b8 := F8.binds (ps := ["price", "other"]) fun _ _ _ _ _ _ us hl => match us, hl with | [_, _], _ => rfl
  have g8 := PySem.W.mg_of X G a8
  have F9 := fun_mk (st := s_least) l9 c9 k9
  have b9 := F9.binds (ps := ["prices"]) fun _ _ _ _ _ _ us hl => match us, hl with | [_], _ => rfl
  have g9 := PySem.W.mg_of X G a9
  have F10 := fun_mk (st := s_check_entries) l10 c10 k10
  have b10 := F10.binds (ps := ["names", "entries"]) fun _ _ _ _ _ _ us hl => match us, hl with | [_, _], _ => rfl
  have g10 := PySem.W.mg_of X G a10
  have F11 := fun_mk (st := s_least_tolls) l11 c11 k11
  have b11 := F11.binds (ps := ["entries"]) fun _ _ _ _ _ _ us hl => match us, hl with | [_], _ => rfl
  have g11 := PySem.W.mg_of X G a11
  have F12 := fun_mk (st := s_check_links) l12 c12 k12
  have b12 := F12.binds (ps := ["names", "links"]) fun _ _ _ _ _ _ us hl => match us, hl with | [_, _], _ => rfl
  have g12 := PySem.W.mg_of X G a12
  have F13 := fun_mk (st := s_hand_tolls) l13 c13 k13
  have b13 := F13.binds (ps := ["links", "barred"]) fun _ _ _ _ _ _ us hl => match us, hl with | [_, _], _ => rfl
  have g13 := PySem.W.mg_of X G a13
  have F14 := fun_mk (st := s_shared_parts) l14 c14 k14
  have b14 := F14.binds (ps := ["rule"]) fun _ _ _ _ _ _ us hl => match us, hl with | [_], _ => rfl
  have g14 := PySem.W.mg_of X G a14
  have F15 := fun_mk (st := s_bid_parts) l15 c15 k15
  have b15 := F15.binds (ps := ["rule"]) fun _ _ _ _ _ _ us hl => match us, hl with | [_], _ => rfl
  have g15 := PySem.W.mg_of X G a15
  have F16 := fun_mk (st := s_facts) l16 c16 k16
  have b16 := F16.binds (ps := ["rule"]) fun _ _ _ _ _ _ us hl => match us, hl with | [_], _ => rfl
  have g16 := PySem.W.mg_of X G a16
  have F17 := fun_mk (st := s_L_cell) l17 c17 k17
  have b17 := F17.binds (ps := ["_law_script", "_law_k"]) fun _ _ _ _ _ _ us hl => match us, hl with | [_, _], _ => rfl
  have g17 := PySem.W.mg_of X G a17
  have F18 := fun_mk (st := s_L_mixed) l18 c18 k18
  have b18 := F18.binds (ps := ["_law_cell_here", "_law_k"]) fun _ _ _ _ _ _ us hl => match us, hl with | [_, _], _ => rfl
  have g18 := PySem.W.mg_of X G a18
  have F19 := fun_mk (st := s_L_pool) l19 c19 k19
  have b19 := F19.binds (ps := ["_law_cell_here", "_law_number"]) fun _ _ _ _ _ _ us hl => match us, hl with | [_, _], _ => rfl
  have g19 := PySem.W.mg_of X G a19
  have F20 := fun_mk (st := s_L_part) l20 c20 k20
  have b20 := F20.binds (ps := ["_law_pool_here", "_law_spot", "_law_under", "_law_size"]) fun _ _ _ _ _ _ us hl => match us, hl with | [_, _, _, _], _ => rfl
  have g20 := PySem.W.mg_of X G a20
  have F21 := fun_mk (st := s_L_names) l21 c21 k21
  have b21 := F21.binds (ps := ["_law_pool_here", "_law_spot", "_law_number"]) fun _ _ _ _ _ _ us hl => match us, hl with | [_, _, _], _ => rfl
  have g21 := PySem.W.mg_of X G a21
  have F22 := fun_mk (st := s_L_far) l22 c22 k22
  have b22 := F22.binds (ps := ["_law_pool_here", "_law_spot", "_law_number"]) fun _ _ _ _ _ _ us hl => match us, hl with | [_, _, _], _ => rfl
  have g22 := PySem.W.mg_of X G a22
  have F23 := fun_mk (st := s_L_chosen) l23 c23 k23
  have b23 := F23.binds (ps := ["_law_pool_here", "_law_spot", "_law_under", "_law_small", "_law_crest", "_law_whole"]) fun _ _ _ _ _ _ us hl => match us, hl with | [_, _, _, _, _, _], _ => rfl
  have g23 := PySem.W.mg_of X G a23
  have F24 := fun_mk (st := s_L_goods) l24 c24 k24
  have b24 := F24.binds (ps := ["_law_pool_here", "_law_spot", "_law_number", "_law_calm"]) fun _ _ _ _ _ _ us hl => match us, hl with | [_, _, _, _], _ => rfl
  have g24 := PySem.W.mg_of X G a24
  have F25 := fun_mk (st := s_L_beside) l25 c25 k25
  have b25 := F25.binds (ps := ["_law_pool_here", "_law_spot"]) fun _ _ _ _ _ _ us hl => match us, hl with | [_, _], _ => rfl
  have g25 := PySem.W.mg_of X G a25
  have F26 := fun_mk (st := s_L_few) l26 c26 k26
  have b26 := F26.binds (ps := ["_law_pool_here", "_law_spot"]) fun _ _ _ _ _ _ us hl => match us, hl with | [_, _], _ => rfl
  have g26 := PySem.W.mg_of X G a26
  have F27 := fun_mk (st := s_L_lowest) l27 c27 k27
  have b27 := F27.binds (ps := ["_law_above", "_law_below"]) fun _ _ _ _ _ _ us hl => match us, hl with | [_, _], _ => rfl
  have g27 := PySem.W.mg_of X G a27
  have F28 := fun_mk (st := s_L_lots) l28 c28 k28
  have b28 := F28.binds (ps := ["_law_number"]) fun _ _ _ _ _ _ us hl => match us, hl with | [_], _ => rfl
  have g28 := PySem.W.mg_of X G a28
  have F29 := fun_mk (st := s_L_tops) l29 c29 k29
  have b29 := F29.binds (ps := ["_law_goods_here", "_law_beside_here"]) fun _ _ _ _ _ _ us hl => match us, hl with | [_, _], _ => rfl
  have g29 := PySem.W.mg_of X G a29
  have F30 := fun_mk (st := s_L_floor_of) l30 c30 k30
  have b30 := F30.binds (ps := ["_law_got", "_law_rate"]) fun _ _ _ _ _ _ us hl => match us, hl with | [_, _], _ => rfl
  have g30 := PySem.W.mg_of X G a30
  have F31 := fun_mk (st := s_L_integer) l31 c31 k31
  have b31 := F31.binds (ps := ["_law_got"]) fun _ _ _ _ _ _ us hl => match us, hl with | [_], _ => rfl
  have g31 := PySem.W.mg_of X G a31
  have F32 := fun_mk (st := s_L_same) l32 c32 k32
  have b32 := F32.binds (ps := ["_law_got", "_law_wanted"]) fun _ _ _ _ _ _ us hl => match us, hl with | [_, _], _ => rfl
  have g32 := PySem.W.mg_of X G a32
  have F33 := fun_mk (st := s_law) l33 c33 k33
  have b33 := F33.binds (ps := ["_law_script"]) fun _ _ _ _ _ _ us hl => match us, hl with | [_], _ => rfl
  have g33 := PySem.W.mg_of X G a33
  have gLET := PySem.W.mg_of X G aL
  refine ⟨PySem.W.fnOf "law" "law" (defArgs s_law) (defBody s_law) (defScope s_law) .none kV33 dc33 pm33 an33 cd33 ct33, fun s v => .of_eq rfl, fun base _ _ => ?_⟩
  have gML := PySem.W.mg_of X G aML
  have gMT := PySem.W.mg_of X G aMT
  have TL : TxtL K CL := ⟨⟨pgL, hdL, poL, saL⟩, nA0L, nA1L⟩
  have TT : TxtT K CT := ⟨⟨pgT, hdT, poT, saT⟩, nA0T, nA1T⟩
  have FP : FunD K "__init__" "Tolls.__init__" (defArgs s_Tolls_init) (defBody s_Tolls_init) (defScope s_Tolls_init) [V.ref EP] [] fP _ := ⟨⟨ocP, odP, .ref TP, kVP, dcP, pmP, anP, cdP, ctP, slP, rfl, lP, cP, .inr ⟨by simp, TP, _, [Value.ref EP], nTP, rfl, lTP, rfl, .cons rfl .nil⟩, .inl rfl⟩, kP⟩
  obtain ⟨dsP, vdP, bP⟩ := FP.binds1 (ps := ["self", "names", "entries"]) 3 1 (by simp) rfl fun _ _ _ _ _ _ _ us its h1 h2 => match us, h1, its, h2 with | [_, _, _], _, [_], _ => ⟨_, rfl, rfl⟩
  cases (show Vals [] dsP from vdP)
  have FI : FunD K "__init__" "Links.__init__" (defArgs s_Links_init) (defBody s_Links_init) (defScope s_Links_init) [V.ref EI] [] fI _ := ⟨⟨ocI, odI, .ref TI, kVI, dcI, pmI, anI, cdI, ctI, slI, rfl, lI, cI, .inr ⟨by simp, TI, _, [Value.ref EI], nD, rfl, lTI, rfl, .cons rfl .nil⟩, .inl rfl⟩, kI⟩
  obtain ⟨dsI, vdI, bI⟩ := FI.binds1 (ps := ["self", "names", "links"]) 3 1 (by simp) rfl fun _ _ _ _ _ _ _ us its h1 h2 => match us, h1, its, h2 with | [_, _, _], _, [_], _ => ⟨_, rfl, rfl⟩
  cases (show Vals [] dsI from vdI)
  have MkL : Mk K CL fI := ⟨mkL, aI, iI, kcL⟩
  have MkT : Mk K CT fP := ⟨mkT, aP, iP, kcT⟩
  have CR : ClX.CRead K CT (.type "type") := ⟨rdC, gaC⟩
  have SM : SMet K CT (.type "type") "same" pS fS := ⟨aS, _, rS⟩
  have FE := fun_mk (st := s_Tolls_entries) lE cE kE
  have bE := FE.binds (ps := ["self"]) fun _ _ _ _ _ _ us hl => match us, hl with | [_], _ => rfl
  have FM := fun_mk (st := s_Tolls_mul) lM cM kM
  have bM := FM.binds (ps := ["self", "other"]) fun _ _ _ _ _ _ us hl => match us, hl with | [_, _], _ => rfl
  have FO := fun_mk (st := s_Tolls_or) lO cO kO
  have bO := FO.binds (ps := ["self", "other"]) fun _ _ _ _ _ _ us hl => match us, hl with | [_, _], _ => rfl
  have FZ := fun_mk (st := s_Tolls_closed) lZ cZ kZ
  have bZ := FZ.binds (ps := ["self"]) fun _ _ _ _ _ _ us hl => match us, hl with | [_], _ => rfl
  have FS := fun_mk (st := s_Tolls_same) lS cS kS
  have bS := FS.binds (ps := ["names"]) fun _ _ _ _ _ _ us hl => match us, hl with | [_], _ => rfl
  have FY := fun_mk (st := s_Links_iter) lY cY kY
  have bY := FY.binds (ps := ["self"]) fun _ _ _ _ _ _ us hl => match us, hl with | [_], _ => rfl
  have FV := fun_mk (st := s_Links_tolls) lV cV kV
  have bV := FV.binds (ps := ["self"]) fun _ _ _ _ _ _ us hl => match us, hl with | [_], _ => rfl
  have FRi := fun_mk (st := s_Rule_init) lRi cRi kRi
  have bRi := FRi.binds (ps := ["self", "name", "members", "limit", "barred", "links", "deposit", "fee", "start"]) fun _ _ _ _ _ _ us hl => match us, hl with | [_, _, _, _, _, _, _, _, _], _ => rfl
  have FGe := fun_mk (st := s_Guests_eq) lGe cGe kGe
  have bGe := FGe.binds (ps := ["self", "other"]) fun _ _ _ _ _ _ us hl => match us, hl with | [_, _], _ => rfl
  have FGi := fun_mk (st := s_Guests_init) lGi cGi kGi
  have bGi := FGi.binds (ps := ["self", "offers", "aside"]) fun _ _ _ _ _ _ us hl => match us, hl with | [_, _, _], _ => rfl
  have FGm := fun_mk (st := s_Guests_mean) lGm cGm kGm
  have bGm := FGm.binds (ps := ["self", "lot"]) fun _ _ _ _ _ _ us hl => match us, hl with | [_, _], _ => rfl
  have FGp := fun_mk (st := s_Guests_picked) lGp cGp kGp
  have bGp := FGp.binds (ps := ["self", "rate", "most"]) fun _ _ _ _ _ _ us hl => match us, hl with | [_, _, _], _ => rfl
  have FGc := fun_mk (st := s_Guests_climbed) lGc cGc kGc
  have bGc := FGc.binds (ps := ["self", "most"]) fun _ _ _ _ _ _ us hl => match us, hl with | [_, _], _ => rfl
  have FGF := fun_mk (st := s_Guests_floor) lGF cGF kGF
  have bGF := FGF.binds (ps := ["self"]) fun _ _ _ _ _ _ us hl => match us, hl with | [_], _ => rfl
  have FBF := fun_mk (st := s_BidRule_floor) lBF cBF kBF
  have bBF := FBF.binds (ps := ["self"]) fun _ _ _ _ _ _ us hl => match us, hl with | [_], _ => rfl
  have hEB : ∀ H : Hp, SqT K H EB [] := fun H => .inr ⟨_, List.toArray [], nEB, lEB, rfl, rfl, by decide, .nil⟩
  have hEL : ∀ H : Hp, SqT K H EL [] := fun H => .inr ⟨_, List.toArray [], nEL, lEL, rfl, rfl, by decide, .nil⟩
  have FGb : FunD K "best" "Guests.best" (defArgs s_Guests_best) (defBody s_Guests_best) (defScope s_Guests_best) [] [("most", V.non)] fGb _ := ⟨⟨ocGb, odGb, .none, .ref DLB, dcGb, pmGb, anGb, cdGb, ctGb, slGb, rfl, lGb, cGb, .inl ⟨rfl, rfl⟩, .inr ⟨DLB, rfl, fun q hq => by
    rw [List.mem_singleton.mp hq]
    exact ⟨_, nMo, rfl⟩⟩⟩, kGb⟩
  obtain ⟨⟨_, kb_best⟩, ds_b, v_best, b_best⟩ := best_kb FGb
  have Om : Own K CT "__mul__" fM := ⟨aM, iM⟩
  have Oo : Own K CT "__or__" fO := ⟨aO, iO⟩
  have Oy : Own K CL "__iter__" fY := ⟨aY, iY⟩
  have Me : Meth K CT "entries" fE := ⟨aE, iE, kE⟩
  have Mz : Meth K CT "closed" fZ := ⟨aZ, iZ, kZ⟩
  have Mev : Meth K CL "tolls" fV := ⟨aV, iV, kV⟩
  have MeCh : Meth K C1 "changed" fCh := ⟨aCh, iCh, kCh⟩
  have OGe : Own K CG "__eq__" fGe := ⟨aGe, iGe⟩
  have MeGm : Meth K CG "mean" fGm := ⟨aGm, iGm, kGm⟩
  have MeGp : Meth K CG "_picked" fGp := ⟨aGp, iGp, kGp⟩
  have MeGc : Meth K CG "_climbed" fGc := ⟨aGc, iGc, kGc⟩
  have MeGb : Meth K CG "best" fGb := ⟨aGb, iGb, kGb⟩
  have PG : PropOf K CG "floor" pGF fGF := ⟨aGF, gtGF, tkGF, _, rGF⟩
  have PB : PropOf K C1 "floor" pBF fBF := ⟨aBF, gtBF, tkBF, _, rBF⟩
  have MkG : Mk K CG fGi := ⟨mkG, aGi, iGi, kcG⟩
  have hqB : ∀ q ∈ msW35 EB EL, ∃ u, PySem.W.nsIn K DB q.1 = some (some u) ∧ RelV q.2 u := fun q hq => by
    rcases List.mem_cons.mp hq with rfl | hq
    · exact ⟨_, nB3, rfl⟩
    rcases List.mem_cons.mp hq with rfl | hq
    · exact ⟨_, nB4, rfl⟩
    rcases List.mem_cons.mp hq with rfl | hq
    · exact ⟨_, nB5, rfl⟩
    rcases List.mem_cons.mp hq with rfl | hq
    · exact ⟨_, nB6, ⟨_, rfl⟩⟩
    rcases List.mem_cons.mp hq with rfl | hq
    · exact ⟨_, nB7, ⟨_, rfl⟩⟩
    rw [List.mem_singleton.mp hq]
    exact ⟨_, nB8, ⟨_, rfl⟩⟩
  have hqN : ∀ q ∈ msN35 EB EL, ∃ u, PySem.W.nsIn K DB q.1 = some (some u) ∧ RelV q.2 u := fun q hq => by
    rcases List.mem_cons.mp hq with rfl | hq
    · exact ⟨_, nB0, rfl⟩
    rcases List.mem_cons.mp hq with rfl | hq
    · exact ⟨_, nB1, ⟨_, rfl⟩⟩
    rcases List.mem_cons.mp hq with rfl | hq
    · exact ⟨_, nB2, rfl⟩
    rcases List.mem_cons.mp hq with rfl | hq
    · exact ⟨_, nB3, rfl⟩
    rcases List.mem_cons.mp hq with rfl | hq
    · exact ⟨_, nB4, rfl⟩
    rcases List.mem_cons.mp hq with rfl | hq
    · exact ⟨_, nB5, rfl⟩
    rcases List.mem_cons.mp hq with rfl | hq
    · exact ⟨_, nB6, ⟨_, rfl⟩⟩
    rcases List.mem_cons.mp hq with rfl | hq
    · exact ⟨_, nB7, ⟨_, rfl⟩⟩
    rw [List.mem_singleton.mp hq]
    exact ⟨_, nB8, ⟨_, rfl⟩⟩

  have m_super := PySem.W.mg_none_of X G z_super
  have TR1 : TxtRu K C1 := ⟨⟨pg1, hd1, po1, sa1⟩, nA01, nA11, nA21, nA31, nA41, nA51, nA61, nA71, nA81⟩
  have SO1 : SupO K C1 C1 fRi := ⟨hstS, isB, hmB, al1, tyRi, fiRi⟩
  have Mk1 : Mk K C1 fB := ⟨mk1, aB, iB, kc1⟩
  have TG : TxtG K CG := ⟨⟨pgG, hdG, poG, saG⟩, nA0G, nA1G⟩
  have nW : NoAttr K C1 "weights" := nA91
  have nH : NoAttr K C1 "hours" := nA101
  have nG : NoAttr K C1 "guests" := nA111

  have d_is_name : Def l.prog w K mg base "is_name" 1 ["word"] spIsNameH := ⟨_, _, ok_is_nameH F1 m_len m_all gLET, g1, k1, b1⟩
  have d_check_size : Def l.prog w K mg base "check_size" 1 ["size", "low", "high"] (spRange) := ⟨_, _, ok_check_size F2 , g2, k2, b2⟩
  have d_check_range : Def l.prog w K mg base "check_range" 1 ["number", "low", "high"] (spRange) := ⟨_, _, ok_check_range F3 , g3, k3, b3⟩
  obtain ⟨dsN, vdN, bdN⟩ := F4.binds1 (ps := ["names", "most", "hook"]) 3 1 (by simp) rfl fun _ _ _ _ _ _ _ us its h1 h2 => match us, h1, its, h2 with | [_, _, _], _, [_], _ => ⟨_, rfl, rfl⟩
  have d_check_namesH : DefD l.prog w K mg base "check_names" 2 ["names", "most", "hook"] (spCheckH K) [] := ⟨_, _, dsN, ok_check_namesH F4 m_len m_enumerate d_check_size d_is_name, g4, k4, bdN, vdN⟩
  obtain ⟨dsN2, vdN2, bdN2⟩ := F4.binds1 (ps := ["names", "most", "hook"]) 2 0 (by simp) rfl fun _ _ _ _ _ _ _ us its h1 h2 => match us, h1, its, h2 with | [_, _], _, [_], _ => ⟨_, rfl, rfl⟩
  have d_check_names : DefD l.prog w K mg base "check_names" 2 ["names", "most", "hook"] (spCheckN K) [.bl false] := ⟨_, _, dsN2, ok_check_namesN F4 m_len m_enumerate d_check_size d_is_name, g4, k4, bdN2, vdN2⟩
  have d_check_known : Def l.prog w K mg base "check_known" 1 ["names", "known"] (spKnown K) := ⟨_, _, ok_check_known F5 , g5, k5, b5⟩
  have d_check_picks : Def l.prog w K mg base "check_picks" 1 ["picks", "known"] (spPicksT K) := ⟨_, _, ok_check_picksT F6 m_enumerate, g6, k6, b6⟩
  have d_check_offers : Def l.prog w K mg base "_check_offers" 2 ["offers"] (spOffers K) := ⟨_, _, ok_check_offersL F7 m_len d_check_size d_check_range, g7, k7, b7⟩
  have G_Guests := ok_Guests (P := l.prog) (w := w) (mg := mg) (base := base) FGi TG m_tuple d_check_offers d_check_range
  have G_mean := ok_Guests_mean (P := l.prog) (w := w) (mg := mg) (base := base) FGm TG m_list m_len m_range m_sum (PySem.W.mg_of X G aGcd)
  have G_eq := ok_Guests_eq (P := l.prog) (w := w) (mg := mg) (base := base) FGe TG m_isinstance (PySem.W.mg_of X G aGu) haG hnG htkG hmG
  have G_picked := ok_Guests_picked (P := l.prog) (w := w) (mg := mg) (base := base) FGp TG m_enumerate m_sorted m_tuple
  have G_climbed := ok_Guests_climbed (P := l.prog) (w := w) (mg := mg) (base := base) FGc TG MeGp G_picked bGp MeGm G_mean bGm
  have G_best := ok_Guests_best (P := l.prog) (w := w) (mg := mg) (base := base) FGb TG MeGc G_climbed bGc
  have G_floorG := ok_Guests_floor (P := l.prog) (w := w) (mg := mg) (base := base) FGF TG MeGb G_best v_best b_best
  have G_floorB := ok_BidRule_floor (CL := CL) (CT := CT) (P := l.prog) (w := w) (mg := mg) (base := base) FBF TR1 nG TG PG G_floorG bGF


  have d_check_entries : Def l.prog w K mg base "_check_entries" 2 ["names", "entries"] (spCheckE K) := ⟨_, _, ok_check_entries F10 d_check_known, g10, k10, b10⟩
  have d_least_tolls : Def l.prog w K mg base "_least_tolls" 1 ["entries"] (spLeastT K) := ⟨_, _, ok_least_tolls F11 , g11, k11, b11⟩
  have d_check_links : Def l.prog w K mg base "_check_links" 2 ["names", "links"] (spCheckL K) := ⟨_, _, ok_check_links F12 m_len gML gMT d_check_size d_check_range d_check_known, g12, k12, b12⟩
  have G_entries := ok_Tolls_entries (P := l.prog) (w := w) (mg := mg) (base := base) FE TT
  have G_Tolls := ok_Tolls (P := l.prog) (w := w) (mg := mg) (base := base) FP TT m_tuple d_check_namesH d_check_entries d_least_tolls
  have G_Links := ok_Links (P := l.prog) (w := w) (mg := mg) (base := base) FI TL m_tuple d_check_names d_check_links
  have I_Links := ok_Links_iter (P := l.prog) (w := w) (mg := mg) (base := base) FY bY TL m_iter
  have G_tolls := ok_Links_tolls (P := l.prog) (w := w) (mg := mg) (base := base) FV TL MkT G_Tolls (PySem.W.mg_of X G aTo) bP
  have G_same := ok_Tolls_same (P := l.prog) (w := w) (mg := mg) (base := base) FS MkT G_Tolls (PySem.W.mg_of X G aTo) bP
  have G_or := ok_Tolls_or (P := l.prog) (w := w) (mg := mg) (base := base) FO TT MkT G_Tolls (PySem.W.mg_of X G aTo) bP Me G_entries bE
  have G_mul := ok_Tolls_mul (P := l.prog) (w := w) (mg := mg) (base := base) FM TT MkT G_Tolls (PySem.W.mg_of X G aTo) bP Me G_entries bE
  have G_closed := ok_Tolls_closed (P := l.prog) (w := w) (mg := mg) (base := base) FZ TT m_range (PySem.W.mg_of X G aTo) CR SM kS G_same bS sf Om G_mul bM Oo G_or bO
  have d_hand_tolls : Def l.prog w K mg base "_hand_tolls" 7 ["links", "barred"] (spHandT K CL CT) := ⟨_, _, ok_hand_tolls F13 TL TT Oy I_Links MkL G_Links (PySem.W.mg_of X G aLi) bI Mev G_tolls bV Mz G_closed bZ, g13, k13, b13⟩
  have G_Ri1 := ok_Rule_init (P := l.prog) (w := w) (mg := mg) (base := base) FRi TR1 m_tuple d_is_name d_check_names d_check_range d_check_picks MkL G_Links (PySem.W.mg_of X G aLi) bI d_hand_tolls
  have G_Ri2 := ok_Rule_initT (P := l.prog) (w := w) (mg := mg) (base := base) FRi TR1 m_tuple d_is_name d_check_names d_check_range d_check_picks MkL G_Links (PySem.W.mg_of X G aLi) bI d_hand_tolls
  have G_BidL := ok_BidRule_initL (P := l.prog) (w := w) (mg := mg) (base := base) lB cB hcB hvB hfB hlB htopS m_super SO1 (fn_R G_Ri1 bRi) TR1 nW nH nG m_tuple m_len d_check_size d_check_range
  have G_BidN := ok_BidRule_initN (P := l.prog) (w := w) (mg := mg) (base := base) lB cB hcB hvB hfB hlB htopS m_super SO1 (fn_R G_Ri1 bRi) TR1 nW nH nG m_tuple m_len d_check_size d_check_range
  have G_BidT := ok_BidRule_initT (P := l.prog) (w := w) (mg := mg) (base := base) lB cB hcB hvB hfB hlB htopS m_super SO1 (fn_R G_Ri2 bRi) TR1 nW nH nG m_tuple m_len d_check_size d_check_range
  obtain ⟨_, kbW⟩ := bidW_kb (cc := ccB) (cda := cdaB) (doc := docB) (pm := pmB) (an := anB) (ct := ctB) hqB
  obtain ⟨_, kbN⟩ := bidN_kb (cc := ccB) (cda := cdaB) (doc := docB) (pm := pmB) (an := anB) (ct := ctB) hqN
  obtain ⟨_, kbC⟩ := bidC_kb (K := K) (cc := ccB) (cda := cdaB) (D := DB) (doc := docB) (pm := pmB) (an := anB) (ct := ctB)
  have d_shared_parts : Def l.prog w K mg base "_shared_parts" 1 ["rule"] (spShared K C1 CL CT) := ⟨_, _, ok_shared_parts F14 TR1 TL, g14, k14, b14⟩
  have d_bid_parts : Def l.prog w K mg base "_bid_parts" 1 ["rule"] (spBidP K C1 CL CT) := ⟨_, _, ok_bid_parts F15 TR1 nW nH nG, g15, k15, b15⟩
  have G_changed := ok_BidRule_changed (P := l.prog) (w := w) (mg := mg) (base := base) lCh cCh TR1 d_shared_parts d_bid_parts Mk1 G_BidT (PySem.W.mg_of X G aBi) kbC

  have d_L_cell : Def l.prog w K mg base "_law_cell" 1 ["_law_script", "_law_k"] (spCellA K) := ⟨_, _, ok_L_cell F17 m_len m_range m_abs, g17, k17, b17⟩
  have d_L_mixed : Def l.prog w K mg base "_law_mixed" 1 ["_law_cell_here", "_law_k"] (spMixed) := ⟨_, _, ok_L_mixed F18 m_abs, g18, k18, b18⟩
  have d_L_pool : Def l.prog w K mg base "_law_pool" 2 ["_law_cell_here", "_law_number"] (spPool) := ⟨_, _, ok_L_pool F19 m_range m_abs d_L_mixed, g19, k19, b19⟩
  have d_L_part : Def l.prog w K mg base "_law_part" 1 ["_law_pool_here", "_law_spot", "_law_under", "_law_size"] (spPart K) := ⟨_, _, ok_L_part F20 m_int, g20, k20, b20⟩
  have d_L_names : Def l.prog w K mg base "_law_names" 2 ["_law_pool_here", "_law_spot", "_law_number"] (spNames K) := ⟨_, _, ok_L_names F21 m_range m_int d_L_part, g21, k21, b21⟩
  have d_L_far : Def l.prog w K mg base "_law_far" 1 ["_law_pool_here", "_law_spot", "_law_number"] (spFar K) := ⟨_, _, ok_L_far F22 m_range m_int, g22, k22, b22⟩
  have d_L_chosen : Def l.prog w K mg base "_law_chosen" 2 ["_law_pool_here", "_law_spot", "_law_under", "_law_small", "_law_crest", "_law_whole"] (spChosen K) := ⟨_, _, ok_L_chosen F23 m_int d_L_part, g23, k23, b23⟩
  have d_L_goods : Def l.prog w K mg base "_law_goods" 3 ["_law_pool_here", "_law_spot", "_law_number", "_law_calm"] (spGoods K) := ⟨_, _, ok_L_goods F24 m_range m_int d_L_part d_L_far d_L_chosen, g24, k24, b24⟩
  have d_L_beside : Def l.prog w K mg base "_law_beside" 3 ["_law_pool_here", "_law_spot"] (spBeside K) := ⟨_, _, ok_L_beside F25 d_L_far d_L_chosen, g25, k25, b25⟩
  have d_L_few : Def l.prog w K mg base "_law_few" 2 ["_law_pool_here", "_law_spot"] (spFew K) := ⟨_, _, ok_L_few F26 d_L_part, g26, k26, b26⟩
  have d_L_lowest : Def l.prog w K mg base "_law_lowest" 1 ["_law_above", "_law_below"] (spLowest) := ⟨_, _, ok_L_lowest F27 m_range m_abs, g27, k27, b27⟩
  have d_L_lots : Def l.prog w K mg base "_law_lots" 1 ["_law_number"] (spLots) := ⟨_, _, ok_L_lots F28 m_range, g28, k28, b28⟩
  have d_L_tops : Def l.prog w K mg base "_law_tops" 2 ["_law_goods_here", "_law_beside_here"] (spTops K) := ⟨_, _, ok_L_tops F29 m_sum m_len m_range d_L_lots d_L_lowest, g29, k29, b29⟩
  have d_L_integer : Def l.prog w K mg base "_law_integer" 1 ["_law_got"] (spInteger) := ⟨_, _, ok_L_integer F31 m_isinstance m_int m_bool, g31, k31, b31⟩
  have d_L_floor_of : Def l.prog w K mg base "_law_floor_of" 2 ["_law_got", "_law_rate"] (spFloorOf K) := ⟨_, _, ok_L_floor_of F30 d_L_integer, g30, k30, b30⟩
  have d_L_same3 : Def l.prog w K mg base "_law_same" 5 ["_law_got", "_law_wanted"] (spSame 3) := ⟨_, _, ok_L_same F32 g32 b32 ⟨m_isinstance, m_int, m_bool, m_str, m_tuple, m_list, m_len, m_range⟩ d_L_integer 3 (by decide), g32, k32, b32⟩
  exact ok_law F33 m_list m_len m_range m_min m_tuple m_isinstance TG TR1 nG MkG G_Guests (PySem.W.mg_of X G aGu) bGi MeGb G_best v_best b_best kb_best OGe G_eq bGe PG G_floorG bGF PB G_floorB bBF Mk1 (PySem.W.mg_of X G aBi) hEB hEL G_BidL kbW G_BidN kbN MeCh G_changed d_L_cell d_L_pool d_L_part d_L_names d_L_goods d_L_beside d_L_few d_L_tops d_L_floor_of d_L_same3
end TK

open PySem PySem.W PyProof.Rows
set_option maxRecDepth 100000 in
set_option maxHeartbeats 0 in
theorem PySem.Challenge.cw_turnsandkeys_k35_floor_and_few_holds : PySem.Challenge.rw_turnsandkeys_k35_floor_and_few.Holds := by
  w_on; o_law
  refine HandSHeadRun.head_imp (r := TK.hdR) (q := TK.hdQ) (H := TK.hdH) (ob := TK.hdOb) (M := 9000) (loose := TK.hdLoose) (d := HandSHeadRun.topDef TK.hdR.prog 58) (kwd := []) TK.hdOb_eq
    TK.hdRun (by kernel_rfl) (by kernel_rfl) (by kernel_rfl) (by rfl) (by first | assumption | decide +kernel) (by decide +kernel) ⟨rfl, rfl, rfl, rfl, rfl, by decide +kernel⟩ ?hw ?hc
  case hw => w_witness2
  case hc =>
    refine L2.walk_of (l := PySem.Challenge.rw_turnsandkeys_k35_floor_and_few) (n := 63) (k := 12) (x := "_law_script") (CX := fun _ => L2.CX0) (K := TK.hdSeen.heap_1) (sp := fun w => TK.spLaw _) rfl (by decide) (by kernel_rfl) ⟨rfl, by decide, by decide⟩ (fun w h Y => PySem.W.kIn_of Y) ?F (fun _ _ a ns hl _ hS => ⟨a, ns, rfl, hS, hl, fun _ => rfl⟩) (fun _ _ _ _ _ h => h)
    case F =>
      k_fill
      intro w mg fa h KX G hmg0
      have hmg : mg ("law" : PySem.Str) = some (.ref fa) := by
        have e : (HandSHeadRun.topDef TK.hdR.prog 58).name = ("law" : PySem.Str) := by kernel_rfl
        rw [← e]
        exact hmg0
      refine' TK.all_mk KX G hmg ?a0 ?l0 ?c0 ?k0 ?a1 ?l1 ?c1 ?k1 ?a2 ?l2 ?c2 ?k2 ?a3 ?l3 ?c3 ?k3 ?a4 ?l4 ?c4 ?k4 ?a5 ?l5 ?c5 ?k5 ?a6 ?l6 ?c6 ?k6 ?a7 ?l7 ?c7 ?k7 ?a8 ?l8 ?c8 ?k8 ?a9 ?l9 ?c9 ?k9 ?a10 ?l10 ?c10 ?k10 ?a11 ?l11 ?c11 ?k11 ?a12 ?l12 ?c12 ?k12 ?a13 ?l13 ?c13 ?k13 ?a14 ?l14 ?c14 ?k14 ?a15 ?l15 ?c15 ?k15 ?a16 ?l16 ?c16 ?k16 ?a17 ?l17 ?c17 ?k17 ?a18 ?l18 ?c18 ?k18 ?a19 ?l19 ?c19 ?k19 ?a20 ?l20 ?c20 ?k20 ?a21 ?l21 ?c21 ?k21 ?a22 ?l22 ?c22 ?k22 ?a23 ?l23 ?c23 ?k23 ?a24 ?l24 ?c24 ?k24 ?a25 ?l25 ?c25 ?k25 ?a26 ?l26 ?c26 ?k26 ?a27 ?l27 ?c27 ?k27 ?a28 ?l28 ?c28 ?k28 ?a29 ?l29 ?c29 ?k29 ?a30 ?l30 ?c30 ?k30 ?a31 ?l31 ?c31 ?k31 ?a32 ?l32 ?c32 ?k32 ?a33 ?l33 ?c33 ?k33 ?aL ?z_len ?z_all ?z_enumerate ?z_tuple ?z_list ?z_range ?z_abs ?z_int ?z_isinstance ?z_bool ?z_str ?z_iter ?z_sum ?z_sorted ?z_min ?aML ?aMT ?aLi ?aTo ?aBi ?aGu ?aGcd ?haG ?hnG ?htkG ?hmG ?aP ?iP ?lP ?cP ?kP ?aE ?iE ?lE ?cE ?kE ?aM ?iM ?lM ?cM ?kM ?aO ?iO ?lO ?cO ?kO ?aZ ?iZ ?lZ ?cZ ?kZ ?aS ?rS ?iS ?lS ?cS ?kS ?aI ?iI ?lI ?cI ?kI ?aY ?iY ?lY ?cY ?kY ?aV ?iV ?lV ?cV ?kV ?al1 ?tyRi ?fiRi ?iRi ?lRi ?cRi ?kRi ?aCh ?iCh ?lCh ?cCh ?kCh ?aGi ?iGi ?lGi ?cGi ?kGi ?aGm ?iGm ?lGm ?cGm ?kGm ?aGp ?iGp ?lGp ?cGp ?kGp ?aGc ?iGc ?lGc ?cGc ?kGc ?aGb ?iGb ?lGb ?cGb ?kGb ?aGe ?iGe ?lGe ?cGe ?kGe ?aGF ?gtGF ?tkGF ?rGF ?iGF ?lGF ?cGF ?kGF ?aBF ?gtBF ?tkBF ?rBF ?iBF ?lBF ?cBF ?kBF ?aB ?iB ?lB ?cB ?hcB ?hvB ?hfB ?hlB ?hmB ?isB ?nB0 ?nB1 ?nB2 ?nB3 ?nB4 ?nB5 ?nB6 ?nB7 ?nB8 ?pgL ?hdL ?poL ?saL ?mkL ?kcL ?nA0L ?nA1L ?pgT ?hdT ?poT ?saT ?mkT ?kcT ?nA0T ?nA1T ?pg1 ?hd1 ?po1 ?sa1 ?mk1 ?kc1 ?nA01 ?nA11 ?nA21 ?nA31 ?nA41 ?nA51 ?nA61 ?nA71 ?nA81 ?nA91 ?nA101 ?nA111 ?pgG ?hdG ?poG ?saG ?mkG ?kcG ?nA0G ?nA1G ?lTP ?lTI ?lEI ?lDN ?lEB ?lEL ?nMo ?sf ?rdC ?gaC ?htopS ?z_super ?hstS
      (case a0 => k_is); (case l0 => k_is); (case c0 => k_is); (case k0 => k_is); (case a1 => k_is); (case l1 => k_is); (case c1 => k_is); (case k1 => k_is); (case a2 => k_is); (case l2 => k_is); (case c2 => k_is); (case k2 => k_is); (case a3 => k_is); (case l3 => k_is); (case c3 => k_is); (case k3 => k_is); (case a4 => k_is); (case l4 => k_is); (case c4 => k_is); (case k4 => k_is); (case a5 => k_is); (case l5 => k_is); (case c5 => k_is); (case k5 => k_is); (case a6 => k_is); (case l6 => k_is); (case c6 => k_is); (case k6 => k_is); (case a7 => k_is); (case l7 => k_is); (case c7 => k_is); (case k7 => k_is); (case a8 => k_is); (case l8 => k_is); (case c8 => k_is); (case k8 => k_is); (case a9 => k_is); (case l9 => k_is); (case c9 => k_is); (case k9 => k_is); (case a10 => k_is); (case l10 => k_is); (case c10 => k_is); (case k10 => k_is); (case a11 => k_is); (case l11 => k_is); (case c11 => k_is); (case k11 => k_is); (case a12 => k_is); (case l12 => k_is); (case c12 => k_is); (case k12 => k_is); (case a13 => k_is); (case l13 => k_is); (case c13 => k_is); (case k13 => k_is); (case a14 => k_is); (case l14 => k_is); (case c14 => k_is); (case k14 => k_is); (case a15 => k_is); (case l15 => k_is); (case c15 => k_is); (case k15 => k_is); (case a16 => k_is); (case l16 => k_is); (case c16 => k_is); (case k16 => k_is); (case a17 => k_is); (case l17 => k_is); (case c17 => k_is); (case k17 => k_is); (case a18 => k_is); (case l18 => k_is); (case c18 => k_is); (case k18 => k_is); (case a19 => k_is); (case l19 => k_is); (case c19 => k_is); (case k19 => k_is); (case a20 => k_is); (case l20 => k_is); (case c20 => k_is); (case k20 => k_is); (case a21 => k_is); (case l21 => k_is); (case c21 => k_is); (case k21 => k_is); (case a22 => k_is); (case l22 => k_is); (case c22 => k_is); (case k22 => k_is); (case a23 => k_is); (case l23 => k_is); (case c23 => k_is); (case k23 => k_is); (case a24 => k_is); (case l24 => k_is); (case c24 => k_is); (case k24 => k_is); (case a25 => k_is); (case l25 => k_is); (case c25 => k_is); (case k25 => k_is); (case a26 => k_is); (case l26 => k_is); (case c26 => k_is); (case k26 => k_is); (case a27 => k_is); (case l27 => k_is); (case c27 => k_is); (case k27 => k_is); (case a28 => k_is); (case l28 => k_is); (case c28 => k_is); (case k28 => k_is); (case a29 => k_is); (case l29 => k_is); (case c29 => k_is); (case k29 => k_is); (case a30 => k_is); (case l30 => k_is); (case c30 => k_is); (case k30 => k_is); (case a31 => k_is); (case l31 => k_is); (case c31 => k_is); (case k31 => k_is); (case a32 => k_is); (case l32 => k_is); (case c32 => k_is); (case k32 => k_is); (case a33 => k_is); (case l33 => k_is); (case c33 => k_is); (case k33 => k_is); (case aL => k_is); (case z_len => k_is); (case z_all => k_is); (case z_enumerate => k_is); (case z_tuple => k_is); (case z_list => k_is); (case z_range => k_is); (case z_abs => k_is); (case z_int => k_is); (case z_isinstance => k_is); (case z_bool => k_is); (case z_str => k_is); (case z_iter => k_is); (case z_sum => k_is); (case z_sorted => k_is); (case z_min => k_is); (case aML => k_is); (case aMT => k_is); (case aLi => k_is); (case aTo => k_is); (case aBi => k_is); (case aGu => k_is); (case aGcd => k_is); (case haG => k_is); (case hnG => k_is); (case htkG => k_is); (case hmG => k_is); (case aP => k_is); (case iP => k_is); (case lP => k_is); (case cP => k_is); (case kP => k_is); (case aE => k_is); (case iE => k_is); (case lE => k_is); (case cE => k_is); (case kE => k_is); (case aM => k_is); (case iM => k_is); (case lM => k_is); (case cM => k_is); (case kM => k_is); (case aO => k_is); (case iO => k_is); (case lO => k_is); (case cO => k_is); (case kO => k_is); (case aZ => k_is); (case iZ => k_is); (case lZ => k_is); (case cZ => k_is); (case kZ => k_is); (case aS => k_is); (case rS => k_is); (case iS => k_is); (case lS => k_is); (case cS => k_is); (case kS => k_is); (case aI => k_is); (case iI => k_is); (case lI => k_is); (case cI => k_is); (case kI => k_is); (case aY => k_is); (case iY => k_is); (case lY => k_is); (case cY => k_is); (case kY => k_is); (case aV => k_is); (case iV => k_is); (case lV => k_is); (case cV => k_is); (case kV => k_is); (case al1 => first | k_is | rfl | kernel_rfl); (case tyRi => k_is); (case fiRi => k_is); (case iRi => k_is); (case lRi => k_is); (case cRi => k_is); (case kRi => k_is); (case aCh => k_is); (case iCh => k_is); (case lCh => k_is); (case cCh => k_is); (case kCh => k_is); (case aGi => k_is); (case iGi => k_is); (case lGi => k_is); (case cGi => k_is); (case kGi => k_is); (case aGm => k_is); (case iGm => k_is); (case lGm => k_is); (case cGm => k_is); (case kGm => k_is); (case aGp => k_is); (case iGp => k_is); (case lGp => k_is); (case cGp => k_is); (case kGp => k_is); (case aGc => k_is); (case iGc => k_is); (case lGc => k_is); (case cGc => k_is); (case kGc => k_is); (case aGb => k_is); (case iGb => k_is); (case lGb => k_is); (case cGb => k_is); (case kGb => k_is); (case aGe => k_is); (case iGe => k_is); (case lGe => k_is); (case cGe => k_is); (case kGe => k_is); (case aGF => k_is); (case gtGF => k_is); (case tkGF => k_is); (case rGF => k_is); (case iGF => k_is); (case lGF => k_is); (case cGF => k_is); (case kGF => k_is); (case aBF => k_is); (case gtBF => k_is); (case tkBF => k_is); (case rBF => k_is); (case iBF => k_is); (case lBF => k_is); (case cBF => k_is); (case kBF => k_is); (case aB => k_is); (case iB => k_is); (case lB => k_is); (case cB => k_is); (case hcB => k_is); (case hvB => first | rfl | k_is); (case hfB => first | rfl | decide +kernel); (case hlB => k_is); (case hmB => k_is); (case isB => k_is); (case nB0 => k_is); (case nB1 => k_is); (case nB2 => k_is); (case nB3 => k_is); (case nB4 => k_is); (case nB5 => k_is); (case nB6 => k_is); (case nB7 => k_is); (case nB8 => k_is); (case pgL => k_is); (case hdL => k_is); (case poL => k_is); (case saL => k_is); (case mkL => k_is); (case kcL => k_is); (case nA0L => k_is); (case nA1L => k_is); (case pgT => k_is); (case hdT => k_is); (case poT => k_is); (case saT => k_is); (case mkT => k_is); (case kcT => k_is); (case nA0T => k_is); (case nA1T => k_is); (case pg1 => k_is); (case hd1 => k_is); (case po1 => k_is); (case sa1 => k_is); (case mk1 => k_is); (case kc1 => k_is); (case nA01 => k_is); (case nA11 => k_is); (case nA21 => k_is); (case nA31 => k_is); (case nA41 => k_is); (case nA51 => k_is); (case nA61 => k_is); (case nA71 => k_is); (case nA81 => k_is); (case nA91 => k_is); (case nA101 => k_is); (case nA111 => k_is); (case pgG => k_is); (case hdG => k_is); (case poG => k_is); (case saG => k_is); (case mkG => k_is); (case kcG => k_is); (case nA0G => k_is); (case nA1G => k_is); (case lTP => k_is); (case lTI => k_is); (case lEI => k_is); (case lDN => k_is); (case lEB => k_is); (case lEL => k_is); (case nMo => k_is); (case sf => k_is); (case rdC => k_is); (case gaC => k_is); (case htopS => first | rfl | decide +kernel); (case z_super => k_is); (case hstS => k_is)
