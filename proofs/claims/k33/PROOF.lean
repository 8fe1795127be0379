import PyProof.Rows.All
import Wide.All
import OpenK.AllK
import Wide.FinOn
import HandS.ForMost
import HandS.Style
import HandS.IsInst
import HandS.Defaults
import HandS.MakeKwOnly
import HandS.SortKw
import HandS.Walk
import KE.KSortKeySt
import KE.GoesEnum
import KE.DatumOrd
import KE.KRevSl
import HandS.Star
import KE.KTupSum
import KE.GoesMore
import KE.GoesZip
import HandS.DictComp
import HandS.RevRange
import HandS.Strs
import HandS.OwnEq
import HandS.SlotsOwn
import HandS.IterVal
import KE.KOwnIter
import KE.KOpsOwn
import KE.KEqDict
import HandS.Gcd
import HandS.Conv
import HandS.SortRule
import HandS.TupAny
import PySem.Challenge.RW_turnsandkeys_k33_whole_best_lot
set_option Elab.async false
set_option linter.all false
set_option maxRecDepth 100000
set_option maxHeartbeats 4000000
namespace TK
open PySem PySem.Spec PyProof.Rows L2
/-! ### a def that keeps its promise, as callers see it -/
structure Def (P : Program) (w : World) (K : PySem.W.Frag) (mg : Str → Option Value) (base : Heap) (x : Str) (k : Nat) (ps : List Str) (sp : Sp) : Prop where
  ex : ∃ (f : Addr) (fd : FuncData), FnOk P w K mg base CX0 k f fd ps sp ∧ mg x = some (.ref f) ∧ PySem.W.keepIn K (.ref f) = true ∧ Binds K fd ps []
section
variable {X : Cx} {x : Str} {k : Nat} {ps : List Str} {sp : Sp} {e : Expr} {es : List Expr} {t : TA} {p pos : Pos}
theorem pe_callD (D : Def X.prog X.w X.K X.mg X.base x k ps sp) (hr : Room k X.A) (hg : Gl X x) (ha : PA X (e :: es) t) (hdb : (x == ("__debug__" : Str)) = false := by decide)
    (he : starEach (e :: es) X.env = (false, eval e X.env) :: starEach es X.env := by rfl) (hpl : (backTo pos (starEach es X.env)).any (·.1) = false := by rfl) :
    PE X (.Call (.Name x p) (e :: es) [] pos) (tCall sp [] E0 t) := by
  obtain ⟨f, fd, F, g, kp, b⟩ := D.ex
  exact pe_call F hr hg g kp b .nil pass0 ha hdb he hpl
end
section
variable {X : Cx}
/-- x is True, x is False: x of any kind -/
def rIsT : R2 := fun x y H Q => ∃ b : Bool, y = .bl b ∧ Q (.bl (decide (x = .bl b))) H
theorem op_isT : OpR X (compareOp .Is) rIsT := by
  intro pins s σ H x y v u Q I rx ry h
  obtain ⟨b, rfl, q⟩ := h
  cases (show u = Value.bool b from ry)
  cases x with
  | bl a =>
    cases (show v = Value.bool a from rx)
    by_cases e : a = b
    · subst e
      exact wpAny_is_self rfl ⟨.bl true, H, I, rfl, by simpa using q⟩
    · exact wpAny_is_other rfl (fun z => e (Value.bool.inj z)) ⟨.bl false, H, I, rfl, by simpa [e] using q⟩
  | non => cases (show v = Value.none from rx); exact wpAny_is_other rfl (fun z => nomatch z) ⟨.bl false, H, I, rfl, by simpa using q⟩
  | int i => obtain ⟨t, rfl⟩ := (show ∃ t, v = Value.int i t from rx); exact wpAny_is_other rfl (fun z => nomatch z) ⟨.bl false, H, I, rfl, by simpa using q⟩
  | str i => obtain ⟨t, rfl⟩ := (show ∃ t, v = Value.str i t from rx); exact wpAny_is_other rfl (fun z => nomatch z) ⟨.bl false, H, I, rfl, by simpa using q⟩
  | byt i => obtain ⟨t, rfl⟩ := (show ∃ t, v = Value.bytes i t from rx); exact wpAny_is_other rfl (fun z => nomatch z) ⟨.bl false, H, I, rfl, by simpa using q⟩
  | flt i => obtain ⟨t, rfl⟩ := (show ∃ t, v = Value.float i t from rx); exact wpAny_is_other rfl (fun z => nomatch z) ⟨.bl false, H, I, rfl, by simpa using q⟩
  | ref a => cases (show v = Value.ref a from rx); exact wpAny_is_other rfl (fun z => nomatch z) ⟨.bl false, H, I, rfl, by simpa using q⟩
  | ty n => cases (show v = Value.type n from rx); exact wpAny_is_other rfl (fun z => nomatch z) ⟨.bl false, H, I, rfl, by simpa using q⟩
end
/-! ### rules within a comprehension: K by name -/
section
variable {X : Cx} {K : PySem.W.Frag}
theorem ix_listK (h : X.K = K) : IxR X (rIxL K) := h ▸ ix_list
theorem ix_tupK (h : X.K = K) : IxR X (rIxT K) := h ▸ ix_tup
theorem pg_tupK (h : X.K = K) {elts : List Expr} {kk : Nat} {pos : Pos} {n : Nat} {t : TGs} (hc : X.calm = true) (hp : PGs X elts t) (hn : (assignEach elts X.env).length = n := by rfl) (hst : (assignEach elts X.env).findIdx? (·.1) = none := by rfl) : PG X (.Tuple elts kk pos) (gTup K n t) := h ▸ pg_tup hc hp hn hst
theorem op_in_seqK (h : X.K = K) : OpR X (compareOp .In) (rIn K false) := h ▸ op_in_seq
theorem op_notIn_seqK (h : X.K = K) : OpR X (compareOp .NotIn) (rIn K true) := h ▸ op_notIn_seq
theorem call_len_seqK (h : X.K = K) : CallR X (.builtin "len") (fun xs H Q => ∃ p ys, xs = [.ref p] ∧ (SqL K H p ys ∨ SqT K H p ys) ∧ Q (.int ys.length) H) := h ▸ call_len_seq
end
/-! ### heaps -/
theorem same_upd {H : Hp} {p : Addr} {o : HO} (h : H p = none) : Same H (upd H p o) := fun b x e => by
  rw [upd_ne (ne_of_none e h)]
  exact e
theorem same_at {H H' : Hp} {p : Addr} {o : HO} (s : Same H H') (h : H p = none) : Same H (upd H' p o) := fun b x e => by
  rw [upd_ne (ne_of_none e h)]
  exact s b x e
theorem same_tup {K : PySem.W.Frag} {H H' : Hp} {a : Addr} {xs : List V} (e : Same H H') (h : SqT K H a xs) : SqT K H' a xs := by
  rcases h with (h | ⟨o, h⟩) | h
  · exact .inl (.inl (e _ _ h))
  · exact .inl (.inr ⟨o, e _ _ h⟩)
  · exact .inr h
theorem lstAt {K : PySem.W.Frag} {H : Hp} {a : Addr} {xs : List V} (h : H a = some (.lst xs)) : SqL K H a xs := .inl (.inl h)
theorem tupAt {K : PySem.W.Frag} {H : Hp} {a : Addr} {xs : List V} (h : H a = some (.tup xs)) : SqT K H a xs := .inl (.inl h)
theorem atI_in {α : Type} {xs : List α} {i : Int} {v : α} (h0 : 0 ≤ i) (h : xs[i.toNat]? = some v) : atI xs i = some v := by
  obtain ⟨n, rfl⟩ : ∃ n : Nat, i = (n : Int) := ⟨i.toNat, by omega⟩
  exact atI_nat h
theorem yesT {σ : L2.St} {H : Hp} {A B : Hp → Prop} (h : A H) : tYes σ H (fun b H3 => if b = true then A H3 else B H3) := by
  show if true = true then A H else B H
  rw [if_pos rfl]
  exact h
end TK

namespace TK
open PySem PySem.Spec PyProof.Rows L2
section
variable {X : Cx} {pins : List (Addr × Obj)} {σ : L2.St} {H : Hp} {s : Shared}
/-- an untracked object of ours comes to be tracked -/
theorem adopt {a : Addr} {o : HO} (I : Inv X pins σ H s) (f : FpOk X pins H a) (new : ObjOk X.prog X.w (upd H a o) s.heap a o) : Inv X pins σ (upd H a o) s := by
  obtain ⟨q0, q1, q2, q3, q4, q5⟩ := f
  have ne : ∀ b u, H b = some u → b ≠ a := fun b u e z => by rw [z, q0] at e; cases e
  refine I.step (h' := s.heap) (g' := s.gens) (t' := s.toks) (d' := s.drawn) (ch := [a]) (fun b hb => ?_) (fun b o _ _ _ e _ => e) (fun b o _ _ _ e _ => ⟨o.slots, e⟩) (fun b o hb _ n => ?_) (fun b o _ e => ⟨o, e⟩) (fun b xs e => ?_) (fun b o u e => ?_) (fun b ps e => ⟨#[], ?_⟩) (fun m hm => hm) (fun b u e => ?_) I.bare
  · have e : b = a := by simpa using hb
    subst e
    exact ⟨q3, q1, q4, q5⟩
  · rw [upd_ne (fun z => hb (by simp [z]))]; exact n
  · rw [upd_ne (ne b _ e)]; exact e
  · rw [upd_ne (ne b _ e)]; exact e
  · rw [upd_ne (ne b _ e), e]; simp
  · by_cases hb : b = a
    · subst hb
      rw [upd_same] at e
      cases e
      exact new
    · rw [upd_ne hb] at e
      exact (I.hok b u e).stay (fun c v _ q => q) (fun c q => by rw [upd_ne (ne c _ q)]; exact q) fun c xs q => by rw [upd_ne (ne c _ q)]; exact q
/-- a def called from within a built-in's method -/
theorem run_fn2 {k : Nat} {f : Addr} {fd : FuncData} {ps : List Str} {sp : Sp} {Q : VK} {us : List Value} {itm : List V} {E' : Value → Shared → Prop} (F : FnOk X.prog X.w X.K X.mg X.base CX0 k f fd ps sp) (hr : Room (k + 2) X.A) (hb : Binds X.K fd ps [])
    (I : Inv X pins σ H s) (r : Vals itm us) (h : sp itm H Q E0) : wpAny (model X.prog X.w) X.A.in1.in1 (call (.ref f) us) (EP X pins σ Q) E' s := by
  have hl : (us ++ []).length = ps.length := by rw [List.append_nil, ← r.length]; exact F.len _ _ _ _ h
  have hbb := hb s us I.kIn hl
  rw [List.append_nil] at hbb
  refine wpAny_call (codeAny_mono (F.run X.A.in1.in1 X.stack s H ⟨us, []⟩ us itm Q E0 hr.in1.in1 I.env0.in1.in1 hbb r h) fun r s' hq => ?_)
  cases r with
  | error e => exact False.elim hq
  | ok fl =>
    cases fl with
    | ret u => exact I.after hq
    | next => exact False.elim hq
    | brk => exact False.elim hq
    | cont => exact False.elim hq
end
section
variable {X : Cx} {pins : List (Addr × Obj)} {σ : L2.St} {H : Hp} {s : Shared} {A : Around} {E : Value → Shared → Prop} {a kS : Addr} {itm : List Value} {kl : List Int} {kar : Array Value} {e ep1 : Nat} {P : PySem.Fin → Shared → Prop}
theorem sb_tail {st : SortSt} (I : Inv X pins σ H s) (gk : s.heap.get? kS = some (seqObj "list" kar e)) (ga : s.heap.get? a = some (seqObj "list" #[] ep1)) (fa : FpOk X pins H a) (fk : FpOk X pins H kS) (hka : kS ≠ a)
    (hki : IntsAre kar.toList kl) (hle : kl.length = itm.length) (hsm : itm.length ≤ sizeLine) (hp : (arrOf st).Perm (kar.zip itm.toArray)) (hs : SortedTo (arrOf st) (arrOf st).size) (hfl : failedOf st = none)
    (hst : Stable intKind (arrOf st) (kar.zip itm.toArray))
    (h : ∀ s' out c, Inv X pins σ H s' → s'.heap.get? a = some (seqObj "list" out c) → KskOutSt false kl itm out.toList → P (.done (.ret .none)) s') :
    wpAny (model X.prog X.w) A (ksk_tail a false ep1 (.ref kS) st) P E s := by
  have hsm2 := hsm
  rw [sizeLine_eq] at hsm2
  have zk : kar.size = itm.length := by
    have h1 := hki.length
    rw [Array.length_toList] at h1
    omega
  have za : (arrOf st).size = itm.length := by rw [hp.size_eq, Array.size_zip, zk, List.size_toArray, Nat.min_self]
  have zo : ((arrOf st).map (·.2)).size = itm.length := by rw [Array.size_map]; exact za
  have s1 := Heap.SameBut.update s.heap kS (Obj.mapSeq fun _ => (#[] : Array Value))
  have ga1 : (s.heap.update kS (Obj.mapSeq fun _ => (#[] : Array Value))).get? a = some (seqObj "list" #[] ep1) := (s1.2 a hka.symm).trans ga
  have s2 := Heap.SameBut.update (s.heap.update kS (Obj.mapSeq fun _ => (#[] : Array Value))) a (Obj.mapSeq fun _ => (arrOf st).map (·.2))
  obtain ⟨cn, gcn⟩ : ∃ cn, ((s.heap.update kS (Obj.mapSeq fun _ => (#[] : Array Value))).update a (Obj.mapSeq fun _ => (arrOf st).map (·.2))).get? a = some (seqObj "list" ((arrOf st).map (·.2)) cn) :=
    ⟨_, get?_update_seq ga1 fun _ => (arrOf st).map (·.2)⟩
  obtain ⟨k0, k1, k2, k3, k4, k5⟩ := fk
  obtain ⟨a0, a1, a2, a3, a4, a5⟩ := fa
  have I1 : Inv X pins σ H { s with heap := s.heap.update kS (Obj.mapSeq fun _ => (#[] : Array Value)) } := I.turned (t' := s.toks) (fun b o hb q => (s1.2 b hb).trans q) k0 k1 k3 k4 k5
  unfold ksk_tail
  try dsimp only
  refine wpAny_bind (listUpdate_at gk rfl ?_ (by rw [zk, sizeLine_eq]; omega) (Nat.zero_le _))
  refine wpAny_bind (wpAny_letGo ?_)
  refine wpAny_bind (seqEpoch_at ga1 rfl ?_)
  refine wpAny_bind (listUpdate_at ga1 rfl ?_ (Nat.zero_le _) (Nat.le_trans (Nat.le_of_eq zo) (by rw [sizeLine_eq]; omega)))
  rw [hfl]
  simp only [bne_self_eq_false, Bool.false_eq_true, if_false]
  refine wpAny_pure (h _ _ cn (I1.turned (t' := s.toks) (fun b o hb q => (s2.2 b hb).trans q) a0 a1 a3 a4 a5) gcn ?_)
  exact ksk_outSt (b := false) hki hp hs (by simpa using hst)
theorem sb_end (I : Inv X pins σ H s) (gk : s.heap.get? kS = some (seqObj "list" kar e)) (ga : s.heap.get? a = some (seqObj "list" #[] ep1)) (fa : FpOk X pins H a) (fk : FpOk X pins H kS) (hka : kS ≠ a)
    (hki : IntsAre kar.toList kl) (hle : kl.length = itm.length) (hsm : itm.length ≤ sizeLine)
    (h : ∀ s' out c, Inv X pins σ H s' → s'.heap.get? a = some (seqObj "list" out c) → KskOutSt false kl itm out.toList → P (.done (.ret .none)) s') :
    wpAny (model X.prog X.w) A (ksk_end a false itm.toArray ep1 (.ref kS) kar) P E s := by
  have hsm2 := hsm
  rw [sizeLine_eq] at hsm2
  have zk : kar.size = itm.length := by
    have h1 := hki.length
    rw [Array.length_toList] at h1
    omega
  have zz : (kar.zip itm.toArray).size = itm.length := by rw [Array.size_zip, zk, List.size_toArray, Nat.min_self]
  unfold ksk_end
  try dsimp only
  simp only [Bool.false_eq_true, if_false]
  by_cases few : itm.toArray.size < 2
  · rw [if_pos few, if_pos few]
    refine wpAny_bind (wpAny_pure ?_)
    rw [StateT.run_pure]
    refine wpAny_bind (wpAny_pure ?_)
    try dsimp only
    refine sb_tail (st := SortSt.mk' general' (kar.zip itm.toArray) #[] 7 none) I gk ga fa fk hka hki hle hsm (Array.Perm.refl _) ?_ rfl (Stable.refl _) h
    intro i j hij jlt
    have hj2 : j < (kar.zip itm.toArray).size := jlt
    rw [zz] at hj2
    rw [List.size_toArray] at few
    have : i = j := by omega
    subst this
    exact Int.le_refl _
  · rw [if_neg few, if_neg few]
    rw [List.size_toArray] at few
    rw [ksk_kind hki (by rw [zk]; omega)]
    refine wpAny_bind (wpAny_pure ?_)
    refine wpAny_bind (wpAny_mono (wpS_sortRunsSt (κ := intKind) (a₀ := kar.zip itm.toArray)
      (st := SortSt.mk' oneType' (kar.zip itm.toArray) #[] 7 none)
      (Q := fun _ sq => (arrOf sq).Perm (kar.zip itm.toArray) ∧ failedOf sq = none ∧ SortedTo (arrOf sq) (arrOf sq).size ∧
        Stable intKind (arrOf sq) (kar.zip itm.toArray))
      intKind_oneLt (ksk_keysOfInt (ksk_intKeys hki)) ⟨Array.Perm.refl _, rfl, rfl⟩ rfl (Stable.refl _) (by rw [zz]; omega)
      fun sq a1 a2 a3 a4 => ⟨a1, a2, by rw [a1.size_eq]; exact sortedTo_of_int a3, a4⟩) ?_ fun _ _ e => e)
    rintro ⟨⟨⟩, sq⟩ s' ⟨rfl, hp, hf, hs, hst⟩
    try dsimp only
    exact sb_tail I gk ga fa fk hka hki hle hsm hp hs hf hst h
theorem sb_rest {f : Value} (I : Inv X pins σ H s) (gk : s.heap.get? kS = some (seqObj "list" #[] 0)) (ga : s.heap.get? a = some (seqObj "list" #[] ep1)) (fa : FpOk X pins H a) (fk : FpOk X pins H kS) (hka : kS ≠ a)
    (hle : kl.length = itm.length) (hsm : itm.length ≤ sizeLine)
    (turn : ∀ (i : Nat) (v : Value) (k : Int) (pins' : List (Addr × Obj)) (s' : Shared), itm[i]? = some v → kl[i]? = some k → Inv X pins' σ H s' →
      wpAny (model X.prog X.w) A (call f [v]) (EP X pins' σ fun x H' => x = .int k ∧ H' = H) (fun _ _ => False) s')
    (h : ∀ s' out c, Inv X pins σ H s' → s'.heap.get? a = some (seqObj "list" out c) → KskOutSt false kl itm out.toList → P (.done (.ret .none)) s') :
    wpAny (model X.prog X.w) A (ksk_rest a f false itm.toArray ep1 (.ref kS)) P E s := by
  have hsm2 := hsm
  rw [sizeLine_eq] at hsm2
  unfold ksk_rest
  refine wpAny_bind (wpAny_rule ?_)
  first
    | rw [List.forIn_toArray]
    | (rw [← Array.forIn_toList]; simp only [List.toList_toArray])
    | rw [← Array.forIn_toList]
  refine wpAny_bind (ksk_fold (fun i s' => ∃ gar e, Inv X pins σ H s' ∧ s'.heap.get? kS = some (seqObj "list" gar e) ∧ s'.heap.get? a = some (seqObj "list" #[] ep1) ∧ IntsAre gar.toList (kl.take i)) itm 0 s
    ⟨#[], 0, I, gk, ga, by simpa using IntsAre.nil⟩ ?step ?done)
  case step =>
    rintro j x s' hx ⟨gar, e, I', nk', na', hki⟩
    simp only [Nat.zero_add] at hki ⊢
    have jlt : j < itm.length := (List.getElem?_eq_some_iff.mp hx).1
    obtain ⟨k, ekj⟩ : ∃ k, kl[j]? = some k := ⟨_, List.getElem?_eq_getElem (by omega)⟩
    have gsm : gar.size ≤ itm.length := by
      have h1 := hki.length
      rw [Array.length_toList, List.length_take] at h1
      omega
    have I2 : Inv X (pins ++ [(kS, seqObj "list" gar e), (a, seqObj "list" #[] ep1)]) σ H s' := I'.pins_of fun p hp => by
      rcases List.mem_append.mp hp with hp | hp
      · exact I'.pin p (List.mem_append_right _ hp)
      · rcases List.mem_cons.mp hp with rfl | hp
        · exact ⟨nk', fk.1, fk.2.1, fk.2.2.1, fun v z => nomatch z⟩
        · rw [List.mem_singleton.mp hp]
          exact ⟨na', fa.1, fa.2.1, fa.2.2.1, fun v z => nomatch z⟩
    refine wpAny_bind (wpAny_attempt (wpAny_mono (turn j x k _ s' hx ekj I2) (fun v s'' he => ?_) fun _ _ hF => hF.elim))
    obtain ⟨y, H', I3, ry, rfl, rfl⟩ := he
    obtain ⟨t2, rfl⟩ : ∃ t, v = Value.int k t := ry
    try dsimp only
    have nk3 := (I3.pin (kS, seqObj "list" gar e) (List.mem_append_right _ (List.mem_append_right _ (.head _)))).1
    have na3 := (I3.pin (a, seqObj "list" #[] ep1) (List.mem_append_right _ (List.mem_append_right _ (.tail _ (.head _))))).1
    have s1 := Heap.SameBut.update s''.heap kS (Obj.mapSeq (·.push (.int k t2)))
    obtain ⟨cn, gcn⟩ : ∃ cn, (s''.heap.update kS (Obj.mapSeq (·.push (.int k t2)))).get? kS = some (seqObj "list" (gar.push (.int k t2)) cn) := ⟨_, get?_update_seq nk3 (·.push (.int k t2))⟩
    have et : kl.take (j + 1) = kl.take j ++ [k] := by rw [List.take_add_one, ekj]; simp
    have epu : (gar.push (Value.int k t2)).toList = gar.toList ++ [Value.int k t2] := by simp
    obtain ⟨k0, k1, _, k3, k4, k5⟩ := fk
    refine wpAny_bind (listUpdate_at nk3 rfl ?_ (by rw [sizeLine_eq]; omega) (Nat.le_trans (Nat.le_of_eq (Array.size_push ..)) (by rw [sizeLine_eq]; omega)))
    refine wpAny_pure ⟨rfl, gar.push (.int k t2), cn, I3.unpinned.turned (t' := s''.toks) (fun b o hb q => (s1.2 b hb).trans q) k0 k1 k3 k4 k5, gcn, (s1.2 a hka.symm).trans na3, by rw [epu, et]; exact ksk_snoc hki⟩
  case done =>
    rintro s' ⟨gar, e, I', nk', na', hki⟩
    have hkf : IntsAre gar.toList kl := by
      have eall : kl.take (0 + itm.length) = kl := List.take_of_length_le (by omega)
      rw [eall] at hki
      exact hki
    try dsimp only
    refine wpAny_bind (listItems_at nk' rfl ?_)
    exact sb_end I' nk' na' fa fk hka hkf hle hsm h
end
end TK

namespace TK
open PySem PySem.Spec PyProof.Rows L2
section
variable {prog : Program} {w : World} {A : Around} {E : Value → Shared → Prop} {s : Shared}
/-- the items of a tuple, drawn together -/
theorem collect_tup {t : Addr} {vs : List Value} {Q : List Value → Shared → Prop} (ht : IsTup s.heap t vs.toArray) (hsm : vs.length ≤ sizeLine)
    (h : Q vs { s with heap := (s.heap.push (seqObj "list" #[] 0)).update s.heap.objs.size (Obj.mapSeq (· ++ vs.toArray)) }) : wpAny (model prog w) A (collect (.ref t)) Q E s := by
  obtain ⟨ob, gob0, hcls, n, hdt⟩ := ht
  unfold collect
  refine wpAny_bind (wpAny_runValue (codeAny_builtin entry_proto_collect' ?_))
  show wpAny _ _ (do again (.builtin "list.__iadd__" ⟨[← newList [], .ref t], []⟩)) _ _ s
  refine wpAny_bind (wpAny_newList (wpAny_pure ⟨Code.quiet_builtin _ (by decide +kernel), codeAny_builtin entry_list_iadd' ?_⟩))
  show wpAny _ _ (Builtin.List.listExtendWith (.ref s.heap.objs.size) (.ref t) (.ref s.heap.objs.size)) _ _ { s with heap := s.heap.push (seqObj "list" #[] 0) }
  have gob : (s.heap.push (seqObj "list" #[] 0)).get? t = some ob := Heap.get?_push_of_some _ gob0
  have gnew : (s.heap.push (seqObj "list" #[] 0)).get? s.heap.objs.size = some (seqObj "list" #[] 0) := Heap.get?_push_size _ rfl
  unfold Builtin.List.listExtendWith
  refine wpAny_bind (wpAny_typeOf (T := "tuple") ⟨ob, gob, hcls⟩ ?_)
  rw [if_pos (by simp only [show (Value.type "tuple" == Value.type "tuple") = true from rfl, Bool.or_true])]
  refine wpAny_bind (listItems_at gob hdt (wpAny_bind (listItems_at gnew rfl ?_)))
  rw [if_neg (by simp)]
  refine wpAny_bind (listUpdate_at gnew rfl (wpAny_pure ?_) (Nat.zero_le _) (by simp only [Array.size_append, List.size_toArray, List.length_nil]; omega))
  show wpAny (model prog w) A (do
      let o ← load s.heap.objs.size
      match o.data with
      | .seq xs _ => pure xs.toList
      | _ => unsupported "internal:collect") Q E _
  refine wpAny_bind (wpAny_load (get?_update_seq gnew _) ?_)
  show wpAny _ _ (pure ((#[] : Array Value) ++ vs.toArray).toList) Q E _
  rw [show ((#[] : Array Value) ++ vs.toArray).toList = vs by simp]
  exact wpAny_pure h
end
section
variable {X : Cx} {pins : List (Addr × Obj)} {σ : L2.St} {H : Hp} {s : Shared} {A : Around} {E : Value → Shared → Prop} {a : Addr} {vs : List Value} {kz : List Int} {P : PySem.Fin → Shared → Prop}
theorem sb_sort {f : Value} {n : Nat} (I : Inv X pins σ H s) (ho : s.heap.get? a = some (seqObj "list" vs.toArray n)) (fa : FpOk X pins H a) (hlen : kz.length = vs.length) (hZ : vs.length ≤ sizeLine)
    (turn : ∀ (i : Nat) (v : Value) (k : Int) (pins' : List (Addr × Obj)) (s' : Shared), vs[i]? = some v → kz[i]? = some k → Inv X pins' σ H s' →
      wpAny (model X.prog X.w) A (call f [v]) (EP X pins' σ fun x H' => x = .int k ∧ H' = H) (fun _ _ => False) s')
    (h : ∀ s' out c, Inv X pins σ H s' → s'.heap.get? a = some (seqObj "list" out c) → KskOutSt false kz vs out.toList → P (.done (.ret .none)) s') :
    wpAny (model X.prog X.w) A (ksk_tree a f false) P E s := by
  have hZ2 := hZ
  rw [sizeLine_eq] at hZ2
  have hal : a < s.heap.objs.size := Heap.lt_size ho
  generalize hh1 : s.heap.update a (Obj.mapSeq fun _ => (#[] : Array Value)) = h1
  have sb : Heap.SameBut a s.heap h1 := by rw [← hh1]; exact Heap.SameBut.update s.heap a _
  obtain ⟨e1, ho1⟩ : ∃ e1, h1.get? a = some (seqObj "list" #[] e1) := by rw [← hh1]; exact ⟨_, get?_update_seq ho fun _ => #[]⟩
  have hz1 : h1.objs.size = s.heap.objs.size := by rw [← hh1, Heap.size_update]
  obtain ⟨a0, a1, a2, a3, a4, a5⟩ := id fa
  have I1 : Inv X pins σ H { s with heap := h1 } := I.turned (t' := s.toks) (fun b o hb q => (sb.2 b hb).trans q) a0 a1 a3 a4 a5
  have I2 : Inv X pins σ H { s with heap := (h1.push (seqObj "tuple" vs.toArray 0)).push (seqObj "list" #[] 0) } := I1.kept (t' := s.toks) fun b o q => Heap.get?_push_of_some _ (Heap.get?_push_of_some _ q)
  have hkz : (h1.push (seqObj "tuple" vs.toArray 0)).objs.size = s.heap.objs.size + 1 := by rw [size_push', hz1]
  unfold ksk_tree
  refine wpAny_bind (listItems_at ho rfl (wpAny_bind (listUpdate_at ho rfl ?_ (by rw [List.size_toArray, sizeLine_eq]; omega) (Nat.zero_le _))))
  rw [hh1]
  refine wpAny_bind (seqEpoch_at ho1 rfl (wpAny_bind (wpAny_newTuple (wpAny_bind (wpAny_newList (wpAny_holding ?_) (Nat.zero_le _))) (by show vs.length ≤ _; rw [sizeLine_eq]; omega))))
  refine sb_rest (s := { s with heap := (h1.push (seqObj "tuple" vs.toArray 0)).push (seqObj "list" #[] 0) }) (kS := (h1.push (seqObj "tuple" vs.toArray 0)).objs.size) I2 (Heap.get?_push_size _ rfl) (Heap.get?_push_of_some _ (Heap.get?_push_of_some _ ho1)) fa ?_ (Nat.ne_of_gt (by rw [hkz]; exact Nat.lt_succ_of_lt hal)) hlen hZ turn h
  exact I1.fpOk (by show h1.objs.size ≤ _; rw [hkz, hz1]; omega) (I1.hok.fresh (by show h1.objs.size ≤ _; rw [hkz, hz1]; omega))
end
/-! ### the stable order by a key -/
def insK {α : Type} (x : Int × α) : List (Int × α) → List (Int × α)
  | [] => [x]
  | y :: r => if x.1 ≤ y.1 then x :: y :: r else y :: insK x r
def sortK {α : Type} : List (Int × α) → List (Int × α)
  | [] => []
  | x :: r => insK x (sortK r)
section
variable {α : Type}
theorem insK_perm (x : Int × α) : ∀ l, (insK x l).Perm (x :: l)
  | [] => .refl _
  | y :: r => by
    unfold insK
    split
    · exact .refl _
    · exact ((insK_perm x r).cons y).trans (.swap x y r)
theorem sortK_perm : ∀ l : List (Int × α), (sortK l).Perm l
  | [] => .refl _
  | x :: r => (insK_perm x (sortK r)).trans ((sortK_perm r).cons x)
theorem insK_up (x : Int × α) : ∀ l : List (Int × α), l.Pairwise (fun p q => p.1 ≤ q.1) → (insK x l).Pairwise (fun p q => p.1 ≤ q.1)
  | [], _ => List.pairwise_singleton ..
  | y :: r, h => by
    unfold insK
    split
    · rename_i hx
      refine List.Pairwise.cons (fun z hsm => ?_) h
      rcases List.mem_cons.mp hsm with rfl | hsm
      · exact hx
      · exact Int.le_trans hx (List.rel_of_pairwise_cons h hsm)
    · rename_i hx
      refine List.Pairwise.cons (fun z hsm => ?_) (insK_up x r (List.Pairwise.of_cons h))
      rcases List.mem_cons.mp ((insK_perm x r).mem_iff.mp hsm) with rfl | hsm
      · omega
      · exact List.rel_of_pairwise_cons h hsm
theorem sortK_up : ∀ l : List (Int × α), (sortK l).Pairwise (fun p q => p.1 ≤ q.1)
  | [] => .nil
  | x :: r => insK_up x _ (sortK_up r)
theorem insK_filter (x : Int × α) (c : Int) : ∀ l : List (Int × α), l.Pairwise (fun p q => p.1 ≤ q.1) → (insK x l).filter (fun p => p.1 == c) = (x :: l).filter (fun p => p.1 == c)
  | [], _ => rfl
  | y :: r, h => by
    unfold insK
    split
    · rfl
    · rename_i hx
      have ih := insK_filter x c r (List.Pairwise.of_cons h)
      rw [List.filter_cons, ih, List.filter_cons, List.filter_cons, List.filter_cons]
      by_cases h1 : (x.1 == c) = true
      · by_cases h2 : (y.1 == c) = true
        · have e1 : x.1 = c := by simpa using h1
          have e2 : y.1 = c := by simpa using h2
          omega
        · simp [h1, h2]
      · simp [h1]
theorem sortK_filter (c : Int) : ∀ l : List (Int × α), (sortK l).filter (fun p => p.1 == c) = l.filter (fun p => p.1 == c)
  | [] => rfl
  | x :: r => by
    show (insK x (sortK r)).filter _ = _
    rw [insK_filter x c _ (sortK_up r), List.filter_cons, sortK_filter c r, List.filter_cons]
theorem stable_one : ∀ {l m : List (Int × α)}, l.Perm m → l.Pairwise (fun p q => p.1 ≤ q.1) → m.Pairwise (fun p q => p.1 ≤ q.1) → (∀ c, l.filter (fun p => p.1 == c) = m.filter (fun p => p.1 == c)) → l = m
  | [], m, hp, _, _, _ => by rw [List.nil_perm.mp hp]
  | x :: l, [], hp, _, _, _ => by cases hp.length_eq
  | x :: l, y :: m, hp, h1, h2, hf => by
    have le1 : x.1 ≤ y.1 := by
      rcases List.mem_cons.mp (hp.mem_iff.mpr (List.mem_cons_self ..) : y ∈ x :: l) with e | e
      · rw [e]; exact Int.le_refl _
      · exact List.rel_of_pairwise_cons h1 e
    have le2 : y.1 ≤ x.1 := by
      rcases List.mem_cons.mp (hp.mem_iff.mp (List.mem_cons_self ..) : x ∈ y :: m) with e | e
      · rw [e]; exact Int.le_refl _
      · exact List.rel_of_pairwise_cons h2 e
    have e : x.1 = y.1 := by omega
    have hx := hf x.1
    rw [List.filter_cons, List.filter_cons, if_pos (by simp), if_pos (by simp [e])] at hx
    obtain ⟨exy, _⟩ := List.cons.inj hx
    subst exy
    rw [stable_one (List.Perm.cons_inv hp) (List.Pairwise.of_cons h1) (List.Pairwise.of_cons h2) fun c => ?_]
    have := hf c
    rw [List.filter_cons, List.filter_cons] at this
    split at this
    · exact (List.cons.inj this).2
    · exact this
theorem insK_map {β : Type} (g : α → β) (x : Int × α) : ∀ l : List (Int × α), (insK x l).map (fun p => (p.1, g p.2)) = insK (x.1, g x.2) (l.map fun p => (p.1, g p.2))
  | [] => rfl
  | y :: r => by
    unfold insK
    by_cases h : x.1 ≤ y.1
    · rw [if_pos h]
      show _ = if x.1 ≤ y.1 then _ else _
      rw [if_pos h]; rfl
    · rw [if_neg h]
      show _ = if x.1 ≤ y.1 then _ else _
      rw [if_neg h, List.map_cons, insK_map g x r]
theorem sortK_map {β : Type} (g : α → β) : ∀ l : List (Int × α), (sortK l).map (fun p => (p.1, g p.2)) = sortK (l.map fun p => (p.1, g p.2))
  | [] => rfl
  | x :: r => by
    show (insK x (sortK r)).map _ = insK _ (sortK (r.map _))
    rw [insK_map, sortK_map g r]
end
/-- sorted pairs of related values are related -/
theorem insK_rel {x : Int × V} {u : Int × Value} (e : x.1 = u.1) (r : RelV x.2 u.2) : ∀ {l : List (Int × V)} {m : List (Int × Value)}, Paired (fun p q => p.1 = q.1 ∧ RelV p.2 q.2) l m → Paired (fun (p : Int × V) (q : Int × Value) => p.1 = q.1 ∧ RelV p.2 q.2) (insK x l) (insK u m)
  | _, _, .nil => .cons ⟨e, r⟩ .nil
  | y :: l, v :: m, .cons h t => by
    unfold insK
    rw [← e, ← h.1]
    split
    · exact .cons ⟨e, r⟩ (.cons h t)
    · exact .cons h (insK_rel e r t)
theorem sortK_rel : ∀ {l : List (Int × V)} {m : List (Int × Value)}, Paired (fun p q => p.1 = q.1 ∧ RelV p.2 q.2) l m → Paired (fun (p : Int × V) (q : Int × Value) => p.1 = q.1 ∧ RelV p.2 q.2) (sortK l) (sortK m)
  | _, _, .nil => .nil
  | _, _, .cons h t => insK_rel h.1 h.2 (sortK_rel t)
theorem zip_rel : ∀ {kz : List Int} {xs : List V} {us : List Value}, Vals xs us → Paired (fun (p : Int × V) (q : Int × Value) => p.1 = q.1 ∧ RelV p.2 q.2) (kz.zip xs) (kz.zip us)
  | [], _, _, _ => .nil
  | _ :: _, _, _, .nil => .nil
  | k :: kz, _, _, .cons r t => .cons ⟨rfl, r⟩ (zip_rel t)
theorem rel_snd : ∀ {l : List (Int × V)} {m : List (Int × Value)}, Paired (fun p q => p.1 = q.1 ∧ RelV p.2 q.2) l m → Vals (l.map Prod.snd) (m.map Prod.snd)
  | _, _, .nil => .nil
  | _, _, .cons h t => .cons h.2 (rel_snd t)
def byKey (ks : List Int) (xs : List V) : List V := (sortK (ks.zip xs)).map Prod.snd
theorem byKey_len {ks : List Int} {xs : List V} (h : ks.length = xs.length) : (byKey ks xs).length = xs.length := by
  unfold byKey
  rw [List.length_map, (sortK_perm _).length_eq, List.length_zip, h, Nat.min_self]
section
variable {X : Cx}
/-- sorted(xs, key=f), f a def whose answer is an int and that leaves the heap -/
def rSortedBy (K : PySem.W.Frag) (f : Addr) (sp : Sp) : List V → List V → Hp → VK → Prop := fun vs zs H Q => ∃ (a : Addr) (xs : List V) (ks : List Int), vs = [V.ref a] ∧ zs = [V.ref f] ∧ (SqL K H a xs ∨ SqT K H a xs) ∧ ks.length = xs.length ∧
  (∀ (i : Nat) (x : V) (k : Int), xs[i]? = some x → ks[i]? = some k → sp [x] H (fun v H' => v = .int k ∧ H' = H) E0) ∧ ∀ p, H p = none → Q (.ref p) (upd H p (.lst (byKey ks xs)))
theorem cr_sortedBy {k : Nat} {f : Addr} {fd : FuncData} {ps : List Str} {sp : Sp} (F : FnOk X.prog X.w X.K X.mg X.base CX0 k f fd ps sp) (hr : Room (k + 2) X.A) (hb : Binds X.K fd ps []) : CallRK X (.builtin "sorted") [Str.ofString "key"] (rSortedBy X.K f sp) := by
  intro pins s σ H xs zs us ws Q I rx rz hq
  obtain ⟨a, ys, ks, rfl, rfl, hS, hkl, hsp, q⟩ := hq
  cases rx with
  | cons r1 r2 =>
    cases r2
    cases r1
    cases rz with
    | cons z1 z2 =>
      cases z2
      cases z1
      obtain ⟨its, rv, hcol, hsm⟩ : ∃ its : List Value, Vals ys its ∧ (∀ (A : Around) (Q : List Value → Shared → Prop) (E : Value → Shared → Prop), Q its { s with heap := (s.heap.push (seqObj "list" #[] 0)).update s.heap.objs.size (Obj.mapSeq (· ++ its.toArray)) } → wpAny (model X.prog X.w) A (collect (.ref a)) Q E s) ∧ its.length ≤ sizeLine := by
        rcases hS with hS | hS
        · obtain ⟨its, rv, hl, hsm⟩ := I.list hS
          have hz' : its.length ≤ sizeLine := by rw [← rv.length]; exact hsm
          exact ⟨its, rv, fun A Q E h => collect_list hl.isList h hz', hz'⟩
        · obtain ⟨its, rv, hl, hsm⟩ := I.tuple hS
          have hz' : its.length ≤ sizeLine := by rw [← rv.length]; exact hsm
          exact ⟨its, rv, fun A Q E h => collect_tup hl hz' h, hz'⟩
      have hlen : ks.length = its.length := by rw [hkl, rv.length]
      show wpAny _ _ (call (.builtin "sorted") [.ref a] [(Str.ofString "key", .ref f)]) _ _ _
      refine call_function_entry_kw kind_sorted plain_sorted entry_sorted (ksk_s1 _ _) ?_
      unfold Builtin.«sorted»
      refine wpAny_bind (m := checkCount "sorted" 1 1 _) (wpAny_pure (wpAny_bind (hcol _ _ _ (wpAny_bind (wpAny_newList ?_ hsm)))))
      generalize hh1 : (s.heap.push (seqObj "list" #[] 0)).update s.heap.objs.size (Obj.mapSeq (· ++ its.toArray)) = h1
      have hz1 : h1.objs.size = s.heap.objs.size + 1 := by rw [← hh1, Heap.size_update, size_push']
      have kp1 : ∀ b o, s.heap.get? b = some o → h1.get? b = some o := fun b o e => by
        rw [← hh1, Heap.get?_update_ne _ _ _ _ (Nat.ne_of_lt (Heap.lt_size e))]
        exact Heap.get?_push_of_some _ e
      have hoL : (h1.push (seqObj "list" its.toArray 0)).get? h1.objs.size = some (seqObj "list" its.toArray 0) := Heap.get?_push_size _ rfl
      have I1 : Inv X pins σ H { s with heap := h1 } := I.kept (t' := s.toks) kp1
      have I2 : Inv X pins σ H { s with heap := h1.push (seqObj "list" its.toArray 0) } := I1.kept (t' := s.toks) fun b o e => Heap.get?_push_of_some _ e
      have fa : FpOk X pins H h1.objs.size := I1.fpOk (Nat.le_refl _) (I1.hok.fresh (Nat.le_refl _))
      refine wpAny_bind (wpAny_holding (wpAny_call_entry_kw slot_list_sort ⟨_, hoL, rfl⟩ entry_list_sort ?_ (ksk_l1 _ _)))
      show wpAny (model X.prog X.w) X.A.in1.in1 (Builtin.«list.sort» ⟨[.ref h1.objs.size], [(Str.ofString "key", .ref f)]⟩) _ _ _
      rw [ksk_t1]
      refine sb_sort (s := { s with heap := h1.push (seqObj "list" its.toArray 0) }) (kz := ks) I2 hoL fa hlen hsm (fun i v k pins' s' hv hk I' => ?_) fun s' out c I' ho' ko => ⟨_, rfl, ?_⟩
      · obtain ⟨x, hx, rxv⟩ : ∃ x, ys[i]? = some x ∧ RelV x v := by
          have hi : i < ys.length := by rw [rv.length]; exact (List.getElem?_eq_some_iff.mp hv).1
          obtain ⟨u, hu, ru⟩ := rv.get (List.getElem?_eq_getElem hi)
          rw [hv] at hu
          cases hu
          exact ⟨_, List.getElem?_eq_getElem hi, ru⟩
        exact run_fn2 F hr hb I' (.cons rxv .nil) (hsp i x k hx hk)
      · obtain ⟨pr, p1, p2, p3, p4⟩ := ko
        have e1 : pr = sortK (ks.zip its) := stable_one (p1.trans (sortK_perm _).symm) (by simpa using p3) (sortK_up _) fun c => (p4 c).trans (sortK_filter c _).symm
        have rel : Vals (byKey ks ys) out.toList := by
          rw [p2, e1]
          exact rel_snd (sortK_rel (zip_rel rv))
        have hbz : (byKey ks ys).length ≤ sizeLine := by rw [byKey_len hkl, rv.length]; exact hsm
        refine wpAny_pure ⟨_, rfl, ?_⟩
        exact ⟨.ref h1.objs.size, upd H h1.objs.size (.lst (byKey ks ys)), adopt I' fa ⟨hbz, out.toList, c, rel, by rw [Array.toArray_toList]; exact ho'⟩, rfl, q _ fa.1⟩
end
end TK

namespace TK
open PySem PySem.Spec PyProof.Rows L2
/-! ### enumerate(tuple) -/
theorem meets_enum1 {v : Value} {o : Obj} {G : Heap → Prop} (B : Begins v o G) :
    Meets (Builtin.«enumerate.__new__» ⟨[.type "enumerate", v], []⟩) (fun _ R s => G s.heap ∧
      R (.ok (.ret (.ref (s.heap.push o).objs.size))) { s with heap := (s.heap.push o).push { cls := .type "enumerate", data := .fields #[.none, .bool false, .ref s.heap.objs.size, rawInt 0, .none, .none] } }) :=
  .of_wp fun prog w A R s hh => by
    obtain ⟨hp, gg, dd, tk, os⟩ := s
    obtain ⟨hG, hR⟩ := hh
    have hsub := sub_enumerate
    have it1 : ∀ {A' : Around} {E' : Value → Shared → Prop} {Q : Value → Shared → Prop}, Q (.ref hp.objs.size) ⟨hp.push o, gg, dd, tk, os⟩ → wpAny (model prog w) A' (pyIter v) Q E' ⟨hp, gg, dd, tk, os⟩ := fun q => B.iter prog w _ _ ⟨hp, gg, dd, tk, os⟩ _ hG q
    wp_walk using it1
    refine wpAny_stack_any fun st => wpAny_pure ?_
    split
    · rename_i c _ _ _ _ _
      cases (c == Value.type "enumerate") <;> (wp_walk using it1; exact ⟨_, rfl, hR⟩)
    · wp_walk using it1
      exact ⟨_, rfl, hR⟩
section
variable {prog : Program} {w : World} {A : Around} {E : Value → Shared → Prop} {s : Shared}
theorem call_enum1 {v : Value} {o : Obj} {G : Heap → Prop} {Q : Value → Shared → Prop} (B : Begins v o G) (hG : G s.heap)
    (h : ∀ h', IsEnum h' (s.heap.objs.size + 1) s.heap.objs.size 0 .none → h'.get? s.heap.objs.size = some o → (∀ b o, s.heap.get? b = some o → h'.get? b = some o) → Q (.ref (s.heap.objs.size + 1)) { s with heap := h' }) :
    wpAny (model prog w) A (call (.type "enumerate") [v]) Q E s := by
  refine callType_new F.called_enumerate (by decide) (F.typeCall_enumerate_1 _) (F.newCall_enumerate_1 _) (fun obj => F.args_object_init_2 obj _) F.entry_enumerate_new (meets_enum1 B) ⟨hG, ?_⟩
  have zp : (s.heap.push o).objs.size = s.heap.objs.size + 1 := Heap.size_push ..
  show _ ∧ _
  rw [zp]
  have gen : IsEnum ((s.heap.push o).push { cls := .type "enumerate", data := .fields #[.none, .bool false, .ref s.heap.objs.size, rawInt 0, .none, .none] }) (s.heap.objs.size + 1) s.heap.objs.size 0 .none := by
    unfold IsEnum
    rw [← zp]
    exact Heap.get?_push_size _ rfl
  exact ⟨⟨_, gen, rfl⟩, h _ gen (Heap.get?_push_of_some _ (Heap.get?_push_size _ B.free)) fun b o q => Heap.get?_push_of_some _ (Heap.get?_push_of_some _ q)⟩
end
def IteT (K : PySem.W.Frag) (a : Addr) (n : Nat) : It :=
  ⟨fun i H => i < n ∧ ∃ xs : List V, SqT K H a xs ∧ xs.length = n, fun i H v H' => ∃ T x, v = .ref T ∧ H T = none ∧ H' = upd H T (.tup [.int (i : Nat), x]) ∧ ∀ xs, SqT K H a xs → xs[i]? = some x, fun i H => n ≤ i ∧ ∃ xs : List V, SqT K H a xs ∧ xs.length = n⟩
theorem turn_enumT {P : Program} {w : World} {K : PySem.W.Frag} {elts : List Expr} {kk : Nat} {tpos : Pos} (a e it : Addr) (n : Nat) (nei : e ≠ it) (nae : a ≠ e) (nai : a ≠ it) :
    Turn P w K (.Tuple elts kk tpos) (IteT K a n) [e, it] e (fun i h => (∃ old, IsEnum h e it ((i : Nat) : Int) old) ∧ h.IsTupleIter it a i ∧ i ≤ n) where
  mem := List.mem_cons_self ..
  obj := fun i h st b hb => by
    obtain ⟨⟨old, gen⟩, ⟨o, ho, _, hd⟩, _⟩ := st
    rcases List.mem_cons.mp hb with z | z
    · rw [z]; exact ⟨_, gen, fun v q => nomatch q⟩
    · rw [List.mem_singleton.mp z]; exact ⟨o, ho, fun v q => by rw [hd] at q; cases q⟩
  keep := fun i h h' st k => by
    obtain ⟨⟨old, gen⟩, hi, hn⟩ := st
    exact ⟨⟨old, k e (by simp) _ gen⟩, hi.at fun o q => k it (by simp) o q, hn⟩
  item := by
    intro X hP hw hK hc i pins s σ H E I hf st hg
    subst hP hw hK
    obtain ⟨⟨old, gen⟩, git, _⟩ := st
    obtain ⟨ltn, xs, hq, hxl⟩ := hg
    obtain ⟨itm, rel, p, zp⟩ := I.tuple hq
    have elt : e < s.heap.objs.size := Heap.lt_size gen
    have ilt : it < s.heap.objs.size := by obtain ⟨_, q, _⟩ := git; exact Heap.lt_size q
    have hsz : itm.toArray.size = n := by rw [List.size_toArray, ← rel.length]; exact hxl
    have D := Draws.tuple (prog := X.prog) (w := X.w) (A := X.A.in1) (I.ok.hd hc) it a nai itm.toArray
    refine wpAny_pyNext_enum_itemD D gen ⟨git, p⟩ (by rw [hsz]; exact ltn) nei (by simp [nei, Ne.symm nae]) fun u h' tk hu ho hst hT _ hk => ?_
    obtain ⟨x, hx, ru⟩ : ∃ x, xs[i]? = some x ∧ RelV x u := by
      obtain ⟨u', hu', ru'⟩ := rel.get (List.getElem?_eq_getElem (show i < xs.length by omega))
      have hu2 : itm[i]? = some u := by simpa using hu
      rw [hu2] at hu'
      cases hu'
      exact ⟨_, List.getElem?_eq_getElem (by omega), ru'⟩
    refine ⟨_, rfl, wpAny_letOwnedTupleGo_enum (s := { s with heap := h', toks := tk + 1 }) ho fun h'' he' sb => ?_⟩
    have atT : h''.get? s.heap.objs.size = some { cls := .type "tuple", data := .seq #[.int i tk, u] } := (sb.2 _ (Nat.ne_of_gt elt)).trans hT
    have new : ObjOk X.prog X.w (upd H s.heap.objs.size (.tup [.int (i : Nat), x])) h'' s.heap.objs.size (.tup [.int (i : Nat), x]) :=
      ⟨by show 2 ≤ sizeLine; decide, [.int i tk, u], .cons ⟨_, rfl⟩ (.cons ru .nil), ⟨_, atT, rfl, _, rfl⟩⟩
    have I1 : Inv X pins σ (upd H s.heap.objs.size (.tup [.int (i : Nat), x])) { s with heap := h'', toks := tk + 1 } :=
      I.turnedNew (ch := [e, it]) (fun b ob hb q => (sb.2 b (fun z => hb (by simp [z]))).trans (hk b ob (fun z => hb (by simp [z])) (fun z => hb (by simp [z])) q)) hf (Nat.le_refl _) new
    refine ⟨.ref s.heap.objs.size, _, I1, rfl, ⟨_, x, rfl, I.hok.fresh (Nat.le_refl _), rfl, fun ys hy => by rw [I.tuple_inj hy hq]; exact hx⟩, ⟨⟨u, ?_⟩, hst.1.at fun o q => (sb.2 it (Ne.symm nei)).trans q, by omega⟩, fun b hb => ?_⟩
    · rw [show ((i + 1 : Nat) : Int) = (i : Int) + 1 by omega]; exact he'
    · have blt : b < s.heap.objs.size := by
        rcases List.mem_cons.mp hb with z | z
        · rw [z]; exact elt
        · rw [List.mem_singleton.mp z]; exact ilt
      rw [upd_ne (Nat.ne_of_lt blt)]
      exact (hf b hb).1
  done := by
    intro X hP hw hK hc i pins s σ H E I hf st hg
    subst hP hw hK
    obtain ⟨⟨old, gen⟩, git, ble⟩ := st
    obtain ⟨hge, xs, hq, hxl⟩ := hg
    obtain ⟨itm, rel, p, zp⟩ := I.tuple hq
    have hin : i = itm.toArray.size := by rw [List.size_toArray, ← rel.length]; omega
    obtain ⟨q0, q1, q2, q3, q4, q5⟩ := hf it (by simp)
    have D := Draws.tuple (prog := X.prog) (w := X.w) (A := X.A.in1) (I.ok.hd hc) it a nai itm.toArray
    refine wpAny_pyNext_enum_endD D gen ⟨by rw [← hin]; exact git, p⟩ fun h' eb => ⟨rfl, I.turned (t' := s.toks) (fun b o hb q => eb b o hb q) q0 q1 q3 q4 q5⟩
  self := fun A i s Q E st h => by
    obtain ⟨⟨_, gen⟩, _⟩ := st
    exact wpAny_pyIter_enum gen h
def iEnumT (K : PySem.W.Frag) (ta : TA) : TI := fun σ H R => ta σ H fun vs H1 => ∃ a xs, vs = [.ref a] ∧ SqT K H1 a xs ∧ R (IteT K a xs.length) H1
theorem pi_enumT {X : Cx} {e : Expr} {ta : TA} {p pos tpos : Pos} {elts : List Expr} {kk : Nat} (hg : Gl X "enumerate") (hm : X.mg "enumerate" = none) (ha : PA X [e] ta) (hs : starEach [e] X.env = [(false, eval e X.env)] := by rfl) :
    PI X (.Tuple elts kk tpos) (.Call (.Name "enumerate" p) [e] [] pos) (iEnumT X.K ta) := by
  refine ⟨fun pins s σ H R I h => Call_ (ld_blt I hg hm boot_enumerate (PyProof.Rows.callWith_type1 (thn (ha.run pos pins s σ H _ I h) fun us s1 ⟨vs, H1, I1, r1, q1⟩ => ?_) hs rfl))⟩
  obtain ⟨a, xs, rfl, hq, q⟩ := q1
  cases r1 with
  | cons r rr =>
    cases rr
    cases r
    obtain ⟨itm, rel, p', zp⟩ := I1.tuple hq
    have hal : a < s1.heap.objs.size := by obtain ⟨_, q, _⟩ := p'; exact Heap.lt_size q
    refine call_enum1 (begins_tuple a itm.toArray) p' fun h' gen git hk => wpAny_pyIter_enum gen ?_
    have J2 : Inv X pins σ H1 { s1 with heap := h' } := I1.kept (t' := s1.toks) hk
    refine ⟨s1.heap.objs.size + 1, [s1.heap.objs.size + 1, s1.heap.objs.size], _, _, H1, rfl, J2, turn_enumT a (s1.heap.objs.size + 1) s1.heap.objs.size xs.length (Nat.succ_ne_self _) (Nat.ne_of_lt (Nat.lt_succ_of_lt hal)) (Nat.ne_of_lt hal), ⟨⟨.none, gen⟩, ⟨_, git, rfl, rfl⟩, Nat.zero_le _⟩, fun b hb => ?_, q⟩
    have ble : s1.heap.objs.size ≤ b := by
      rcases List.mem_cons.mp hb with z | z
      · rw [z]; exact Nat.le_add_right _ _
      · rw [List.mem_singleton.mp z]; exact Nat.le_refl _
    exact I1.fpOk ble (I1.hok.fresh ble)
theorem walk_enumT {K : PySem.W.Frag} {a : Addr} {xs : List V} : Walk (IteT K a xs.length) xs.length (fun H => SqT K H a xs) (YPair (fun i => some (.int (i : Nat))) (fun i => xs[i]?)) where
  goes := fun i H hi hG => ⟨hi, xs, hG, rfl⟩
  stops := fun H hG => ⟨Nat.le_refl _, xs, hG, rfl⟩
  yields := fun i H x H' _ hG hy => by
    obtain ⟨T, v, e1, e2, e3, e4⟩ := hy
    exact ⟨T, _, v, e1, e2, e3, rfl, e4 xs hG⟩
end TK

namespace TK
open PySem PySem.Spec PyProof.Rows L2
/-! ### max(xs, default=d), min(xs, default=d) of ints -/
theorem hold_ints {h : Heap} : ∀ {us : List Value} {ns : List Int}, IntsAre us ns → ∃ as, ReadsAll h us (ns.map PySem.W.Datum.toD) as
  | _, _, .nil => ⟨[], .nil⟩
  | _, _, .cons n t r => by
    obtain ⟨as, ra⟩ := hold_ints (h := h) r
    exact ⟨[] ++ as, .cons (.int n t) ra⟩
theorem hold_int {h : Heap} {v : Value} {m : Int} (H : PySem.W.Holds h v m) : ∃ t, v = Value.int m t := by
  obtain ⟨as, r⟩ := H
  have r : Reads h v (.int m) as := r
  cases r with
  | int i t => exact ⟨t, rfl⟩
theorem maxOf_is : ∀ (ys : List Int) (y : Int), PySem.W.maxOf y ys ∈ y :: ys ∧ ∀ z ∈ y :: ys, z ≤ PySem.W.maxOf y ys
  | [], y => ⟨List.mem_cons_self .., fun z hz => by cases List.mem_singleton.mp hz; exact Int.le_refl _⟩
  | a :: ys, y => by
    have e : PySem.W.maxOf y (a :: ys) = PySem.W.maxOf (if y < a then a else y) ys := by
      show List.foldl _ (if decide (y < a) = true then a else y) ys = _
      by_cases h : y < a
      · rw [if_pos (decide_eq_true h), if_pos h]; rfl
      · rw [if_neg (by simpa using h), if_neg h]; rfl
    obtain ⟨h1, h2⟩ := maxOf_is ys (if y < a then a else y)
    rw [e]
    by_cases h : y < a
    · rw [if_pos h] at h1 h2 ⊢
      refine ⟨?_, fun z hz => ?_⟩
      · exact List.mem_cons_of_mem _ h1
      · rcases List.mem_cons.mp hz with q | q
        · have := h2 a (List.mem_cons_self ..)
          omega
        · exact h2 z q
    · rw [if_neg h] at h1 h2 ⊢
      refine ⟨?_, fun z hz => ?_⟩
      · rcases List.mem_cons.mp h1 with q | q
        · rw [q]; exact List.mem_cons_self ..
        · exact List.mem_cons_of_mem _ (List.mem_cons_of_mem _ q)
      · rcases List.mem_cons.mp hz with q | q
        · rw [q]; exact h2 y (List.mem_cons_self ..)
        · rcases List.mem_cons.mp q with q | q
          · have := h2 y (List.mem_cons_self ..)
            omega
          · exact h2 z (List.mem_cons_of_mem _ q)
theorem minOf_is : ∀ (ys : List Int) (y : Int), PySem.W.minOf y ys ∈ y :: ys ∧ ∀ z ∈ y :: ys, PySem.W.minOf y ys ≤ z
  | [], y => ⟨List.mem_cons_self .., fun z hz => by cases List.mem_singleton.mp hz; exact Int.le_refl _⟩
  | a :: ys, y => by
    have e : PySem.W.minOf y (a :: ys) = PySem.W.minOf (if a < y then a else y) ys := by
      show List.foldl _ (if decide (a < y) = true then a else y) ys = _
      by_cases h : a < y
      · rw [if_pos (decide_eq_true h), if_pos h]; rfl
      · rw [if_neg (by simpa using h), if_neg h]; rfl
    obtain ⟨h1, h2⟩ := minOf_is ys (if a < y then a else y)
    rw [e]
    by_cases h : a < y
    · rw [if_pos h] at h1 h2 ⊢
      refine ⟨?_, fun z hz => ?_⟩
      · exact List.mem_cons_of_mem _ h1
      · rcases List.mem_cons.mp hz with q | q
        · have := h2 a (List.mem_cons_self ..)
          omega
        · exact h2 z q
    · rw [if_neg h] at h1 h2 ⊢
      refine ⟨?_, fun z hz => ?_⟩
      · rcases List.mem_cons.mp h1 with q | q
        · rw [q]; exact List.mem_cons_self ..
        · exact List.mem_cons_of_mem _ (List.mem_cons_of_mem _ q)
      · rcases List.mem_cons.mp hz with q | q
        · rw [q]; exact h2 y (List.mem_cons_self ..)
        · rcases List.mem_cons.mp q with q | q
          · have := h2 y (List.mem_cons_self ..)
            omega
          · exact h2 z (List.mem_cons_of_mem _ q)
def rMaxDef (K : PySem.W.Frag) : List V → List V → Hp → VK → Prop := fun vs zs H Q => ∃ (a : Addr) (ns : List Int) (d : V), vs = [V.ref a] ∧ zs = [d] ∧ SqL K H a (ns.map V.int) ∧ (ns = [] → Q d H) ∧ ∀ m, m ∈ ns → (∀ y, y ∈ ns → y ≤ m) → Q (.int m) H
def rMinDef (K : PySem.W.Frag) : List V → List V → Hp → VK → Prop := fun vs zs H Q => ∃ (a : Addr) (ns : List Int) (d : V), vs = [V.ref a] ∧ zs = [d] ∧ SqL K H a (ns.map V.int) ∧ (ns = [] → Q d H) ∧ ∀ m, m ∈ ns → (∀ y, y ∈ ns → m ≤ y) → Q (.int m) H
section
variable {X : Cx}
theorem cr_maxDef (hc : X.calm = true) (hu : X.A.units + 64 < cLine) : CallRK X (.builtin "max") [Str.ofString "default"] (rMaxDef X.K) := by
  intro pins s σ H xs zs us ws Q I rx rz hq
  obtain ⟨a, ns, d, rfl, rfl, hs, q0, q1⟩ := hq
  rw [Vals.ref1 rx]
  cases rz with
  | cons z1 z2 =>
    cases z2
    obtain ⟨its, rv, hl, _⟩ := I.list hs
    refine PySem.W.max_list_datum_default (α := Int) (xs := ns) (I.ok.hd hc) hl.isList (hold_ints rv.ints) (by show X.A.units + 1 + 0 < cLine; omega) (fun e h' tk hk => ⟨d, H, I.kept hk, z1, q0 e⟩) fun y ys i v h' tk e _ hv hk => ?_
    obtain ⟨t, rfl⟩ := hold_int hv
    obtain ⟨m1, m2⟩ := maxOf_is ys y
    exact ⟨.int _, H, I.kept hk, ⟨_, rfl⟩, q1 _ (by rw [e]; exact m1) fun z hz => m2 z (by rw [e] at hz; exact hz)⟩
theorem cr_minDef (hc : X.calm = true) (hu : X.A.units + 64 < cLine) : CallRK X (.builtin "min") [Str.ofString "default"] (rMinDef X.K) := by
  intro pins s σ H xs zs us ws Q I rx rz hq
  obtain ⟨a, ns, d, rfl, rfl, hs, q0, q1⟩ := hq
  rw [Vals.ref1 rx]
  cases rz with
  | cons z1 z2 =>
    cases z2
    obtain ⟨its, rv, hl, _⟩ := I.list hs
    refine PySem.W.min_list_datum_default (α := Int) (xs := ns) (I.ok.hd hc) hl.isList (hold_ints rv.ints) (by show X.A.units + 1 + 0 < cLine; omega) (fun e h' tk hk => ⟨d, H, I.kept hk, z1, q0 e⟩) fun y ys i v h' tk e _ hv hk => ?_
    obtain ⟨t, rfl⟩ := hold_int hv
    obtain ⟨m1, m2⟩ := minOf_is ys y
    exact ⟨.int _, H, I.kept hk, ⟨_, rfl⟩, q1 _ (by rw [e]; exact m1) fun z hz => m2 z (by rw [e] at hz; exact hz)⟩
end
/-! ### t[::-1] of a tuple -/
section
variable {prog : Program} {w : World} {A : Around} {E : Value → Shared → Prop} {s : Shared}
theorem places_rev (n : Nat) : Builtin.Slice.slicePlaces ((n : Int) - 1) (-1) (-1) = n := by
  unfold Builtin.Slice.slicePlaces
  rw [if_neg (by decide)]
  by_cases h : n = 0
  · subst h; rfl
  · rw [if_pos (by omega), show -(-1 : Int) = 1 from rfl, Int.ediv_one]
    omega
theorem applied_rev {sl : Addr} {vl vu vs : Value} {n : Nat} {Q : Int × Int × Nat → Shared → Prop} (hs : s.heap.IsSliceOf sl vl vu vs) (pl : IsPart vl none) (pu : IsPart vu none) (ps : IsPart vs (some (-1)))
    (h : Q ((n : Int) - 1, -1, n) s) : wpAny (model prog w) A (Builtin.Slice.sliceApplied (.ref sl) (pure (n : Int))) Q E s := by
  obtain ⟨ob, go, _, gd⟩ := id hs
  unfold Builtin.Slice.sliceApplied Builtin.Slice.sliceFields
  refine wpAny_bind (wpAny_bind (wpAny_field go gd (x := vl) rfl (wpAny_bind (wpAny_field go gd (x := vu) rfl (wpAny_bind (wpAny_field go gd (x := vs) rfl (wpAny_pure ?_)))))))
  refine wpAny_bind (HT.slicePart_ ps ?_)
  show wpAny _ _ (if ((-1 : Int) == 0) = true then _ else _) _ _ s
  rw [if_neg (by decide)]
  refine wpAny_bind (HT.slicePart_ pl (wpAny_bind (HT.slicePart_ pu (wpAny_bind (wpAny_pure ?_)))))
  show wpAny _ _ (pure ((n : Int) - 1, (-1 : Int), Builtin.Slice.slicePlaces ((n : Int) - 1) (-1) (-1))) _ _ s
  rw [places_rev]
  exact wpAny_pure h
theorem fm_congr {α β : Type} {f g : α → Option β} : ∀ {l : List α}, (∀ x ∈ l, f x = g x) → l.filterMap f = l.filterMap g
  | [], _ => rfl
  | x :: r, h => by
    rw [List.filterMap_cons, List.filterMap_cons, h x (List.mem_cons_self ..), fm_congr fun y hy => h y (List.mem_cons_of_mem _ hy)]
theorem pick_rev (xs : Array Value) : ((List.range xs.size).filterMap fun (m : Nat) => xs[((xs.size : Int) - 1 + (m : Int) * (-1)).toNat]?).toArray = xs.toList.reverse.toArray := by
  have e : ((List.range xs.size).filterMap fun (m : Nat) => xs[((xs.size : Int) - 1 + (m : Int) * (-1)).toNat]?) = ((List.range xs.size).map fun k => xs.size - 1 - k).filterMap (xs[·]?) := by
    rw [List.filterMap_map]
    refine fm_congr fun m hm => ?_
    have := List.mem_range.mp hm
    show xs[_]? = xs[xs.size - 1 - m]?
    congr 1
    omega
  rw [e, PySem.W.krv_range, List.filterMap_reverse, PySem.W.krv_all]
theorem getItem_tup_rev {t sl : Addr} {items : Array Value} {vl vu vs : Value} {Q : Value → Shared → Prop} (ht : IsTup s.heap t items) (hs : s.heap.IsSliceOf sl vl vu vs) (pl : IsPart vl none) (pu : IsPart vu none) (ps : IsPart vs (some (-1)))
    (h : Q (.ref s.heap.objs.size) { s with heap := s.heap.push { cls := .type "tuple", data := .seq items.toList.reverse.toArray } }) (hsz : items.size ≤ sizeLine) : wpAny (model prog w) A (getItem (.ref t) (.ref sl)) Q E s := by
  have small : sizeOk (.seq items.toList.reverse.toArray) := by
    show items.toList.reverse.toArray.size ≤ sizeLine
    rw [List.size_toArray, List.length_reverse, Array.length_toList]
    exact hsz
  obtain ⟨ob, go, gc, gd⟩ := id hs
  unfold getItem
  try with_reducible refine wpAny_holding ?_
  first | refine wpAny_bind (wpAny_pure ?_) | skip
  refine wpAny_bind (wpAny_sequenceKey ht.typeIs (by decide) (wpAny_bind (wpAny_callSpecial?_slot (name := Str.ofString "__getitem__") ht.typeIs PyProof.Rows.slot_tuple_getitem (wpAny_call_entry PyProof.Rows.slot_tuple_getitem ht.typeIs entry_tuple_getitem ?_ (args_tuple_getitem _ _)))))
  show wpAny _ _ (Builtin.Tuple.tupleItemsOf (.ref t) >>= _) _ _ s
  refine wpAny_bind (tupleItemsOf_ ht (wpAny_bind (wpAny_typeOf ⟨ob, go, gc⟩ ?_)))
  rw [if_pos (by decide)]
  refine wpAny_bind (applied_rev hs pl pu ps ?_)
  show wpAny _ _ (if (((items.size : Int) - 1) == 0 && (-1 : Int) == 1 && items.size == items.size) = true then _ else _) _ _ s
  rw [if_neg (by rw [show ((-1 : Int) == 1) = false from rfl, Bool.and_false, Bool.false_and]; decide), pick_rev]
  first
    | exact wpAny_bind (m := Builtin.Tuple.tupleExact _) (wpAny_newObj_type (wpAny_pure ⟨_, rfl, wpAny_pure h⟩) small)
    | exact wpAny_bind (m := Builtin.Tuple.tupleExact _) (wpAny_newObj_type (wpAny_bind (wpAny_pure (wpAny_pure ⟨_, rfl, wpAny_pure h⟩))) small)
    | exact wpAny_bind (wpAny_bind (m := Builtin.Tuple.tupleExact _) (wpAny_newObj_type (wpAny_pure (wpAny_pure ⟨_, rfl, wpAny_pure h⟩)) small))
    | exact wpAny_bind (wpAny_bind (m := Builtin.Tuple.tupleExact _) (wpAny_newObj_type (wpAny_pure ⟨_, rfl, wpAny_pure h⟩) small))
end
def tRevT (K : PySem.W.Frag) (te : TE) : TE := fun σ H Q => te σ H fun x H1 => ∃ a xs, x = .ref a ∧ SqT K H1 a xs ∧ ∀ p, H1 p = none → Q (.ref p) (upd H1 p (.tup xs.reverse))
theorem pe_revT {X : Cx} {e : Expr} {te : TE} {k : Nat} {p1 p2 p3 pos : Pos} (he : PE X e te) : PE X (.Subscript e (.Slice none none (some (.UnaryOp .USub (.Constant (.int 1) k p1) p2)) p3) pos) (tRevT X.K te) := by
  refine ⟨fun pins s σ H Q I h => Subscript_ (thn (he.run pins s σ H _ I h) fun v s1 ⟨x, H1, I1, r1, a, xs, ex, hx, q⟩ => ?_)⟩
  subst ex
  cases r1
  have one : PO X (some (.UnaryOp .USub (.Constant (.int 1) k p1) p2)) (tPart (tUn (rU fun i => .int (-i)) (tC (.int 1)))) := po_some (pe_un un_neg pe_int)
  refine wpAny_Slice (thn (po_none.run pins s1 σ H1 (fun o G => o = none ∧ G = H1) I1 ⟨rfl, rfl⟩) fun vl s2 ⟨l, H2, I2, pl, el, e2⟩ => ?_)
  subst el e2
  refine thn (po_none.run pins s2 σ H2 (fun o G => o = none ∧ G = H2) I2 ⟨rfl, rfl⟩) fun vu s3 ⟨u, H3, I3, pu, eu, e3⟩ => ?_
  subst eu e3
  refine thn (one.run pins s3 σ H3 (fun o G => o = some (-1) ∧ G = H3) I3 ⟨1, rfl, -1, rfl, rfl, rfl⟩) fun vs s4 ⟨o, H4, I4, ps, eo, e4⟩ => ?_
  subst eo e4
  have J : Inv X pins σ H4 { s4 with heap := s4.heap.push { cls := .type "slice", data := .fields #[vl, vu, vs] } } := I4.kept (t' := s4.toks) fun b ob q => Heap.get?_push_of_some _ q
  obtain ⟨itm, r, ht, hz⟩ := J.tuple hx
  have hlen := r.length
  show wpAny (model X.prog X.w) X.A (subscriptTail e (.Slice none none (some (.UnaryOp .USub (.Constant (.int 1) k p1) p2)) p3) (.ref a) (.ref s4.heap.objs.size)) (EP X pins σ Q) X.xe { s4 with heap := s4.heap.push { cls := .type "slice", data := .fields #[vl, vu, vs] } }
  refine tail_any (ops := [.ref a, .ref s4.heap.objs.size]) ht.typeIs PyProof.Rows.slot_tuple_getitem.lookup ?_ (by with_unfolding_all rfl)
  refine getItem_tup_rev ht (Heap.IsSliceOf.new _ vl vu vs) pl pu ps ?_ (by rw [List.size_toArray]; omega)
  refine ⟨.ref _, _, J.laid (t' := s4.toks) (o := .tup xs.reverse) (fun b ob q => Heap.get?_push_of_some _ q) (Nat.le_refl _) ?_, rfl, q _ (J.hok.fresh (Nat.le_refl _))⟩
  exact ⟨by rw [List.length_reverse]; exact hz, _, r.reverse, IsTup.new _ _⟩
end TK

namespace TK
open PySem PySem.Spec PyProof.Rows L2
section
variable {X : Cx}
/-! ### a word of one's own in the middle; two ways to read the same text -/
theorem ps_cut {st : Stmt} {t : TS} (h : PS X st t) : PS X st (fun D σ H => ∃ R : L2.St → Hp → Prop, t { D with nx := R } σ H ∧ ∀ σ' H', R σ' H' → D.nx σ' H') :=
  ⟨fun pins s σ H D I ⟨R, q, k⟩ => thn (h.run pins s σ H _ I q) fun f s' z => by
    cases f with
    | next => obtain ⟨σ', H', I', r⟩ := z; exact ⟨σ', H', I', k _ _ r⟩
    | brk => exact z
    | cont => exact z
    | ret u => exact z⟩
theorem pe_cut {e : Expr} {t : TE} (h : PE X e t) : PE X e (fun σ H Q => ∃ R : VK, t σ H R ∧ ∀ v H', R v H' → Q v H') :=
  ⟨fun pins s σ H Q I ⟨R, q, k⟩ => thn (h.run pins s σ H _ I q) fun v s' z => by
    obtain ⟨x, H', I', r, q'⟩ := z
    exact ⟨x, H', I', r, k _ _ q'⟩⟩
theorem pt_cut {e : Expr} {t : TT} (h : PT X e t) : PT X e (fun σ H Q => ∃ R : Bool → Hp → Prop, t σ H R ∧ ∀ b H', R b H' → Q b H') :=
  ⟨fun pins s σ H Q I ⟨R, q, k⟩ => thn (h.run pins s σ H _ I q) fun v s' z => by
    obtain ⟨H', I', q'⟩ := z
    exact ⟨H', I', k _ _ q'⟩⟩
theorem pi_or {tg it : Expr} {w1 w2 : TI} (h1 : PI X tg it w1) (h2 : PI X tg it w2) : PI X tg it (fun σ H R => w1 σ H R ∨ w2 σ H R) :=
  ⟨fun pins s σ H R I h => h.elim (h1.run pins s σ H R I) (h2.run pins s σ H R I)⟩
theorem ps_or {st : Stmt} {t1 t2 : TS} (h1 : PS X st t1) (h2 : PS X st t2) : PS X st (fun D σ H => t1 D σ H ∨ t2 D σ H) :=
  ⟨fun pins s σ H D I h => h.elim (h1.run pins s σ H D I) (h2.run pins s σ H D I)⟩
theorem pe_or2 {e : Expr} {t1 t2 : TE} (h1 : PE X e t1) (h2 : PE X e t2) : PE X e (fun σ H Q => t1 σ H Q ∨ t2 σ H Q) :=
  ⟨fun pins s σ H Q I h => h.elim (h1.run pins s σ H Q I) (h2.run pins s σ H Q I)⟩
theorem pt_or2 {e : Expr} {t1 t2 : TT} (h1 : PT X e t1) (h2 : PT X e t2) : PT X e (fun σ H Q => t1 σ H Q ∨ t2 σ H Q) :=
  ⟨fun pins s σ H Q I h => h.elim (h1.run pins s σ H Q I) (h2.run pins s σ H Q I)⟩
end
end TK

namespace TK
open PySem PySem.Spec PyProof.Rows L2
section
variable {X : Cx}
/-! sum(t), a tuple of ints -/
def rSumT (K : PySem.W.Frag) : List V → Hp → VK → Prop := fun vs H Q => ∃ (a : Addr) (ns : List Int), vs = [V.ref a] ∧ SqT K H a (ns.map V.int) ∧ Q (.int ns.sum) H
theorem cr_sumT (hc : X.calm = true) : CallR X (.builtin "sum") (rSumT X.K) := by
  intro pins s σ H vs us Q I r h
  obtain ⟨a, ns, rfl, hs, q⟩ := h
  obtain ⟨itm, rv, p, _⟩ := I.tuple hs
  rw [Vals.ref1 r]
  obtain ⟨xs, e⟩ := rv.ints.allInts.items
  have hn : numsOf itm.toArray.toList = ns := rv.ints.numsOf
  rw [e, nums_intItems] at hn
  refine PySem.W.ktm_sumG (I.ok.hd hc) (e ▸ p) fun h' tk t' hk => ?_
  rw [preSum_eq, List.take_of_length_le (by simp), hn]
  exact ⟨.int _, H, I.kept hk, ⟨_, rfl⟩, q⟩
/-- *e within a comprehension -/
theorem pa_starK {K : PySem.W.Frag} {e : Expr} {es : List Expr} {te : TE} {t : TA} {p : Pos} (h : X.K = K) (he : PE X e te) (hr : PA X es t) (hs : starEach (.Starred e p :: es) X.env = (true, eval e X.env) :: starEach es X.env := by rfl) : PA X (.Starred e p :: es) (StX.tStar K te t) := h ▸ StX.pa_star he hr hs
theorem op_eqDK {K : PySem.W.Frag} (h : X.K = K) (hu : X.A.units + 64 < cLine) : OpR X (compareOp .Eq) (rEqD K) := h ▸ op_eqD hu
theorem op_neDK {K : PySem.W.Frag} (h : X.K = K) (hu : X.A.units + 64 < cLine) : OpR X (compareOp .NotEq) (rNeD K) := h ▸ op_neD hu
/-! ### objects at a row of addresses -/
def At (H : Hp) (us : List Addr) (os : List HO) : Prop := us.length = os.length ∧ ∀ (i : Nat) (u : Addr) (o : HO), us[i]? = some u → os[i]? = some o → H u = some o
theorem At.same {H H' : Hp} {us : List Addr} {os : List HO} (h : At H us os) (s : Same H H') : At H' us os := ⟨h.1, fun i u o a b => s _ _ (h.2 i u o a b)⟩
theorem At.nil {H : Hp} : At H [] [] := ⟨rfl, fun i u o a _ => by simp at a⟩
theorem At.append {H : Hp} {us vs : List Addr} {os ps : List HO} (h : At H us os) (k : At H vs ps) : At H (us ++ vs) (os ++ ps) := by
  refine ⟨by rw [List.length_append, List.length_append, h.1, k.1], fun i u o a b => ?_⟩
  by_cases hi : i < us.length
  · rw [List.getElem?_append_left hi] at a
    rw [List.getElem?_append_left (by rw [← h.1]; exact hi)] at b
    exact h.2 i u o a b
  · rw [List.getElem?_append_right (by omega)] at a
    rw [List.getElem?_append_right (by rw [← h.1]; omega), ← h.1] at b
    exact k.2 _ u o a b
theorem At.one {H : Hp} {u : Addr} {o : HO} (e : H u = some o) : At H [u] [o] := ⟨rfl, fun i u' o' a b => by
  match i, a, b with
  | 0, a, b =>
    cases a
    cases b
    exact e⟩
theorem At.get {H : Hp} {us : List Addr} {os : List HO} {i : Nat} {x : V} (h : At H us os) (e : (us.map V.ref)[i]? = some x) : ∃ (u : Addr) (o : HO), x = .ref u ∧ us[i]? = some u ∧ os[i]? = some o ∧ H u = some o := by
  rw [List.getElem?_map] at e
  cases ht : us[i]? with
  | none => rw [ht] at e; cases e
  | some t =>
    rw [ht] at e
    cases e
    have hi : i < os.length := by rw [← h.1]; exact (List.getElem?_eq_some_iff.mp ht).1
    exact ⟨t, os[i], rfl, rfl, List.getElem?_eq_getElem hi, h.2 i t _ ht (List.getElem?_eq_getElem hi)⟩
/-- a list elsewhere is written anew -/
theorem At.wrote {H : Hp} {us : List Addr} {os : List HO} {D : Addr} {xs : List V} {o : HO} (h : At H us os) (t : ∀ p ∈ os, ∃ ys, p = HO.tup ys) (e : H D = some (.lst xs)) : At (upd H D o) us os := ⟨h.1, fun i u p a b => by
  have := h.2 i u p a b
  rw [upd_ne fun z => ?_]
  · exact this
  · subst z
    obtain ⟨ys, rfl⟩ := t p (List.mem_of_getElem? b)
    rw [e] at this
    cases this⟩
end
end TK

namespace TK
open PySem PySem.Spec PyProof.Rows L2
/-! ### zip(tuple, list) -/
def ItzM (K : PySem.W.Frag) (a b : Addr) : It :=
  ⟨fun i H => ∃ xs ys : List V, SqT K H a xs ∧ SqL K H b ys ∧ i < xs.length ∧ i < ys.length,
    fun i H v H' => ∃ T x y, v = .ref T ∧ H T = none ∧ H' = upd H T (.tup [x, y]) ∧ (∀ xs, SqT K H a xs → xs[i]? = some x) ∧ ∀ ys, SqL K H b ys → ys[i]? = some y,
    fun i H => ∃ xs ys : List V, SqT K H a xs ∧ SqL K H b ys ∧ i ≤ xs.length ∧ i ≤ ys.length ∧ (i = xs.length ∨ i = ys.length)⟩
theorem ne_nat {x y : Nat} (h : x < y ∨ y < x) : x ≠ y := by omega
theorem no_two {x p q : Nat} (h1 : x < p ∨ p < x) (h2 : x < q ∨ q < x) : x ∉ [p, q] := by
  intro h
  rcases List.mem_cons.mp h with z | z
  · exact ne_nat h1 z
  · exact ne_nat h2 (List.mem_singleton.mp z)
theorem sep_zip (I a b : Nat) (la : a < I) (lb : b < I) : ZipSep2 (I + 4) (I + 2) (I + 3) I (I + 1) [I, a] [I + 1, b] :=
  ⟨ne_nat (x := I + 2) (y := I + 4) (by omega), ne_nat (x := I + 3) (y := I + 4) (by omega), ne_nat (x := I + 2) (y := I + 3) (by omega), ne_nat (x := I + 2) (y := I) (by omega), List.mem_cons_self .., no_two (x := I + 4) (by omega) (by omega), no_two (x := I + 3) (by omega) (by omega),
    ne_nat (x := I + 2) (y := I + 1) (by omega), List.mem_cons_self .., no_two (x := I + 4) (by omega) (by omega), no_two (x := I + 3) (by omega) (by omega), no_two (x := I) (by omega) (by omega), no_two (x := I + 1) (by omega) (by omega)⟩
theorem turn_zipM {P : Program} {w : World} {K : PySem.W.Frag} {elts : List Expr} {kk : Nat} {tpos : Pos} {a b z TI TO i1 i2 : Addr} (S : ZipSep2 z TI TO i1 i2 [i1, a] [i2, b]) (na : a ≠ i1) (nb : b ≠ i2) :
    Turn P w K (.Tuple elts kk tpos) (ItzM K a b) [z, TI, TO, i1, i2] z (fun i h => IsZip h z TI TO .none ∧ IsTupOf2 h TI (.ref i1) (.ref i2) ∧ (∃ x y, IsTupOf2 h TO x y) ∧ h.IsTupleIter i1 a i ∧ h.IsListIter i2 b i) where
  mem := by simp
  obj := fun i h st c hc => by
    obtain ⟨hz, hTI, ⟨x, y, hTO⟩, ⟨o1, e1, _, d1⟩, ⟨o2, e2, _, d2⟩⟩ := st
    have e' : c = z ∨ c = TI ∨ c = TO ∨ c = i1 ∨ c = i2 := by simpa using hc
    rcases e' with rfl | rfl | rfl | rfl | rfl
    · exact ⟨_, hz, fun v q => nomatch q⟩
    · exact ⟨_, hTI, fun v q => nomatch q⟩
    · exact ⟨_, hTO, fun v q => nomatch q⟩
    · exact ⟨o1, e1, fun v q => by rw [d1] at q; cases q⟩
    · exact ⟨o2, e2, fun v q => by rw [d2] at q; cases q⟩
  keep := fun i h h' st k => by
    obtain ⟨hz, hTI, ⟨x, y, hTO⟩, h1, h2⟩ := st
    exact ⟨k z (by simp) _ hz, k TI (by simp) _ hTI, ⟨x, y, k TO (by simp) _ hTO⟩, h1.at fun o q => k i1 (by simp) o q, h2.at fun o q => k i2 (by simp) o q⟩
  item := by
    intro X hP hw hK hc i pins s σ H E I hf st hg
    subst hP hw hK
    obtain ⟨hz, hTI, ⟨x0, y0, hTO⟩, h1, h2⟩ := st
    obtain ⟨xs, ys, hqx, hqy, lx, ly⟩ := hg
    obtain ⟨its, rv, p, _⟩ := I.tuple hqx
    obtain ⟨its2, rv2, p2, _⟩ := I.list hqy
    have hzl : z < s.heap.objs.size := Heap.lt_size hz
    have n1 : its.toArray.size = xs.length := by rw [List.size_toArray, ← rv.length]
    have n2 : its2.toArray.size = ys.length := by rw [List.size_toArray, ← rv2.length]
    have D1 := Draws.tuple (prog := X.prog) (w := X.w) (A := X.A.in1) (I.ok.hd hc) i1 a na its.toArray
    have D2 := Draws.list (prog := X.prog) (w := X.w) (A := X.A.in1) (I.ok.hd hc) i2 b nb its2.toArray
    refine wpAny_pyNext_zipD2_item S D1 D2 hz hTI hTO ⟨h1, p⟩ ⟨h2, p2.isList⟩ (by rw [n1]; exact lx) (by rw [n2]; exact ly) fun u u2 h' tk hu hu2 z' TO' d1 d2 hT hsz hk => ?_
    refine ⟨_, rfl, wpAny_letOwnedTupleGo_zip (s := { s with heap := h', toks := tk }) z' fun h'' z'' sb => ?_⟩
    obtain ⟨x, hx, ru⟩ : ∃ x, xs[i]? = some x ∧ RelV x u := by
      obtain ⟨v, hv, r⟩ := rv.get (List.getElem?_eq_getElem lx)
      have : its[i]? = some u := by simpa using hu
      rw [this] at hv
      cases hv
      exact ⟨_, List.getElem?_eq_getElem lx, r⟩
    obtain ⟨y, hy, ru2⟩ : ∃ y, ys[i]? = some y ∧ RelV y u2 := by
      obtain ⟨v, hv, r⟩ := rv2.get (List.getElem?_eq_getElem ly)
      have : its2[i]? = some u2 := by simpa using hu2
      rw [this] at hv
      cases hv
      exact ⟨_, List.getElem?_eq_getElem ly, r⟩
    have hT2 : h''.get? s.heap.objs.size = some { cls := .type "tuple", data := .seq #[u, u2] } := (sb.2 _ (Nat.ne_of_gt hzl)).trans hT
    have new : ObjOk X.prog X.w (upd H s.heap.objs.size (.tup [x, y])) h'' s.heap.objs.size (.tup [x, y]) :=
      ⟨by show 2 ≤ sizeLine; decide, [u, u2], .cons ru (.cons ru2 .nil), ⟨_, hT2, rfl, _, rfl⟩⟩
    have I1 : Inv X pins σ (upd H s.heap.objs.size (.tup [x, y])) { s with heap := h'', toks := tk } :=
      I.turnedNew (ch := [z, TI, TO, i1, i2]) (fun c o hb q => (sb.2 c (fun q' => hb (by simp [q']))).trans (hk c o (fun q' => hb (by simp [q'])) (fun q' => hb (by simp [q'])) (fun q' => hb (by simp [q'])) (fun q' => hb (by simp [q'])) q)) hf (Nat.le_refl _) new
    refine ⟨.ref s.heap.objs.size, _, I1, rfl, ⟨_, x, y, rfl, I.hok.fresh (Nat.le_refl _), rfl, fun l hl => by rw [I.tuple_inj hl hqx]; exact hx, fun l hl => by rw [I.list_inj hl hqy]; exact hy⟩, ⟨z'', ?_, ⟨u, u2, ?_⟩, ?_, ?_⟩, fun c hcm => ?_⟩
    · exact (sb.2 _ S.TIz).trans (hk _ _ S.TIz S.TITO S.TIi1 S.TIi2 hTI)
    · exact (sb.2 _ S.TOz).trans TO'
    · exact d1.1.at fun o q => (sb.2 _ (Ne.symm S.zi1)).trans q
    · exact d2.1.at fun o q => (sb.2 _ (Ne.symm S.zi2)).trans q
    · have hlt : c < s.heap.objs.size := by
        have e' : c = z ∨ c = TI ∨ c = TO ∨ c = i1 ∨ c = i2 := by simpa using hcm
        rcases e' with rfl | rfl | rfl | rfl | rfl
        · exact hzl
        · exact Heap.lt_size hTI
        · exact Heap.lt_size hTO
        · obtain ⟨_, e1, _⟩ := h1; exact Heap.lt_size e1
        · obtain ⟨_, e2, _⟩ := h2; exact Heap.lt_size e2
      rw [upd_ne (Nat.ne_of_lt hlt)]
      exact (hf c hcm).1
  done := by
    intro X hP hw hK hc i pins s σ H E I hf st hg
    subst hP hw hK
    obtain ⟨hz, hTI, ⟨x0, y0, hTO⟩, h1, h2⟩ := st
    obtain ⟨xs, ys, hqx, hqy, le1, le2, hend⟩ := hg
    obtain ⟨its, rv, p, _⟩ := I.tuple hqx
    obtain ⟨its2, rv2, p2, _⟩ := I.list hqy
    have n1 : its.toArray.size = xs.length := by rw [List.size_toArray, ← rv.length]
    have n2 : its2.toArray.size = ys.length := by rw [List.size_toArray, ← rv2.length]
    have D1 := Draws.tuple (prog := X.prog) (w := X.w) (A := X.A.in1) (I.ok.hd hc) i1 a na its.toArray
    have D2 := Draws.list (prog := X.prog) (w := X.w) (A := X.A.in1) (I.ok.hd hc) i2 b nb its2.toArray
    exact wpAny_pyNext_zipD2_end S D1 D2 hz hTI hTO ⟨h1, p⟩ ⟨h2, p2.isList⟩ (by rw [n1]; exact le1) (by rw [n2]; exact le2) (by rw [n1, n2]; exact hend) fun h' tk hk => ⟨rfl, I.turnedL (ch := [z, TI, TO, i1, i2]) (fun c o hb q =>
      hk c o (fun q' => hb (by simp [q'])) (fun q' => hb (by simp [q'])) (fun q' => hb (by simp [q'])) (fun q' => hb (by simp [q'])) q) hf⟩
  self := fun A i s Q E st h => wpAny_pyIter_zip st.1 h
def iZipM (K : PySem.W.Frag) (ta : TA) : TI := fun σ H R => ta σ H fun vs H1 => ∃ a b xs ys, vs = [.ref a, .ref b] ∧ SqT K H1 a xs ∧ SqL K H1 b ys ∧ R (ItzM K a b) H1
theorem pi_zipM {X : Cx} {e e2 : Expr} {ta : TA} {p pos tpos : Pos} {elts : List Expr} {kk : Nat} (hg : Gl X "zip") (hm : X.mg "zip" = none) (ha : PA X [e, e2] ta)
    (hs : starEach [e, e2] X.env = (false, eval e X.env) :: starEach [e2] X.env := by rfl) (hpl : (backTo pos (starEach [e2] X.env)).any (·.1) = false := by rfl) :
    PI X (.Tuple elts kk tpos) (.Call (.Name "zip" p) [e, e2] [] pos) (iZipM X.K ta) := by
  refine ⟨fun pins s σ H R I h => Call_ (ld_blt I hg hm PyProof.Rows.boot_zip (PyProof.Rows.callWith_type1 (thn (ha.run pos pins s σ H _ I h) fun us s1 ⟨vs, H1, I1, r1, q1⟩ => ?_) hs hpl))⟩
  obtain ⟨a, b, xs, ys, rfl, hqx, hqy, q⟩ := q1
  obtain ⟨u1, u2, rfl, r, r'⟩ := r1.two
  cases r
  cases r'
  obtain ⟨its, rv, p1, _⟩ := I1.tuple hqx
  obtain ⟨its2, rv2, p2, _⟩ := I1.list hqy
  have la : a < s1.heap.objs.size := by obtain ⟨_, q, _⟩ := p1; exact Heap.lt_size q
  have lb : b < s1.heap.objs.size := p2.lt
  refine zip_begins2 (begins_tuple a its.toArray) (begins_list b its2.toArray) p1 p2.isList fun h' hz hTI hTO h1 h2 hsz hk => wpAny_pyIter_zip hz ?_
  have I2 : Inv X pins σ H1 { s1 with heap := h' } := I1.kept (t' := s1.toks) hk
  refine ⟨s1.heap.objs.size + 4, [s1.heap.objs.size + 4, s1.heap.objs.size + 2, s1.heap.objs.size + 3, s1.heap.objs.size, s1.heap.objs.size + 1], _, _, H1, rfl, I2, turn_zipM (sep_zip _ _ _ la lb) (Nat.ne_of_lt la) (Nat.ne_of_lt (Nat.lt_succ_of_lt lb)), ⟨hz, hTI, ⟨_, _, hTO⟩, ⟨_, h1, rfl, rfl⟩, ⟨_, h2, rfl, rfl⟩⟩, fun c hcm => ?_, q⟩
  have hle : s1.heap.objs.size ≤ c := by
    have e' : c = s1.heap.objs.size + 4 ∨ c = s1.heap.objs.size + 2 ∨ c = s1.heap.objs.size + 3 ∨ c = s1.heap.objs.size ∨ c = s1.heap.objs.size + 1 := by simpa using hcm
    rcases e' with rfl | rfl | rfl | rfl | rfl
    · exact Nat.le_add_right _ _
    · exact Nat.le_add_right _ _
    · exact Nat.le_add_right _ _
    · exact Nat.le_refl _
    · exact Nat.le_add_right _ _
  exact I1.fpOk hle (I1.hok.fresh hle)
theorem walk_zipM {K : PySem.W.Frag} {a b : Addr} {xs ys : List V} (hl : xs.length = ys.length) : Walk (ItzM K a b) xs.length (fun H => SqT K H a xs ∧ SqL K H b ys) (YPair (fun i => xs[i]?) (fun i => ys[i]?)) where
  goes := fun i H hi q => ⟨xs, ys, q.1, q.2, hi, by omega⟩
  stops := fun H q => ⟨xs, ys, q.1, q.2, Nat.le_refl _, by omega, .inl rfl⟩
  yields := fun i H v H' _ q y => by
    obtain ⟨T, x, z, h1, h2, h3, h4, h5⟩ := y
    exact ⟨T, x, z, h1, h2, h3, h4 xs q.1, h5 ys q.2⟩
end TK

namespace TK
open PySem PySem.Spec PyProof.Rows L2
/-- a dict comprehension over whatever walks -/
theorem dc_it {J : It} {n : Nat} {G : Hp → Prop} {Y : Nat → Hp → V → Hp → Prop} (w : Walk J n G Y) {g : TG} {tt : TT} {tk tv : TE} {vs : List Nat} {σ : L2.St} {H1 : Hp} {D : Addr} {Qd : Hp → Prop} (Pv : Nat → Hp → Prop) (h0 : Pv 0 (upd H1 D (.dK []))) (hG : ∀ i H, i ≤ n → Pv i H → G H)
    (hs : ∀ i x H H', i < n → Pv i H → Y i H x H' → g x (wipe σ vs) H' fun σ2 H2 => wipe σ2 vs = wipe σ vs ∧ tt σ2 H2 fun b H3 =>
      if b = true then tk σ2 H3 fun y H4 => tv σ2 H4 fun z H5 => ∃ kvs k, y = kV k ∧ H5 D = some (.dK kvs) ∧ kvs.length < sizeLine ∧ Pv (i + 1) (upd H5 D (.dK (putK kvs k z))) else Pv (i + 1) H3) (hd : ∀ H, Pv n H → Qd H) :
    ∃ W : Nat → Nat → Hp → Prop, (∃ m, W 0 m (upd H1 D (.dK []))) ∧ ∀ i m H, W i m H →
      (J.stop i H ∧ Qd H) ∨ (J.go i H ∧ ∃ Nx : Hp → Prop, (∀ H', Nx H' → ∃ m', m' < m ∧ W (i + 1) m' H') ∧ ∀ x H', J.yld i H x H' → g x (wipe σ vs) H' fun σ2 H2 => wipe σ2 vs = wipe σ vs ∧ tt σ2 H2 fun b H3 =>
        if b = true then tk σ2 H3 fun y H4 => tv σ2 H4 fun z H5 => ∃ kvs k, y = kV k ∧ H5 D = some (.dK kvs) ∧ kvs.length < sizeLine ∧ Nx (upd H5 D (.dK (putK kvs k z))) else Nx H3) := by
  refine ⟨fun i m H => m = n - i ∧ i ≤ n ∧ Pv i H, ⟨n, by simp, Nat.zero_le _, h0⟩, ?_⟩
  rintro i m H ⟨rfl, hi, p⟩
  have q := hG i H hi p
  by_cases hlt : i < n
  · exact .inr ⟨w.goes i H hlt q, Pv (i + 1), fun H' p' => ⟨n - (i + 1), by omega, rfl, hlt, p'⟩, fun x H' y => hs i x H H' hlt p (w.yields i H x H' hlt q y)⟩
  · have e : i = n := by omega
    subst e
    exact .inl ⟨w.stops H q, hd H p⟩
end TK

namespace TK
open PySem PySem.Spec PyProof.Rows L2
section
variable {X : Cx}
/-- tuple(a list), the new tuple known to the object -/
theorem call_tuple_frz : CallR X (.type "tuple") (fun xs H Q => ∃ p ys, xs = [.ref p] ∧ SqL X.K H p ys ∧ ∀ (l : Addr) (o : Obj), H l = none → o.cls = .type "tuple" → o.dict = none → Q (.ref l) (upd H l (.frz o (.tup ys)))) := by
  intro pins s σ H xs us Q I r h
  obtain ⟨p, ys, rfl, hq, q⟩ := h
  obtain ⟨u, rfl, rx⟩ := vals1 r
  cases rx
  obtain ⟨its, r', pl, hz⟩ := I.list hq
  have hlen := r'.length
  refine call_tuple_list pl.isList (fun h' kp => ?_) (by simp only [List.size_toArray] <;> omega)
  have I1 : Inv X pins σ H { s with heap := h' } := I.kept (t' := s.toks) kp
  have I2 : Inv X pins σ (upd H h'.objs.size (.frz { cls := .type "tuple", data := .seq its.toArray } (.tup ys))) { s with heap := h'.push { cls := .type "tuple", data := .seq its.toArray } } :=
    I1.laid (t' := s.toks) (fun b o e => Heap.get?_push_of_some _ e) (Nat.le_refl _) (show ObjOk X.prog X.w _ _ _ (.frz _ (.tup ys)) from ⟨Heap.get?_push_size _ rfl, hz, its, r', IsTup.new _ _⟩)
  exact ⟨.ref h'.objs.size, _, I2, rfl, q _ _ (I1.hok.fresh (Nat.le_refl _)) rfl rfl⟩
/-- the value is such a tuple -/
def FrzT (x : V) (H : Hp) : Prop := ∃ p o xs, x = .ref p ∧ H p = some (.frz o (.tup xs)) ∧ o.cls = .type "tuple" ∧ o.dict = none
def tBMF (r : V → List V → Hp → VK → Prop) (to : TE) (t : TA) : TE := fun σ H Q => to σ H fun x H1 => FrzT x H1 ∧ t σ H1 fun xs H2 => r x xs H2 Q
variable {o e : Expr} {es : List Expr} {to : TE} {t : TA} {name : Str} {apos cpos : Pos} {id : String} {r : V → List V → Hp → VK → Prop}
theorem pe_bmF (pa : PlainAttrs "tuple") (slot : Slot "tuple" name id) (hty : typeOf (.builtin id) = pure (.type "method_descriptor")) (hm : MtR X id r) (ho : PE X o to) (ha : PA X (e :: es) t)
    (hbase : attributeBase o name X.env (eval o X.env) = eval o X.env := by rfl)
    (hfew : ((backTo cpos (starEach (e :: es) X.env)).all (fun x => !x.1) && (backToKw cpos (keywordEach [] X.env)).all (fun x => x.1.isSome)
      && decide ((e :: es).length + ([] : List Keyword).length + (if ([] : List Keyword).isEmpty then 0 else 1) < 30)) = true := by rfl)
    (hline : (apos.endLine == cpos.line) = true := by rfl) (hs : starEach (e :: es) X.env = (false, eval e X.env) :: starEach es X.env := by rfl) (hplain : (backTo cpos (starEach es X.env)).any (·.1) = false := by rfl) :
    PE X (.Call (.Attribute o name apos) (e :: es) [] cpos) (tBMF r to t) := by
  refine ⟨fun pins s σ H Q I h => ?_⟩
  refine wpAny_Call_method_late hbase hfew hline rfl (thn (ho.run pins s σ H _ I h) fun v s1 ⟨x, H1, I1, r1, ty, q1⟩ => ?_)
  have h12 : s1.TypeIs v "tuple" ∧ ∀ a, v = .ref a → ∃ ob, s1.heap.get? a = some ob ∧ ob.dict = none := by
    obtain ⟨p, ob, xs, rfl, hp, hc, hd⟩ := ty
    cases r1
    obtain ⟨eo, _⟩ := I1.hok p _ hp
    refine ⟨⟨ob, eo, hc⟩, fun a e => ?_⟩
    cases e
    exact ⟨ob, eo, hd⟩
  refine ⟨"tuple", id, pa, slot, hty, h12.1, h12.2, ?_⟩
  have hA := ha.run cpos pins s1 σ H1 _ I1 q1
  rw [hs] at hA ⊢
  refine Calls.callWith_builtin (by show (false || (backTo cpos (starEach es X.env)).any (·.1)) = false; rw [hplain] <;> rfl) (Calls.evalArgs_plain ?_)
  exact thn hA fun us s2 ⟨vs, H2, I2, r2, q2⟩ => hm pins s2 σ H2 x vs v us Q I2 r1 r2 q2
end
theorem tupFrz {K : PySem.W.Frag} {H : Hp} {a : Addr} {o : Obj} {xs : List V} (h : H a = some (.frz o (.tup xs))) : SqT K H a xs := .inl (.inr ⟨o, h⟩)
end TK

namespace TK
open PySem PySem.Spec PyProof.Rows L2
/-! ### the special methods of an own class -/
structure Own (K : PySem.W.Frag) (C : Addr) (name : Str) (g : Addr) : Prop where
  at_ : PySem.W.findIn K (.ref C) name = some (some (.ref g))
  fn : PySem.W.isFn K (.ref g) = true
def IsIn (H : Hp) (x : V) (C : Addr) : Prop := ∃ a dx fs, x = .ref a ∧ H a = some (.ins C dx fs)
section
variable {X : Cx} {CX : CXT} {C g : Addr} {n : Nat} {fd : FuncData} {ps : List Str} {sp : Sp} {E : XK} {pins : List (Addr × Obj)} {σ : L2.St} {H : Hp} {s : Shared}
theorem run_own {A : Around} {Q : VK} {us : List Value} {vs : List V} (F : FnOk X.prog X.w X.K X.mg X.base CX n g fd ps sp) (hr : Room n A) (e0 : Env0 X.prog X.w X.K X.mg X.base A X.stack s H) (hb : Binds X.K fd ps []) (hx : Passes CX X E)
    (I : Inv X pins σ H s) (r : Vals vs us) (h : sp vs H Q E) : wpAny (model X.prog X.w) A (call (.ref g) us) (EP X pins σ Q) X.xe s := by
  have hl : (us ++ []).length = ps.length := by rw [List.append_nil, ← r.length]; exact F.len _ _ _ _ h
  have hbb := hb s us I.kIn hl
  rw [List.append_nil] at hbb
  refine wpAny_call (codeAny_mono (F.run A X.stack s H ⟨us, []⟩ us vs Q E hr e0 hbb r h) fun r s' hq => ?_)
  cases r with
  | error e => exact hx pins σ H s e s' I hq
  | ok fl =>
    cases fl with
    | ret u => exact I.after hq
    | next => exact False.elim hq
    | brk => exact False.elim hq
    | cont => exact False.elim hq
theorem own_at {a dx : Addr} {fs : List (Str × V)} (I : Inv X pins σ H s) (h : H a = some (.ins C dx fs)) : ∃ ox od, PySem.W.InstAt s.heap a ox C od := by
  obtain ⟨mA, J, _⟩ := ins_get I.hok h
  obtain ⟨od, J, _⟩ := J.look
  exact ⟨_, _, J⟩
/-! o[k] -/
def rOwn (C : Addr) (sp : Sp) (E : XK) : R2 := fun x y H Q => IsIn H x C ∧ sp [x, y] H Q E
def PlainIxO (b : Expr) : Prop := ∀ (x : Addr) (i : Value), subscripted b true (.ref x) i = runValue (.builtin "lifetime.subscript" ⟨[.ref x, i], []⟩)
theorem pe_ixOwn {a b : Expr} {ta tb : TE} {pos : Pos} (c : Own X.K C "__getitem__" g) (cf : PySem.W.fnIn X.K g = true) (F : FnOk X.prog X.w X.K X.mg X.base CX n g fd ps sp) (hr : Room (n + 1) X.A) (hb : Binds X.K fd ps []) (hx : Passes CX X E)
    (ha : PE X a ta) (hb' : PE X b tb) (hs : PlainIxO b) : PE X (.Subscript a b pos) (tOp (rOwn C sp E) ta tb) := by
  refine ⟨fun pins s σ H Q I h => ?_⟩
  refine Subscript_ (binT ha hb' I h fun v u s2 x y H2 I2 rx ry q => ?_)
  obtain ⟨⟨p, dx, fs, rfl, hp⟩, q⟩ := q
  cases rx
  obtain ⟨ox, od, J⟩ := own_at I2 hp
  obtain ⟨m, hF⟩ := I2.fr
  exact PySem.W.sub_K hF I2.ok.mod.kin J c.at_ cf c.fn (run_own F hr.in1 I2.env0.in1 hb hx I2 (vs := [.ref p, y]) (.cons rfl (.cons ry .nil)) q) (hs _ _)
/-! o + p, o * p, o | p: two of one class -/
def rOwn2 (C : Addr) (sp : Sp) (E : XK) : R2 := fun x y H Q => IsIn H x C ∧ IsIn H y C ∧ sp [x, y] H Q E
theorem op_ownBin {op : Operator} (c : Own X.K C (PySem.dunder op.info.2) g) (sf : PySem.W.selfFirst X.K C = true) (F : FnOk X.prog X.w X.K X.mg X.base CX n g fd ps sp) (hr : Room n X.A) (hb : Binds X.K fd ps []) (hx : Passes CX X E) :
    OpR X (binaryOp op) (rOwn2 C sp E) := by
  intro pins s σ H x y v u Q I rx ry h
  obtain ⟨⟨a, dx, fs, rfl, ha⟩, ⟨b, dy, gs, rfl, hb'⟩, q⟩ := h
  cases rx
  cases ry
  obtain ⟨ox, od, J⟩ := own_at I ha
  obtain ⟨ox', od', J'⟩ := own_at I hb'
  obtain ⟨m, hF⟩ := I.fr
  refine PySem.W.binop_K hF I.ok.mod.kin J J'.type sf c.at_ c.fn (wpAny_mono (run_own F hr I.env0 hb hx I (vs := [.ref a, .ref b]) (.cons rfl (.cons rfl .nil)) q) (fun w s' z => ?_) fun _ _ x => x)
  obtain ⟨z', H', I', rz, qz⟩ := z
  exact SlX.cmpback rz ⟨z', H', I', rz, qz⟩
/-! o == p: two of one class -/
theorem op_ownEq {op : CmpOp} (hop : ∀ a b, compareOp op a b = richCompare op a b) (c : Own X.K C (cmpInfo op).2.1 g) (F : FnOk X.prog X.w X.K X.mg X.base CX n g fd ps sp) (hr : Room n X.A) (hb : Binds X.K fd ps []) (hx : Passes CX X E) :
    OpR X (compareOp op) (rOwn2 C sp E) := by
  intro pins s σ H x y v u Q I rx ry h
  obtain ⟨⟨a, dx, fs, rfl, ha⟩, ⟨b, dy, gs, rfl, hb'⟩, q⟩ := h
  cases rx
  cases ry
  obtain ⟨ox, od, J⟩ := own_at I ha
  obtain ⟨ox', od', J'⟩ := own_at I hb'
  obtain ⟨m, hF⟩ := I.fr
  rw [hop]
  refine PySem.W.cmp_K (op := op) (tb := .ref C) hr.units0 hF I.ok.mod.kin J J'.type (by simp [PySem.W.notFirst]) c.at_ c.fn (wpAny_mono (run_own F hr I.env0 hb hx I (vs := [.ref a, .ref b]) (.cons rfl (.cons rfl .nil)) q) (fun w s' z => ?_) fun _ _ x => x)
  obtain ⟨z', H', I', rz, qz⟩ := z
  exact SlX.cmpback rz ⟨z', H', I', rz, qz⟩
/-! x in o, x not in o -/
def rOwnIn (neg : Bool) (C : Addr) (sp : Sp) (E : XK) : R2 := fun x y H Q => IsIn H y C ∧ sp [y, x] H (fun z H' => ∃ b, z = .bl b ∧ Q (.bl (if neg then !b else b)) H') E
theorem op_ownIn (c : Own X.K C "__contains__" g) (F : FnOk X.prog X.w X.K X.mg X.base CX n g fd ps sp) (hr : Room n X.A) (hb : Binds X.K fd ps []) (hx : Passes CX X E) : OpR X (compareOp .In) (rOwnIn false C sp E) := by
  intro pins s σ H x y v u Q I rx ry h
  obtain ⟨⟨a, dx, fs, rfl, ha⟩, q⟩ := h
  cases ry
  obtain ⟨ox, od, J⟩ := own_at I ha
  obtain ⟨m, hF⟩ := I.fr
  refine PySem.W.in_K hF I.ok.mod.kin J c.at_ c.fn (wpAny_mono (run_own F hr I.env0 hb hx I (vs := [.ref a, x]) (.cons rfl (.cons rx .nil)) q) (fun w s' z => ?_) fun _ _ x => x)
  obtain ⟨z', H', I', rz, b, rfl, qz⟩ := z
  cases (show w = Value.bool b from rz)
  exact wpAny_truthy_bool ⟨.bl b, H', I', rfl, by simpa using qz⟩
theorem op_ownNotIn (c : Own X.K C "__contains__" g) (F : FnOk X.prog X.w X.K X.mg X.base CX n g fd ps sp) (hr : Room n X.A) (hb : Binds X.K fd ps []) (hx : Passes CX X E) : OpR X (compareOp .NotIn) (rOwnIn true C sp E) := by
  intro pins s σ H x y v u Q I rx ry h
  obtain ⟨⟨a, dx, fs, rfl, ha⟩, q⟩ := h
  cases ry
  obtain ⟨ox, od, J⟩ := own_at I ha
  obtain ⟨m, hF⟩ := I.fr
  refine PySem.W.notIn_K hF I.ok.mod.kin J c.at_ c.fn (wpAny_mono (run_own F hr I.env0 hb hx I (vs := [.ref a, x]) (.cons rfl (.cons rx .nil)) q) (fun w s' z => ?_) fun _ _ x => x)
  obtain ⟨z', H', I', rz, b, rfl, qz⟩ := z
  cases (show w = Value.bool b from rz)
  exact wpAny_truthy_bool ⟨.bl (!b), H', I', rfl, by simpa using qz⟩
/-! len(o) -/
def rOwnLen (C : Addr) (sp : Sp) (E : XK) : List V → Hp → VK → Prop := fun xs H Q => ∃ x, xs = [x] ∧ IsIn H x C ∧ sp [x] H (fun z H' => ∃ k : Nat, z = .int k ∧ k < 2 ^ 63 ∧ Q z H') E
theorem call_ownLen (c : Own X.K C "__len__" g) (F : FnOk X.prog X.w X.K X.mg X.base CX n g fd ps sp) (hr : Room (n + 1) X.A) (hb : Binds X.K fd ps []) (hx : Passes CX X E) : CallR X (.builtin "len") (rOwnLen C sp E) := by
  intro pins s σ H xs us Q I r h
  obtain ⟨x, rfl, ⟨a, dx, fs, rfl, ha⟩, q⟩ := h
  obtain ⟨u, rfl, ru⟩ := vals1 r
  cases ru
  obtain ⟨ox, od, J⟩ := own_at I ha
  obtain ⟨m, hF⟩ := I.fr
  refine PySem.W.len_K hF I.ok.mod.kin J c.at_ c.fn (wpAny_mono (run_own F hr.in1 I.env0.in1 hb hx I (vs := [.ref a]) (.cons rfl .nil) q) (fun w s' z => ?_) fun _ _ x => x)
  obtain ⟨z', H', I', rz, k, rfl, hk, qz⟩ := z
  obtain ⟨t, rfl⟩ := (show ∃ t, w = Value.int k t from rz)
  exact ⟨⟨by omega, by omega⟩, .int k, H', I'.tok _, ⟨_, rfl⟩, qz⟩
/-! iter(t), t a tuple; for x in o -/
abbrev itTObj (t : Addr) (i : Nat) : Obj := { cls := .type "tuple_iterator", data := .fields #[.ref t, .int i 0] }
def ItT (t it : Addr) : HO := .ext fun h => h.get? it = some (itTObj t 0)
theorem itT_ok {P : Program} {w : World} {H : Hp} {h : Heap} {t it : Addr} (e : h.get? it = some (itTObj t 0)) : ObjOk P w H h it (ItT t it) := ⟨e, ⟨_, e⟩, fun h1 h2 q k => k _ q⟩
theorem call_iterT : CallR X (.builtin "iter") (fun xs H Q => ∃ (l : Addr) (zs : List V), xs = [.ref l] ∧ SqT X.K H l zs ∧ ∀ it, H it = Option.none → X.s_0.heap.objs.size ≤ it → Q (.ref it) (upd H it (ItT l it))) := by
  intro pins s σ H xs us Q I r h
  obtain ⟨l, zs, rfl, hq, q⟩ := h
  obtain ⟨u, rfl, ru⟩ := vals1 r
  cases ru
  obtain ⟨its, rv, p, hz⟩ := I.tuple hq
  refine Calls.call_function_entry (by decide +kernel) (by decide +kernel) PySem.W.kdk_entry_iter (PySem.W.kdk_args_iter _) ?_
  unfold Builtin.«iter»
  refine wpAny_bind (m := someArgs "iter" 1 2 _) (wpAny_of_eq (a := [Value.ref l]) (by first | rfl | kernel_rfl!) ?_)
  show wpAny _ _ (pyIter (.ref l) >>= _) _ _ _
  refine wpAny_bind (wpAny_pyIter_tuple (show s.heap.IsTuple l its.toArray from p) ?_)
  exact wpAny_pure ⟨_, rfl, .ref s.heap.objs.size, _, I.laid (t' := s.toks) (fun b u e => Heap.get?_push_of_some _ e) (Nat.le_refl _) (itT_ok (Heap.get?_push_size _ rfl)), rfl, q _ (I.hok.fresh (Nat.le_refl _)) I.sz⟩
/-- what an __iter__ over a tuple does -/
def QIt (H : Hp) (n : Nat) (t : Addr) : VK := fun v H' => ∃ it, v = .ref it ∧ H it = Option.none ∧ n ≤ it ∧ H' = upd H it (ItT t it)
end
def FnIt (P : Program) (w : World) (K : PySem.W.Frag) (mg : Str → Option Value) (base : Heap) (k : Nat) (f : Addr) (R : Addr → Addr → Hp → Prop) : Prop :=
  ∀ (A : Around) (outer : List Env) (s : Shared) (H : Hp) (a t : Addr), Room k A → Env0 P w K mg base A outer s H → R a t H → codeAny (model P w) A (.call (.ref f) ⟨[.ref a], []⟩) (CR CX0 outer P w H s (QIt H s.heap.objs.size t) E0) s
theorem fnIt_of {P : Program} {w : World} {K : PySem.W.Frag} {mg : Str → Option Value} {base : Heap} {k : Nat} {f : Addr} {x qual : Str} {st : Stmt} {fd : FuncData} {N : List Str} {R : Addr → Addr → Hp → Prop} (F : Fun K x qual st f fd) (S : FnScope N ["self"] (defScope st)) (b : Binds K fd ["self"] [])
    (hbody : ∀ (cdv : Value) (A : Around) (outer : List Env) (s : Shared) (H : Hp) (a t : Addr), Room k (A.deeper (envOfC qual (defScope st) s.heap.objs.size f cdv)) → R a t H →
      ∃ tt, PSs (cxOf CX0 P w K mg base N qual (defScope st) f cdv A outer s H E0).nox (defBody st) tt ∧ tt { nx := fun _ H' => QIt H s.heap.objs.size t .non H', rt := QIt H s.heap.objs.size t } (start N [.ref a]) H) : FnIt P w K mg base (k + 1) f R := by
  intro A outer s H a t hr e0 hR
  obtain ⟨oc, od, kV, doc, pm, an, cdv, ct, osl, rfl, lk, hcd⟩ := F.ex
  have KX : K.In s.heap := e0.mod.kin.keeps fun b o e => (e0.bs b o e).1
  have lim : s.heap.NoLimit := e0.mod.nolimit.keeps fun b o e => (e0.bs b o e).1
  have hkind : ∀ y ∈ ([Str.ofString "self"] : List Str).zip [Value.ref a], (defScope st).names.lookup y.1 = some .local ∨ ((defScope st).names.lookup y.1 = some .cell ∧ ((cellsFrom (s.heap.objs.size + 1) (defScope st).names []).lookup y.1).isSome = true) := fun ⟨n, v⟩ hy => by
    rcases S.par n (List.of_mem_zip hy).1 with q | q
    · exact .inl q
    · exact .inr ⟨q, PySem.W.cellsFrom_some _ _ _ (.inl q)⟩
  have hbb := b s [.ref a] KX (by simp)
  rw [List.append_nil] at hbb
  refine codeAny_call_function hr.depth (KX _ _ lk) rfl S.co S.gen rfl (PySem.W.codeRec_of KX hcd) (hbb _ _ _ _ ?_)
  refine wpAny_newFunctionEnv_cells S.kind hkind fun env he s1 x => ?_
  subst he
  refine ⟨lim.keeps x.toInCall.keep, codeAny_func ?_⟩
  obtain ⟨t', ht, hq⟩ := hbody cdv A outer s H a t (hr.deeper _) hR
  have I : Inv (cxOf CX0 P w K mg base N qual (defScope st) f cdv A outer s H E0) [] (start N [V.ref a]) H s1 := inv_start S hr.hd e0 rfl (.cons rfl .nil) x
  refine wpAny_mono (ht.nox.run [] s1 (start N [V.ref a]) H _ I hq) (fun fl s' hs => ?_) fun e s' hs => hs
  have fin : ∀ {σ' : L2.St} {H' : Hp} {v : V} {u : Value}, Inv (cxOf CX0 P w K mg base N qual (defScope st) f cdv A outer s H E0) [] σ' H' s' → RelV v u → QIt H s.heap.objs.size t v H' → CE outer P w H s (QIt H s.heap.objs.size t) u s' :=
    fun {σ' H' v u} J rv q => ⟨v, H', J.os, J.bare, J.base, J.hok, rv, q⟩
  cases fl with
  | ret u =>
    obtain ⟨v, σ', H', J, rv, q⟩ := hs
    exact fin J rv q
  | next =>
    obtain ⟨σ', H', J, q⟩ := hs
    exact fin (v := V.non) (u := Value.none) J rfl q
  | brk =>
    obtain ⟨_, _, _, q⟩ := hs
    exact False.elim q
  | cont =>
    obtain ⟨_, _, _, q⟩ := hs
    exact False.elim q
section
variable {X : Cx} {CX : CXT} {C g : Addr} {n : Nat} {fd : FuncData} {ps : List Str} {sp : Sp} {E : XK} {pins : List (Addr × Obj)} {σ : L2.St} {H : Hp} {s : Shared}
def iOwn (K : PySem.W.Frag) (C : Addr) (R : Addr → Addr → Hp → Prop) (te : TE) : TI := fun σ H Z => te σ H fun x H1 => ∃ a dx fs t, x = .ref a ∧ H1 a = some (.ins C dx fs) ∧ R a t H1 ∧ (∃ xs, SqT K H1 t xs) ∧ Z (Itt K t) H1
theorem pi_own {R : Addr → Addr → Hp → Prop} {e tg : Expr} {te : TE} (c : Own X.K C "__iter__" g) (F : FnIt X.prog X.w X.K X.mg X.base n g R) (hr : Room n X.A) (he : PE X e te) : PI X tg e (iOwn X.K C R te) := by
  refine ⟨fun pins s σ H Z I h => ?_⟩
  refine thn (he.run pins s σ H _ I h) fun v s1 ⟨x, H1, I1, r1, q1⟩ => ?_
  obtain ⟨a, dx, fs, t, rfl, ha, hR, ⟨xs, hxs⟩, q⟩ := q1
  cases r1
  obtain ⟨ox, od, J⟩ := own_at I1 ha
  obtain ⟨m, hF⟩ := I1.fr
  refine PySem.W.owit_iter hF I1.ok.mod.kin J c.at_ c.fn ?_
  refine wpAny_call (codeAny_mono (F X.A X.stack s1 H1 a t hr I1.env0 hR) fun r s' hq => ?_)
  cases r with
  | error e => exact False.elim hq
  | ok fl =>
    cases fl with
    | ret u =>
      obtain ⟨z, H2, os, bare, un, hok, rz, it, rfl, hn, hge, rfl⟩ := id hq
      have I2 : Inv X pins σ (upd H1 it (ItT t it)) s' := I1.call' os un hok bare (fun b z => absurd z (by simp))
      cases rz
      have hget : s'.heap.get? it = some (itTObj t 0) := (I2.hok it _ upd_same).1
      have hT : s'.TypeIs (.ref it) "tuple_iterator" := ⟨_, hget, rfl⟩
      have hi : (upd H1 it (ItT t it)) it = some (.ext fun h => h.get? it = some (itTObj t 0)) := upd_same
      have I3 := ItX.inv_drop I2 hi
      have e3 : ItX.dropH (upd H1 it (ItT t it)) it = H1 := ItX.dropH_upd hn
      have fp := ItX.inv_fp I2 hi (Nat.le_trans I1.sz hge)
      rw [e3] at I3 fp
      unfold PySem.W.OwitIt
      refine wpAny_specialOf (name := Str.ofString "__next__") hT PySem.F.slot_tuple_iterator_next.lookup ?_
      refine ⟨it, [it], _, _, H1, rfl, I3, turn_tuple t it, ⟨_, hget, rfl, rfl⟩, fun b hb => ?_, q⟩
      cases List.mem_singleton.mp hb
      exact fp
    | next => exact False.elim hq
    | brk => exact False.elim hq
    | cont => exact False.elim hq
end
end TK

namespace TK
open PySem PySem.Calls PySem.Spec PyProof.Rows PyProof.V L2
/-! ### two dicts with tuples as keys, equal whatever the order -/
section
variable {prog : Program} {w : World} {K : Type} [DecidableEq K] {knd : HeapKind prog w K} {A : Around} {E : Value → Shared → Prop} {s : Shared}
theorem samePairsH {nm : String} {a b : Addr} {ka kb : List (K × Addr × Value)} {Q : Bool → Shared → Prop} (hu : knd.room A) (ha : (a == sysModules) = false) (hb : (b == sysModules) = false)
    (da : s.heap.DictOfH knd a ka) (db : s.heap.DictOfH knd b kb) (hl : ka.length = kb.length) (hits : ∀ x ∈ ka, ∃ p, atKey kb x.1 = some p ∧ SeqAt.EqAt A s x.2.2 p.2 true) (h : Q true s) :
    wpAny (model prog w) A (Builtin.Dict.samePairs nm a b) Q E s := by
  obtain ⟨oa, es, ep, hoa, _, hda, hea, hia, _⟩ := da
  obtain ⟨ob, es', ep', hob, _, hdb, heb, hib, hnb⟩ := db
  have hla : ka.length = es.size := (size_of_entries hea).symm
  have hlb : kb.length = es'.size := (size_of_entries heb).symm
  have hsz : es.size = es'.size := by omega
  unfold Builtin.Dict.samePairs Builtin.Dict.showsAll
  rw [if_neg (show ¬ (a == sysModules) = true by rw [ha]; exact Bool.false_ne_true), if_neg (show ¬ (b == sysModules) = true by rw [hb]; exact Bool.false_ne_true)]
  refine wpAny_bind (wpAny_pure (wpAny_bind (wpAny_pure ?_)))
  refine wpAny_bind (wpAny_dictEntries hoa hda ?_)
  dsimp only
  refine wpAny_bind (wpAny_dictEntries hob hdb ?_)
  rw [if_neg (by rw [hsz]; simp)]
  refine wpAny_bind (wpAny_dictEpoch hoa hda ?_)
  refine wpAny_bind ?_
  rw [Std.Legacy.Range.forIn_eq_forIn_range']
  simp only [Std.Legacy.Range.size, Nat.sub_zero, Nat.add_sub_cancel, Nat.div_one]
  refine wpAny_forIn_list _
    (fun rest q s' => s' = s ∧ q = (none, ()) ∧ ∃ i, rest = List.range' i (es.size - i) ∧ i ≤ es.size)
    _ ?_ ?_ _ _ ⟨rfl, rfl, 0, by simp, Nat.zero_le _⟩
  · rintro x rest q s' ⟨rfl, rfl, i, hr, hi⟩
    have hlt : i < es.size := by
      rcases Nat.lt_or_ge i es.size with h | h
      · exact h
      · rw [Nat.sub_eq_zero_of_le h] at hr; simp at hr
    obtain ⟨rfl, hrest⟩ : x = i ∧ rest = List.range' (i + 1) (es.size - (i + 1)) := by
      have e : es.size - i = (es.size - (i + 1)) + 1 := by omega
      rw [e, List.range'_succ] at hr
      injection hr with h1 h2
      exact ⟨h1, h2⟩
    refine wpAny_bind (wpAny_dictEntries hoa hda ?_)
    have hlt' : x < ka.length := by rw [hla]; exact hlt
    have hent : es[x]? = some (entryOfKey knd ka[x]) := by rw [entry_at hea x, List.getElem?_eq_getElem hlt']; rfl
    rw [hent]
    obtain ⟨p, hp, heq⟩ := hits ka[x] (List.getElem_mem hlt')
    have hkey := hia ka[x] (List.getElem_mem hlt')
    show wpAny _ _ (holding [(entryOfKey knd ka[x]).key, (entryOfKey knd ka[x]).val] _ >>= _) _ _ _
    refine wpAny_bind (wpAny_holding (wpAny_bind (wpAny_dictFind_heap hu hkey hob hdb heb hib hnb ?_ ?_)))
    · intro hno
      rw [atKey_none_of_get hno] at hp
      exact nomatch hp
    · intro j p' hj
      have ep' : p' = p := Option.some.inj ((atKey_of_get hnb hj).symm.trans hp)
      subst ep'
      refine wpAny_bind (wpAny_dictEntries hob hdb ?_)
      rw [entry_at heb j, hj]
      refine wpAny_holding (heq prog w _ _ ?_)
      show wpAny _ _ (if (!true) = true then _ else _) _ _ _
      rw [if_neg (by decide)]
      refine wpAny_bind (wpAny_dictEpoch hoa hda ?_)
      rw [if_neg (by simp)]
      exact wpAny_pure ⟨rfl, rfl, x + 1, hrest, hlt⟩
  · rintro q s' ⟨rfl, rfl, i, hr, hi⟩
    refine wpAny_pure ?_
    exact h
theorem eqDictH {a b : Addr} {ka kb : List (K × Addr × Value)} {Q : Value → Shared → Prop} (hr : knd.room A.in1) (ha : (a == sysModules) = false) (hb : (b == sysModules) = false)
    (da : s.heap.DictOfH knd a ka) (db : s.heap.DictOfH knd b kb) (hu : A.units < cLine) (hl : ka.length = kb.length) (hits : ∀ x ∈ ka, ∃ p, atKey kb x.1 = some p ∧ SeqAt.EqAt A.in1 s x.2.2 p.2 true) (h : Q (.bool true) s) :
    wpAny (model prog w) A (compareOp .Eq (.ref a) (.ref b)) Q E s := by
  refine wpAny_richCompare_same_room (op := .Eq) da.typeIs db.typeIs PySem.F.slot_dict_eq (wpAny_call_entry PySem.F.slot_dict_eq da.typeIs PySem.F.entry_dict_eq ?_ (PySem.F.args_dict_eq_2 _ _)) hu
  show wpAny _ _ (Builtin.Dict.dictSlotArgs "__eq__" ⟨[.ref a, .ref b], []⟩ >>= _) _ _ s
  refine wpAny_bind ?_
  unfold Builtin.Dict.dictSlotArgs
  refine wpAny_bind (wpAny_notOrdered_dict da.typeIs ?_)
  show wpAny _ _ (pure (Value.ref a, Value.ref b)) _ _ s
  refine wpAny_pure ?_
  refine wpAny_bind (wpAny_isInstance (T := "dict") db.typeIs PySem.F.sub_dict_dict ?_)
  simp only [Bool.not_true, Bool.false_eq_true, if_false]
  refine wpAny_bind (wpAny_pure (wpAny_bind (wpAny_pure ?_)))
  refine wpAny_bind (samePairsH hr ha hb da db hl hits ?_)
  refine wpAny_pure ⟨_, rfl, ?_, ?_⟩
  · exact fun x => nomatch x
  · simpa using h
end
section
variable {X : Cx}
def rEqDT : R2 := fun x y H Q => ∃ a b ks ls, x = .ref a ∧ y = .ref b ∧ H a = some (.dT ks) ∧ H b = some (.dT ls) ∧ ks.length = ls.length ∧ (∀ p ∈ ks, valV ls p.1 = some p.2 ∧ flatB p.2 = true) ∧ Q (.bl true) H
theorem hitsT {H : Hp} {A : Around} {s : Shared} {ls : List (List Key × V)} {xb : List (List Key × Addr × Value)} (rb : KT H ls xb) {ks : List (List Key × V)} {xa : List (List Key × Addr × Value)} (ra : KT H ks xa) :
    (∀ p ∈ ks, valV ls p.1 = some p.2 ∧ flatB p.2 = true) → ∀ x ∈ xa, ∃ p, atKey xb x.1 = some p ∧ SeqAt.EqAt A s x.2.2 p.2 true := by
  unfold KT at ra
  induction ra with
  | nil => intro _ x h; exact absurd h List.not_mem_nil
  | @cons p q ps qs h t ih =>
    intro hp x hx
    rcases List.mem_cons.mp hx with rfl | hx
    · obtain ⟨h1, _, h2⟩ := h
      obtain ⟨e, f⟩ := hp p List.mem_cons_self
      have rr : RelO (some p.2) ((atKey xb p.1).map (·.2)) := by rw [← e]; exact rb.val p.1
      obtain ⟨y, hy, ry⟩ := rr.some_of
      obtain ⟨z, hz, rfl⟩ := Option.map_eq_some_iff.mp hy
      exact ⟨z, by rw [← h1]; exact hz, eqAt_same h2 ry f⟩
    · exact ih (fun p' hm => hp p' (List.mem_cons_of_mem _ hm)) x hx
theorem op_eq_dictT (hu : X.A.units + 1 < cLine) : OpR X (compareOp .Eq) rEqDT := by
  intro pins s σ H x y v u Q I rx ry h
  obtain ⟨a, b, ks, ls, rfl, rfl, ea, eb, hlen, hp, q⟩ := h
  obtain rfl : v = Value.ref a := rx
  obtain rfl : u = Value.ref b := ry
  obtain ⟨_, ya, va, ra, da⟩ := dt_rd I.hok (.inl ea)
  obtain ⟨_, yb, vb, rb, db⟩ := dt_rd I.hok (.inl eb)
  have hl : va.length = vb.length := by rw [← Paired.length ra, ← Paired.length rb]; exact hlen
  exact eqDictH (tupleKind_room_in1 hu) ya yb da db (Nat.lt_of_succ_lt hu) hl (hitsT rb ra hp) (fin_bl I q rfl)
end
end TK

namespace TK
open PySem PySem.Spec PyProof.Rows L2
/-- any loop of a comprehension over whatever walks (for two generators: one time each) -/
theorem walk_go {J : It} {n : Nat} {G : Hp → Prop} {Y : Nat → Hp → V → Hp → Prop} (w : Walk J n G Y) {H0 : Hp} {Qd : Hp → Prop} {body : (Hp → Prop) → V → Hp → Prop} (Pv : Nat → Hp → Prop) (h0 : Pv 0 H0) (hG : ∀ i H, i ≤ n → Pv i H → G H)
    (hs : ∀ i x H H', i < n → Pv i H → Y i H x H' → body (Pv (i + 1)) x H') (hd : ∀ H, Pv n H → Qd H) :
    ∃ W : Nat → Nat → Hp → Prop, (∃ m, W 0 m H0) ∧ ∀ i m H, W i m H →
      (J.stop i H ∧ Qd H) ∨ (J.go i H ∧ ∃ Nx : Hp → Prop, (∀ H', Nx H' → ∃ m', m' < m ∧ W (i + 1) m' H') ∧ ∀ x H', J.yld i H x H' → body Nx x H') := by
  refine ⟨fun i m H => m = n - i ∧ i ≤ n ∧ Pv i H, ⟨n, by simp, Nat.zero_le _, h0⟩, ?_⟩
  rintro i m H ⟨rfl, hi, p⟩
  have q := hG i H hi p
  by_cases hlt : i < n
  · exact .inr ⟨w.goes i H hlt q, Pv (i + 1), fun H' p' => ⟨n - (i + 1), by omega, rfl, hlt, p'⟩, fun x H' y => hs i x H H' hlt p (w.yields i H x H' hlt q y)⟩
  · have e : i = n := by omega
    subst e
    exact .inl ⟨w.stops H q, hd H p⟩
theorem pe_fldK {X : Cx} {K : PySem.W.Frag} {e : Expr} {f : Str} {pos : Pos} {ta : TE} (h : X.K = K) (he : PE X e ta) (hb : attributeBase e f X.env (eval e X.env) = eval e X.env) : PE X (.Attribute e f pos) (tFld K ta f) := h ▸ pe_fld he hb
theorem pi_tupK {X : Cx} {K : PySem.W.Frag} {tg e : Expr} {te : TE} (h : X.K = K) (he : PE X e te) : PI X tg e (iTup K te) := h ▸ pi_tup he
end TK

namespace TK
open PySem PySem.Spec PyProof.Rows L2
def topS (i : Nat) : Stmt := PySem.Challenge.pw_turnsandkeys_k33_whole_best_lot.main.body.getD i (.Pass ⟨0, 0, 0, 0⟩)
abbrev s_wall : Stmt := topS 1
theorem sc_wall : FnScope ["k"] ["k"] (defScope s_wall) := ⟨rfl, rfl, rfl, by decide +kernel, rfl, by decide +kernel, by decide +kernel⟩
abbrev s_check_size : Stmt := topS 8
theorem sc_check_size : FnScope ["size", "low", "high"] ["size", "low", "high"] (defScope s_check_size) := ⟨rfl, rfl, rfl, by decide +kernel, rfl, by decide +kernel, by decide +kernel⟩
abbrev s_check_range : Stmt := topS 9
theorem sc_check_range : FnScope ["number", "low", "high"] ["number", "low", "high"] (defScope s_check_range) := ⟨rfl, rfl, rfl, by decide +kernel, rfl, by decide +kernel, by decide +kernel⟩
abbrev s_check_offers : Stmt := topS 11
theorem sc_check_offers : FnScope ["offers", "charge", "weight"] ["offers"] (defScope s_check_offers) := ⟨rfl, rfl, rfl, by decide +kernel, rfl, by decide +kernel, by decide +kernel⟩
abbrev s_L_cell : Stmt := topS 14
theorem sc_L_cell : FnScope ["_law_script", "_law_k", "_law_far_here", "_law_j"] ["_law_script", "_law_k"] (defScope s_L_cell) := ⟨rfl, rfl, rfl, by decide +kernel, rfl, by decide +kernel, by decide +kernel⟩
abbrev s_L_mixed : Stmt := topS 15
theorem sc_L_mixed : FnScope ["_law_cell_here", "_law_k", "_law_x"] ["_law_cell_here", "_law_k"] (defScope s_L_mixed) := ⟨rfl, rfl, rfl, by decide +kernel, rfl, by decide +kernel, by decide +kernel⟩
abbrev s_L_pool : Stmt := topS 16
theorem sc_L_pool : FnScope ["_law_cell_here", "_law_number", "_law_rest", "_law_deep", "_law_pool_here", "_law_k"] ["_law_cell_here", "_law_number"] (defScope s_L_pool) := ⟨rfl, rfl, rfl, by decide +kernel, rfl, by decide +kernel, by decide +kernel⟩
abbrev s_L_part : Stmt := topS 17
theorem sc_L_part : FnScope ["_law_pool_here", "_law_spot", "_law_under", "_law_size"] ["_law_pool_here", "_law_spot", "_law_under", "_law_size"] (defScope s_L_part) := ⟨rfl, rfl, rfl, by decide +kernel, rfl, by decide +kernel, by decide +kernel⟩
abbrev s_L_far : Stmt := topS 18
theorem sc_L_far : FnScope ["_law_pool_here", "_law_spot", "_law_number", "_law_far_here", "_law_k"] ["_law_pool_here", "_law_spot", "_law_number"] (defScope s_L_far) := ⟨rfl, rfl, rfl, by decide +kernel, rfl, by decide +kernel, by decide +kernel⟩
abbrev s_L_chosen : Stmt := topS 19
theorem sc_L_chosen : FnScope ["_law_pool_here", "_law_spot", "_law_under", "_law_small", "_law_crest", "_law_whole", "_law_way", "_law_near"] ["_law_pool_here", "_law_spot", "_law_under", "_law_small", "_law_crest", "_law_whole"] (defScope s_L_chosen) := ⟨rfl, rfl, rfl, by decide +kernel, rfl, by decide +kernel, by decide +kernel⟩
abbrev s_L_goods : Stmt := topS 20
theorem sc_L_goods : FnScope ["_law_pool_here", "_law_spot", "_law_number", "_law_calm", "_law_goods_here", "_law_k", "_law_place", "_law_charge", "_law_weight"] ["_law_pool_here", "_law_spot", "_law_number", "_law_calm"] (defScope s_L_goods) := ⟨rfl, rfl, rfl, by decide +kernel, rfl, by decide +kernel, by decide +kernel⟩
abbrev s_L_beside : Stmt := topS 21
theorem sc_L_beside : FnScope ["_law_pool_here", "_law_spot"] ["_law_pool_here", "_law_spot"] (defScope s_L_beside) := ⟨rfl, rfl, rfl, by decide +kernel, rfl, by decide +kernel, by decide +kernel⟩
abbrev s_L_few : Stmt := topS 22
theorem sc_L_few : FnScope ["_law_pool_here", "_law_spot", "_law_number"] ["_law_pool_here", "_law_spot"] (defScope s_L_few) := ⟨rfl, rfl, rfl, by decide +kernel, rfl, by decide +kernel, by decide +kernel⟩
abbrev s_L_cap : Stmt := topS 23
theorem sc_L_cap : FnScope ["_law_pool_here", "_law_spot", "_law_way"] ["_law_pool_here", "_law_spot"] (defScope s_L_cap) := ⟨rfl, rfl, rfl, by decide +kernel, rfl, by decide +kernel, by decide +kernel⟩
abbrev s_L_lowest : Stmt := topS 24
theorem sc_L_lowest : FnScope ["_law_above", "_law_below", "_law_one", "_law_two", "_law_turn"] ["_law_above", "_law_below"] (defScope s_L_lowest) := ⟨rfl, rfl, rfl, by decide +kernel, rfl, by decide +kernel, by decide +kernel⟩
abbrev s_L_lots : Stmt := topS 25
theorem sc_L_lots : FnScope ["_law_number", "_law_lots_here", "_law_k", "_law_lot"] ["_law_number"] (defScope s_L_lots) := ⟨rfl, rfl, rfl, by decide +kernel, rfl, by decide +kernel, by decide +kernel⟩
abbrev s_L_greatest_mean : Stmt := topS 26
theorem sc_L_greatest_mean : FnScope ["_law_goods_here", "_law_beside_here", "_law_cap_here", "_law_above", "_law_below", "_law_lot", "_law_one", "_law_two", "_law_k"] ["_law_goods_here", "_law_beside_here", "_law_cap_here"] (defScope s_L_greatest_mean) := ⟨rfl, rfl, rfl, by decide +kernel, rfl, by decide +kernel, by decide +kernel⟩
abbrev s_L_picks : Stmt := topS 27
theorem sc_L_picks : FnScope ["_law_goods_here", "_law_rate", "_law_cap_here", "_law_over", "_law_lot", "_law_k", "_law_ahead", "_law_charge", "_law_weight", "_law_j"] ["_law_goods_here", "_law_rate", "_law_cap_here"] (defScope s_L_picks) := ⟨rfl, rfl, rfl, by decide +kernel, rfl, by decide +kernel, by decide +kernel⟩
abbrev s_L_excess : Stmt := topS 28
theorem sc_L_excess : FnScope ["_law_goods_here", "_law_rate", "_law_lot", "_law_k"] ["_law_goods_here", "_law_rate", "_law_lot"] (defScope s_L_excess) := ⟨rfl, rfl, rfl, by decide +kernel, rfl, by decide +kernel, by decide +kernel⟩
abbrev s_L_integer : Stmt := topS 29
theorem sc_L_integer : FnScope ["_law_got"] ["_law_got"] (defScope s_L_integer) := ⟨rfl, rfl, rfl, by decide +kernel, rfl, by decide +kernel, by decide +kernel⟩
abbrev s_L_same : Stmt := topS 30
theorem sc_L_same : FnScope ["_law_got", "_law_wanted", "_law_k"] ["_law_got", "_law_wanted"] (defScope s_L_same) := ⟨rfl, rfl, rfl, by decide +kernel, rfl, by decide +kernel, by decide +kernel⟩
abbrev s_law : Stmt := topS 31
theorem sc_law : FnScope ["_law_script", "_law_rest", "_law_goods_here", "_law_beside_here", "_law_cap_here", "_law_given", "_law_crowd", "_law_rate", "_law_wanted", "_law_got", "_law_lot", "_law_other", "_law_every"] ["_law_script"] (defScope s_law) := ⟨rfl, rfl, rfl, by decide +kernel, rfl, by decide +kernel, by decide +kernel⟩
end TK

namespace TK
open PySem PySem.Spec PyProof.Rows L2
section
variable {P : Program} {w : World} {K : PySem.W.Frag} {mg : Str → Option Value} {base : Heap}
/-! check_size, check_range -/
def spRange : Sp := fun vs H Q _ => ∃ a lo hi : Int, vs = [.int a, .int lo, .int hi] ∧ lo ≤ a ∧ a ≤ hi ∧ Q .non H
theorem ok_check_size {f : Addr} {fd : FuncData} (F : Fun K "check_size" "check_size" s_check_size f fd) : FnOk P w K mg base CX0 1 f fd ["size", "low", "high"] spRange := by
  refine F.ok sc_check_size (fun vs H Q E h => ?_) (fun cdv A outer s H vs Q E hr h => ?_)
  · obtain ⟨a, lo, hi, rfl, _⟩ := h
    rfl
  · obtain ⟨a, lo, hi, rfl, h1, h2, q⟩ := h
    refine ⟨_, (pss_one (ps_if (pt_not (pt_chain op_le op_le (pv 1) (pv 0) (pv 2))) (pss_one ps_never) pss_nil)), ?_⟩
    refine ⟨_, rfl, _, rfl, _, _, rfl, rfl, _, rfl, ?_⟩
    rw [decide_eq_true h1]
    refine iteT ⟨_, rfl, _, _, rfl, rfl, _, rfl, ?_⟩
    rw [decide_eq_true h2]
    exact iteF q
theorem ok_check_range {f : Addr} {fd : FuncData} (F : Fun K "check_range" "check_range" s_check_range f fd) : FnOk P w K mg base CX0 1 f fd ["number", "low", "high"] spRange := by
  refine F.ok sc_check_range (fun vs H Q E h => ?_) (fun cdv A outer s H vs Q E hr h => ?_)
  · obtain ⟨a, lo, hi, rfl, _⟩ := h
    rfl
  · obtain ⟨a, lo, hi, rfl, h1, h2, q⟩ := h
    refine ⟨_, (pss_one (ps_if (pt_not (pt_chain op_le op_le (pv 1) (pv 0) (pv 2))) (pss_one ps_never) pss_nil)), ?_⟩
    refine ⟨_, rfl, _, rfl, _, _, rfl, rfl, _, rfl, ?_⟩
    rw [decide_eq_true h1]
    refine iteT ⟨_, rfl, _, _, rfl, rfl, _, rfl, ?_⟩
    rw [decide_eq_true h2]
    exact iteF q
theorem pz {n : Nat} : (0 : Int) < ((n + 1 : Nat) : Int) := by omega
theorem mb {a : Int} {n : Nat} (h : n + 1 ≤ 2 ^ 63) : -(2 ^ 64) < a % ((n + 1 : Nat) : Int) ∧ a % ((n + 1 : Nat) : Int) < 2 ^ 64 := by
  have h1 := Int.emod_nonneg a (b := ((n + 1 : Nat) : Int)) (by omega)
  have h2 := Int.emod_lt_of_pos a (b := ((n + 1 : Nat) : Int)) (by omega)
  omega
/-! _law_part -/
def partOf (ns : List Int) (s u z : Int) : Int := ns.getD s.toNat 0 / u % z
def spPart (K : PySem.W.Frag) : Sp := fun vs H Q _ => ∃ (a : Addr) (ns : List Int) (s u z : Int), vs = [.ref a, .int s, .int u, .int z] ∧ SqL K H a (ns.map V.int) ∧ 0 ≤ s ∧ s < ns.length ∧ 0 < u ∧ u < 1000000 ∧ 0 < z ∧ Q (.int (partOf ns s u z)) H
theorem get_int {ns : List Int} {s : Int} (h0 : 0 ≤ s) (h : s < ns.length) : atI (ns.map V.int) s = some (.int (ns.getD s.toNat 0)) := by
  have h1 : s.toNat < ns.length := by omega
  refine atI_in h0 ?_
  rw [List.getElem?_map, List.getElem?_eq_getElem h1, List.getD_eq_getElem?_getD, List.getElem?_eq_getElem h1]
  rfl
theorem ok_L_part {f : Addr} {fd : FuncData} (F : Fun K "_law_part" "_law_part" s_L_part f fd) (m_int : mg "int" = none) : FnOk P w K mg base CX0 1 f fd ["_law_pool_here", "_law_spot", "_law_under", "_law_size"] (spPart K) := by
  refine F.ok sc_L_part (fun vs H Q E h => ?_) (fun cdv A outer s H vs Q E hr h => ?_)
  · obtain ⟨a, ns, s, u, z, rfl, _⟩ := h
    rfl
  · obtain ⟨a, ns, s, u, z, rfl, hS, h0, h1, h2, h3, h4, q⟩ := h
    refine ⟨_, (pss_one (ps_ret (pe_op op_mod (pe_op op_fdiv (pe_callTy call_int1 (by rfl) m_int (by decide +kernel) (pa_cons (pe_ix ix_list (pv 0) (pv 1) (fun _ _ => rfl)) pa_nil)) (pv 2)) (pv 3)))), ?_⟩
    refine ⟨_, rfl, _, rfl, _, _, _, _, rfl, rfl, hS, get_int h0 h1, .inl ⟨_, rfl, _, rfl, _, _, rfl, rfl, ⟨h2, by omega⟩, _, rfl, _, _, rfl, rfl, h4, ?_⟩⟩
    exact q
theorem part_lo {ns : List Int} {s u z : Int} (h : 0 < z) : 0 ≤ partOf ns s u z := Int.emod_nonneg _ (by omega)
theorem part_hi {ns : List Int} {s u z : Int} (h : 0 < z) : partOf ns s u z < z := Int.emod_lt_of_pos _ h
/-! _law_mixed -/
def spMixed : Sp := fun vs H Q _ => ∃ c k : Int, vs = [.int c, .int k] ∧ 0 ≤ k ∧ k < 1000000 ∧ ∀ r : Int, 0 ≤ r → Q (.int r) H
theorem ok_L_mixed {f : Addr} {fd : FuncData} (F : Fun K "_law_mixed" "_law_mixed" s_L_mixed f fd) (m_abs : mg "abs" = none) : FnOk P w K mg base CX0 1 f fd ["_law_cell_here", "_law_k"] spMixed := by
  refine F.ok sc_L_mixed (fun vs H Q E h => ?_) (fun cdv A outer s H vs Q E hr h => ?_)
  · obtain ⟨c, k, rfl, _⟩ := h
    rfl
  · obtain ⟨c, k, rfl, h0, h1, q⟩ := h
    refine ⟨_, (pss_cons (ps_set (i := 2) sc_L_mixed.nd rfl (.inl rfl) (pe_op op_mod (pe_op op_add (pe_op op_mul (pe_op op_mod (pe_callB call_abs (by rfl) m_abs (by decide +kernel) (pa_cons (pv 0) pa_nil)) pe_int) pe_int) (pe_op op_mul (pe_op op_add (pv 1) pe_int) pe_int)) pe_int))
  (pss_cons (ps_set (i := 2) sc_L_mixed.nd rfl (.inl rfl) (pe_op op_mod (pe_op op_add (pe_op op_mul (pv 2) (pe_op op_add (pe_op op_mod (pv 2) pe_int) pe_int)) (pe_op op_mul (pe_op op_add (pv 1) pe_int) pe_int)) pe_int))
  (pss_cons (ps_set (i := 2) sc_L_mixed.nd rfl (.inl rfl) (pe_op op_mod (pe_op op_mul (pv 2) (pe_op op_add (pe_op op_mod (pv 2) pe_int) pe_int)) pe_int))
  (pss_one (ps_ret (pe_op op_fdiv (pv 2) pe_int)))))), ?_⟩
    refine ⟨_, rfl, _, rfl, _, _, rfl, rfl, pz, _, _, rfl, rfl, .inr (by decide), _, rfl, _, _, rfl, rfl, _, _, rfl, rfl, .inr (by decide), _, _, rfl, rfl, _, _, rfl, rfl, pz, ?_⟩
    refine ⟨_, rfl, _, rfl, _, _, rfl, rfl, pz, _, _, rfl, rfl, _, _, rfl, rfl, .inl (mb (by decide)), _, rfl, _, _, rfl, rfl, _, _, rfl, rfl, .inr (by decide), _, _, rfl, rfl, _, _, rfl, rfl, pz, ?_⟩
    refine ⟨_, rfl, _, rfl, _, _, rfl, rfl, pz, _, _, rfl, rfl, _, _, rfl, rfl, .inl (mb (by decide)), _, _, rfl, rfl, pz, _, rfl, _, _, rfl, rfl, ⟨by decide, by decide⟩, ?_⟩
    exact q _ (Int.ediv_nonneg (Int.emod_nonneg _ (by decide)) (by decide))
/-! _law_cell -/
def spCellA (K : PySem.W.Frag) : Sp := fun vs H Q _ => ∃ (a : Addr) (ns : List Int) (k : Int), vs = [.ref a, .int k] ∧ SqL K H a (ns.map V.int) ∧ 0 ≤ k ∧ k < 1000 ∧ ns.length ≤ 1000 ∧ ∀ r : Int, Q (.int r) H
theorem ok_L_cell {f : Addr} {fd : FuncData} (F : Fun K "_law_cell" "_law_cell" s_L_cell f fd) (m_len : mg "len" = none) (m_range : mg "range" = none) (m_abs : mg "abs" = none) : FnOk P w K mg base CX0 1 f fd ["_law_script", "_law_k"] (spCellA K) := by
  refine F.ok sc_L_cell (fun vs H Q E h => ?_) (fun cdv A outer s H vs Q E hr h => ?_)
  · obtain ⟨a, ns, k, rfl, _⟩ := h
    rfl
  · obtain ⟨a, ns, k, rfl, hS, h0, h1, h2, q⟩ := h
    refine ⟨_, (pss_cons (ps_if (pt_cmpR op_lt (pv 1) (pe_callB call_len_seq (by rfl) m_len (by decide +kernel) (pa_cons (pv 0) pa_nil)) (nomark _)) (pss_one (ps_ret (pe_ix ix_list (pv 0) (pv 1) (fun _ _ => rfl)))) pss_nil)
  (pss_cons (ps_set (i := 2) sc_L_cell.nd rfl (.inl rfl) (pe_op op_mul pe_int (pe_op op_add (pv 1) pe_int)))
  (pss_cons (ps_for PassesOwn.never rfl (pi_range1 (by rfl) m_range (pa_cons (pe_callB call_len_seq (by rfl) m_len (by decide +kernel) (pa_cons (pv 0) pa_nil)) pa_nil)) (pg_name (i := 3) sc_L_cell.nd rfl (.inl rfl))
    (pss_one (ps_set (i := 2) sc_L_cell.nd rfl (.inl rfl) (pe_op op_mod (pe_op op_add (pv 2) (pe_op op_mul (pe_op op_mul (pe_op op_add (pv 3) pe_int) (pe_op op_mod (pe_callB call_abs (by rfl) m_abs (by decide +kernel) (pa_cons (pe_ix ix_list (pv 0) (pv 3) (fun _ _ => rfl)) pa_nil)) pe_int)) pe_int)) pe_int))))
  (pss_one (ps_ret (pv 2)))))), ?_⟩
    refine ⟨_, rfl, _, rfl, _, _, rfl, .inl hS, _, _, rfl, rfl, _, rfl, ite2 (fun e => ?_) (fun e => ?_)⟩
    · have e1 : k < ((ns.map V.int).length : Nat) := of_decide_eq_true e
      rw [List.length_map] at e1
      exact ⟨_, rfl, _, rfl, _, _, _, _, rfl, rfl, hS, get_int h0 e1, q _⟩
    · refine ⟨_, rfl, _, _, rfl, rfl, _, _, rfl, rfl, .inl (by decide), ?_⟩
      refine ⟨_, rfl, _, _, rfl, .inl hS, _, rfl, by omega, by rw [List.length_map]; omega, for_range (fun i σ H' => H' = H ∧ ∃ (r : Int) (y : Option V), σ = [some (.ref a), some (.int k), some (.int r), y]) ⟨rfl, _, _, rfl⟩ ?_ ?_⟩
      · rintro i σ H' hi ⟨rfl, r, y, rfl⟩
        rw [List.length_map] at hi
        have hi' : i < ns.length := by omega
        refine ⟨_, rfl, _, rfl, _, _, rfl, rfl, _, rfl, _, rfl, _, _, _, _, rfl, rfl, hS, get_int (by omega) (by omega), _, rfl, _, _, rfl, rfl, pz, _, _, rfl, rfl, .inr (mb (by decide)), _, _, rfl, rfl, .inr (by decide), _, _, rfl, rfl, _, _, rfl, rfl, pz, rfl, _, _, rfl⟩
      · rintro σ H' ⟨rfl, r, y, rfl⟩
        exact ⟨_, rfl, q _⟩
end
end TK

namespace TK
open PySem PySem.Spec PyProof.Rows L2
theorem upd_twice {H : Hp} {p : Addr} {a b : HO} : upd (upd H p a) p b = upd H p b := by
  funext x
  unfold upd
  by_cases e : x = p
  · rw [if_pos e, if_pos e]
  · rw [if_neg e, if_neg e, if_neg e]
section
variable {P : Program} {w : World} {K : PySem.W.Frag} {mg : Str → Option Value} {base : Heap}
/-! _law_pool -/
def spPool : Sp := fun vs H Q _ => ∃ (c n : Int), vs = [.int c, .int n] ∧ 0 ≤ n ∧ n ≤ 1000 ∧ ∀ (p : Addr) (ns : List Int), H p = none → (ns.length : Int) = n → (∀ x ∈ ns, 0 ≤ x) → Q (.ref p) (upd H p (.lst (ns.map V.int)))
theorem ok_L_pool {f : Addr} {fd : FuncData} (F : Fun K "_law_pool" "_law_pool" s_L_pool f fd) (m_range : mg "range" = none) (m_abs : mg "abs" = none) (d_L_mixed : Def P w K mg base "_law_mixed" 1 ["_law_cell_here", "_law_k"] spMixed) : FnOk P w K mg base CX0 2 f fd ["_law_cell_here", "_law_number"] spPool := by
  refine F.ok sc_L_pool (fun vs H Q E h => ?_) (fun cdv A outer s H vs Q E hr h => ?_)
  · obtain ⟨c, n, rfl, _⟩ := h
    rfl
  · obtain ⟨c, n, rfl, h0, h1, q⟩ := h
    refine ⟨_, (pss_cons (ps_set (i := 2) sc_L_pool.nd rfl (.inl rfl) (pe_callB call_abs (by rfl) m_abs (by decide +kernel) (pa_cons (pv 0) pa_nil)))
  (pss_cons (ps_set (i := 3) sc_L_pool.nd rfl (.inl rfl) (pe_cmpR op_ge (pv 2) (pe_op op_pow pe_int pe_int) (nomark _)))
  (pss_cons (ps_set (i := 4) sc_L_pool.nd rfl (.inl rfl) (pe_lst pa_nil))
  (pss_cons (ps_for PassesOwn.never rfl (pi_range1 (by rfl) m_range (pa_cons (pv 1) pa_nil)) (pg_name (i := 5) sc_L_pool.nd rfl (.inl rfl))
    (pss_one (ps_if (PW.pt (pw_and (pt_val (pv 3)) (pw_and1 (pt_cmpR op_gt (pv 2) pe_int (nomark _))))) (pss_cons (ps_expr (pe_bm PySem.F.plainAttrs_list PySem.F.slot_list_append PySem.F.type_list_append mt_append (pv 4) (pa_cons (pe_op op_mod (pv 2) pe_int) pa_nil)))
  (pss_one (ps_set (i := 2) sc_L_pool.nd rfl (.inl rfl) (pe_op op_fdiv (pv 2) pe_int)))) (pss_one (ps_expr (pe_bm PySem.F.plainAttrs_list PySem.F.slot_list_append PySem.F.type_list_append mt_append (pv 4) (pa_cons (pe_callD d_L_mixed (hr.mono (by decide)) (by rfl) (pa_cons (pv 0) (pa_cons (pv 5) pa_nil))) pa_nil)))))))
  (pss_one (ps_ret (pv 4))))))), ?_⟩
    have ha : 0 ≤ (if c < 0 then -c else c) := by split <;> omega
    refine ⟨_, rfl, _, rfl, _, rfl, _, _, rfl, rfl, ⟨by decide, by decide, by decide⟩, _, _, rfl, rfl, ?_⟩
    refine ⟨Nat.zero_le _, fun p np => ?_⟩
    refine ⟨_, rfl, _, rfl, by omega, by omega, for_range (fun i σ H' => ∃ (r : Int) (b : Bool) (ns : List Int) (y : Option V), σ = [some (.int c), some (.int n), some (.int r), some (.bl b), some (.ref p), y] ∧ 0 ≤ r ∧ ns.length = i ∧ (∀ x ∈ ns, 0 ≤ x) ∧ H' = upd H p (.lst (ns.map V.int))) ⟨_, _, [], _, rfl, ha, rfl, (fun x hx => nomatch hx), rfl⟩ ?_ ?_⟩
    · rintro i σ H' hi ⟨r, b, ns, y, rfl, r0, hl, hx, rfl⟩
      have hz : (ns.map V.int).length < sizeLine := by rw [List.length_map]; exact small1000 (by omega)
      refine ⟨_, rfl, _, rfl, ite2 (fun e => ?_) (fun e => ?_)⟩
      · refine ⟨_, rfl, _, _, rfl, rfl, _, rfl, ite2 (fun e => ?_) (fun e => ?_)⟩
        · refine ⟨_, rfl, .inl ⟨rfl, _, lstAt upd_same⟩, _, rfl, _, _, rfl, rfl, pz, _, _, _, rfl, rfl, upd_same, hz, ?_⟩
          refine ⟨_, rfl, _, _, rfl, rfl, ⟨by decide, by decide⟩, ?_⟩
          refine ⟨_, b, ns ++ [r % 5040], _, rfl, Int.ediv_nonneg r0 (by decide), by rw [List.length_append, hl]; rfl, ?_, ?_⟩
          · intro x h
            rcases List.mem_append.mp h with h | h
            · exact hx x h
            · cases List.mem_singleton.mp h; exact Int.emod_nonneg _ (by decide)
          · rw [upd_twice, List.map_append]; rfl
        · refine ⟨_, rfl, .inl ⟨rfl, _, lstAt upd_same⟩, _, rfl, _, rfl, _, _, rfl, by omega, by omega, fun z z0 => ⟨_, _, _, rfl, rfl, upd_same, hz, r, b, ns ++ [z], _, rfl, r0, by rw [List.length_append, hl]; rfl, ?_, ?_⟩⟩
          · intro x h
            rcases List.mem_append.mp h with h | h
            · exact hx x h
            · cases List.mem_singleton.mp h; exact z0
          · rw [upd_twice, List.map_append]; rfl
      · refine iteF ?_
        refine ⟨_, rfl, .inl ⟨rfl, _, lstAt upd_same⟩, _, rfl, _, rfl, _, _, rfl, by omega, by omega, fun z z0 => ⟨_, _, _, rfl, rfl, upd_same, hz, r, b, ns ++ [z], _, rfl, r0, by rw [List.length_append, hl]; rfl, ?_, ?_⟩⟩
        · intro x h
          rcases List.mem_append.mp h with h | h
          · exact hx x h
          · cases List.mem_singleton.mp h; exact z0
        · rw [upd_twice, List.map_append]; rfl
    · rintro σ H' ⟨r, b, ns, y, rfl, r0, hl, hx, rfl⟩
      exact ⟨_, rfl, q p ns np (by omega) hx⟩
/-! _law_far -/
def spFar (K : PySem.W.Frag) : Sp := fun vs H Q _ => ∃ (a : Addr) (ns : List Int) (s n : Int), vs = [.ref a, .int s, .int n] ∧ SqL K H a (ns.map V.int) ∧ 0 ≤ s ∧ 0 ≤ n ∧ n ≤ 1000 ∧ s + n ≤ ns.length ∧ ∀ r : Int, 0 ≤ r → Q (.int r) H
theorem ok_L_far {f : Addr} {fd : FuncData} (F : Fun K "_law_far" "_law_far" s_L_far f fd) (m_range : mg "range" = none) (m_int : mg "int" = none) : FnOk P w K mg base CX0 1 f fd ["_law_pool_here", "_law_spot", "_law_number"] (spFar K) := by
  refine F.ok sc_L_far (fun vs H Q E h => ?_) (fun cdv A outer s H vs Q E hr h => ?_)
  · obtain ⟨a, ns, s, n, rfl, _⟩ := h
    rfl
  · obtain ⟨a, ns, s, n, rfl, hS, h0, h1, h2, h3, q⟩ := h
    refine ⟨_, (pss_cons (ps_set (i := 3) sc_L_far.nd rfl (.inl rfl) pe_int)
  (pss_cons (ps_for PassesOwn.never rfl (pi_range1 (by rfl) m_range (pa_cons (pv 2) pa_nil)) (pg_name (i := 4) sc_L_far.nd rfl (.inl rfl))
    (pss_one (ps_set (i := 3) sc_L_far.nd rfl (.inl rfl) (pe_op op_add (pe_op op_mul (pv 3) pe_int) (pe_op op_mod (pe_callTy call_int1 (by rfl) m_int (by decide +kernel) (pa_cons (pe_ix ix_list (pv 0) (pe_op op_add (pv 1) (pv 4)) (fun _ _ => rfl)) pa_nil)) pe_int)))))
  (pss_one (ps_ret (pv 3))))), ?_⟩
    refine ⟨_, rfl, _, rfl, by omega, by omega, for_range (fun i σ H' => H' = H ∧ ∃ (r : Int) (y : Option V), σ = [some (.ref a), some (.int s), some (.int n), some (.int r), y] ∧ 0 ≤ r) ⟨rfl, _, _, rfl, by decide⟩ ?_ ?_⟩
    · rintro i σ H' hi ⟨rfl, r, y, rfl, r0⟩
      refine ⟨_, rfl, _, _, rfl, rfl, .inr (by decide), _, rfl, _, rfl, _, rfl, _, _, rfl, rfl, _, _, _, _, rfl, rfl, hS, get_int (by omega) (by omega), .inl ⟨_, rfl, _, _, rfl, rfl, pz, _, _, rfl, rfl, rfl, _, _, rfl, ?_⟩⟩
      exact Int.add_nonneg (Int.mul_nonneg r0 (by decide)) (Int.emod_nonneg _ (by decide))
    · rintro σ H' ⟨rfl, r, y, rfl, r0⟩
      exact ⟨_, rfl, q _ r0⟩
/-! _law_chosen: from 0 to the crest -/
def spChosen (K : PySem.W.Frag) : Sp := fun vs H Q _ => ∃ (a : Addr) (ns : List Int) (s u z c wh : Int), vs = [.ref a, .int s, .int u, .int z, .int c, .int wh] ∧ SqL K H a (ns.map V.int) ∧ 0 ≤ s ∧ s < ns.length ∧ 0 < u ∧ u < 1000 ∧ 0 < z ∧ z ≤ c ∧ ∀ r : Int, 0 ≤ r → r ≤ c → Q (.int r) H
theorem ok_L_chosen {f : Addr} {fd : FuncData} (F : Fun K "_law_chosen" "_law_chosen" s_L_chosen f fd) (m_int : mg "int" = none) (d_L_part : Def P w K mg base "_law_part" 1 ["_law_pool_here", "_law_spot", "_law_under", "_law_size"] (spPart K)) : FnOk P w K mg base CX0 2 f fd ["_law_pool_here", "_law_spot", "_law_under", "_law_small", "_law_crest", "_law_whole"] (spChosen K) := by
  refine F.ok sc_L_chosen (fun vs H Q E h => ?_) (fun cdv A outer s H vs Q E hr h => ?_)
  · obtain ⟨a, ns, s, u, z, c, wh, rfl, _⟩ := h
    rfl
  · obtain ⟨a, ns, s, u, z, c, wh, rfl, hS, h0, h1, h2, h3, h4, h5, q⟩ := h
    refine ⟨_, (pss_cons (ps_set (i := 6) sc_L_chosen.nd rfl (.inl rfl) (pe_callD d_L_part (hr.mono (by decide)) (by rfl) (pa_cons (pv 0) (pa_cons (pv 1) (pa_cons (pv 2) (pa_cons pe_int pa_nil))))))
  (pss_cons (ps_set (i := 7) sc_L_chosen.nd rfl (.inl rfl) (pe_callD d_L_part (hr.mono (by decide)) (by rfl) (pa_cons (pv 0) (pa_cons (pv 1) (pa_cons (pe_op op_mul pe_int (pv 2)) (pa_cons (pv 3) pa_nil))))))
  (pss_cons (ps_if (pt_cmpR op_eq (pv 6) pe_int (nomark _)) (pss_one (ps_ret (pe_op op_sub (pv 4) (pv 7)))) pss_nil)
  (pss_cons (ps_if (pt_cmpR op_eq (pv 6) pe_int (nomark _)) (pss_one (ps_ret (pe_op op_mod (pe_callTy call_int1 (by rfl) m_int (by decide +kernel) (pa_cons (pv 5) pa_nil)) (pe_op op_add (pv 4) pe_int)))) pss_nil)
  (pss_one (ps_ret (pv 7))))))), ?_⟩
    refine ⟨_, rfl, _, rfl, _, rfl, _, _, _, _, _, rfl, hS, h0, h1, h2, by omega, by decide, ?_⟩
    refine ⟨_, rfl, _, rfl, _, rfl, _, _, rfl, rfl, .inl (by decide), _, rfl, _, _, _, _, _, rfl, hS, h0, h1, by omega, by omega, h4, ?_⟩
    have p0 := part_lo (ns := ns) (s := s) (u := 10 * u) h4
    have p1 := part_hi (ns := ns) (s := s) (u := 10 * u) h4
    refine ⟨_, rfl, rfl, _, rfl, ite2 (fun e => ?_) (fun e => ?_)⟩
    · exact ⟨_, rfl, _, rfl, _, _, rfl, rfl, q _ (by omega) (by omega)⟩
    · refine ⟨_, rfl, rfl, _, rfl, ite2 (fun e => ?_) (fun e => ?_)⟩
      · refine ⟨_, rfl, .inl ⟨_, rfl, _, rfl, _, _, rfl, rfl, _, _, rfl, rfl, show (0 : Int) < c + 1 by omega, q _ (Int.emod_nonneg _ (by omega)) ?_⟩⟩
        have := Int.emod_lt_of_pos wh (show (0 : Int) < c + 1 by omega)
        omega
      · exact ⟨_, rfl, q _ p0 (by omega)⟩
end
end TK

namespace TK
open PySem PySem.Spec PyProof.Rows L2
section
variable {P : Program} {w : World} {K : PySem.W.Frag} {mg : Str → Option Value} {base : Heap}
/-! _law_integer: of an int -/
def spInteger : Sp := fun vs H Q _ => ∃ i : Int, vs = [.int i] ∧ Q (.bl true) H
theorem ok_L_integer {f : Addr} {fd : FuncData} (F : Fun K "_law_integer" "_law_integer" s_L_integer f fd) (m_isinstance : mg "isinstance" = none) (m_int : mg "int" = none) (m_bool : mg "bool" = none) :
    FnOk P w K mg base CX0 1 f fd ["_law_got"] spInteger := by
  refine F.ok sc_L_integer (fun vs H Q E h => ?_) (fun cdv A outer s H vs Q E hr h => ?_)
  · obtain ⟨i, rfl, _⟩ := h
    rfl
  · obtain ⟨i, rfl, q⟩ := h
    refine ⟨_, (pss_one (ps_ret (pe_and (pe_callB call_isi (by rfl) m_isinstance (by decide +kernel) (pa_cons (pv 0) (pa_cons (pe_bltn (v := .ty "int") (u := .type "int") (by rfl) m_int (by decide +kernel) rfl) pa_nil))) (pe_one (pe_not (pe_callB call_isi (by rfl) m_isinstance (by decide +kernel) (pa_cons (pv 0) (pa_cons (pe_bltn (v := .ty "bool") (u := .type "bool") (by rfl) m_bool (by decide +kernel) rfl) pa_nil)))))))), ?_⟩
    refine ⟨_, rfl, _, _, _, _, true, rfl, .ty "int", .base (.int i), rfl, _, rfl, iteT ?_⟩
    refine ⟨_, rfl, _, _, _, _, false, rfl, .ty "bool", .base (.int i), rfl, _, rfl, ?_⟩
    exact q
end
end TK

namespace TK
open PySem PySem.Spec PyProof.Rows L2
/-! ### the same data, down to a depth -/
def flat1 : V → Bool
  | .non => true | .bl _ => true | .int _ => true | .str _ => true | _ => false
/-- a tuple, known to the object or not -/
def TL (H : Hp) (a : Addr) (xs : List V) : Prop := H a = some (.tup xs) ∨ ∃ o, H a = some (.frz o (.tup xs))
theorem TL.ty {K : PySem.W.Frag} {H : Hp} {a : Addr} {xs : List V} (h : TL H a xs) : TyX K H (.ref a) (.type "tuple") := by
  rcases h with h | ⟨o, h⟩
  · exact .base (.tup h)
  · exact .fTuple h
theorem TL.sq {K : PySem.W.Frag} {H : Hp} {a : Addr} {xs : List V} (h : TL H a xs) : SqT K H a xs := .inl (h.elim .inl .inr)
def Eq2 (H : Hp) : Nat → V → V → Prop
  | 0, x, y => x = y ∧ flat1 x = true
  | n + 1, x, y => (x = y ∧ flat1 x = true) ∨ ∃ (a b : Addr) (xs ys : List V), x = .ref a ∧ y = .ref b ∧ ((H a = some (.lst xs) ∧ H b = some (.lst ys)) ∨ (TL H a xs ∧ TL H b ys)) ∧ xs.length = ys.length ∧ xs.length < 2 ^ 40 ∧
      ∀ (i : Nat) (x y : V), xs[i]? = some x → ys[i]? = some y → Eq2 H n x y
theorem bint {z : V} {H : Hp} {Q : VK} (h : z = .bl true) (q : Q (.bl true) H) : Q z H := h ▸ q
section
variable {P : Program} {w : World} {K : PySem.W.Frag} {mg : Str → Option Value} {base : Heap}
def spSame (n : Nat) : Sp := fun vs H Q _ => ∃ x y, vs = [x, y] ∧ Eq2 H n x y ∧ Q (.bl true) H
theorem same_tail {x y : V} {H : Hp} (ex : x = y) (fx : flat1 x = true) : (x = .non ∧ y = .non) ∨ (∃ b, x = .bl b ∧ y = .bl b) ∨ (∃ i, x = .int i ∧ y = .int i) ∨ ∃ z, x = .str z ∧ y = .str z := by
  subst ex
  cases x with
  | non => exact .inl ⟨rfl, rfl⟩
  | bl b => exact .inr (.inl ⟨b, rfl, rfl⟩)
  | int i => exact .inr (.inr (.inl ⟨i, rfl, rfl⟩))
  | str z => exact .inr (.inr (.inr ⟨z, rfl, rfl⟩))
  | byt _ => cases fx
  | flt _ => cases fx
  | ref _ => cases fx
  | ty _ => cases fx
structure SameTx (K : PySem.W.Frag) (mg : Str → Option Value) : Prop where
  m_isinstance : mg "isinstance" = none
  m_int : mg "int" = none
  m_bool : mg "bool" = none
  m_str : mg "str" = none
  m_tuple : mg "tuple" = none
  m_list : mg "list" = none
  m_len : mg "len" = none
  m_range : mg "range" = none
theorem ok_L_same {f : Addr} {fd : FuncData} (F : Fun K "_law_same" "_law_same" s_L_same f fd) (g : mg "_law_same" = some (.ref f)) (b : Binds K fd ["_law_got", "_law_wanted"] []) (T : SameTx K mg) (d_L_integer : Def P w K mg base "_law_integer" 1 ["_law_got"] spInteger) :
    ∀ n : Nat, n ≤ 10 → FnOk P w K mg base CX0 (n + 2) f fd ["_law_got", "_law_wanted"] (spSame n) := by
  obtain ⟨m_isinstance, m_int, m_bool, m_str, m_tuple, m_list, m_len, m_range⟩ := T
  intro n
  induction n with
  | zero =>
    intro _
    refine F.ok sc_L_same (fun vs H Q E h => ?_) (fun cdv A outer s H vs Q E hr h => ?_)
    · obtain ⟨x, y, rfl, _⟩ := h
      rfl
    · obtain ⟨x, y, rfl, ⟨ex, fx⟩, q⟩ := h
      refine ⟨_, (pss_cons (ps_if (pt_cmpR op_isN (pv 1) pe_non (nomark _)) (pss_one (ps_ret (pe_cmpR op_isN (pv 0) pe_non (nomark _)))) pss_nil)
  (pss_cons (ps_if (pt_cmpR op_isT (pv 1) pe_bl (nomark _)) (pss_one (ps_ret (pe_cmpR op_isT (pv 0) pe_bl (nomark _)))) pss_nil)
  (pss_cons (ps_if (pt_cmpR op_isT (pv 1) pe_bl (nomark _)) (pss_one (ps_ret (pe_cmpR op_isT (pv 0) pe_bl (nomark _)))) pss_nil)
  (pss_cons (ps_if (pt_val (pe_callB call_isi (by rfl) m_isinstance (by decide +kernel) (pa_cons (pv 1) (pa_cons (pe_bltn (v := .ty "int") (u := .type "int") (by rfl) m_int (by decide +kernel) rfl) pa_nil)))) (pss_one (ps_ret (pe_and (pe_callD d_L_integer (hr.mono (by omega)) (by rfl) (pa_cons (pv 0) pa_nil)) (pe_one (pe_cmpR op_eq (pv 0) (pv 1) (nomark _)))))) pss_nil)
  (pss_cons (ps_if (pt_val (pe_callB call_isi (by rfl) m_isinstance (by decide +kernel) (pa_cons (pv 1) (pa_cons (pe_bltn (v := .ty "str") (u := .type "str") (by rfl) m_str (by decide +kernel) rfl) pa_nil)))) (pss_one (ps_ret (pe_and (pe_callB call_isi (by rfl) m_isinstance (by decide +kernel) (pa_cons (pv 0) (pa_cons (pe_bltn (v := .ty "str") (u := .type "str") (by rfl) m_str (by decide +kernel) rfl) pa_nil))) (pe_one (pe_cmpR op_eq (pv 0) (pv 1) (nomark _)))))) pss_nil)
  (pss_cons (ps_if (PW.pt (pw_and (pt_val (pe_callB call_isi (by rfl) m_isinstance (by decide +kernel) (pa_cons (pv 1) (pa_cons (pe_bltn (v := .ty "tuple") (u := .type "tuple") (by rfl) m_tuple (by decide +kernel) rfl) pa_nil)))) (pw_and1 (pt_not (pt_val (pe_callB call_isi (by rfl) m_isinstance (by decide +kernel) (pa_cons (pv 0) (pa_cons (pe_bltn (v := .ty "tuple") (u := .type "tuple") (by rfl) m_tuple (by decide +kernel) rfl) pa_nil)))))))) (pss_one (ps_ret pe_bl)) pss_nil)
  (pss_cons (ps_if (PW.pt (pw_and (pt_val (pe_callB call_isi (by rfl) m_isinstance (by decide +kernel) (pa_cons (pv 1) (pa_cons (pe_bltn (v := .ty "list") (u := .type "list") (by rfl) m_list (by decide +kernel) rfl) pa_nil)))) (pw_and1 (pt_not (pt_val (pe_callB call_isi (by rfl) m_isinstance (by decide +kernel) (pa_cons (pv 0) (pa_cons (pe_bltn (v := .ty "list") (u := .type "list") (by rfl) m_list (by decide +kernel) rfl) pa_nil)))))))) (pss_one (ps_ret pe_bl)) pss_nil)
  (pss_cons (ps_if (pt_cmpR op_ne (pe_callB call_len_seq (by rfl) m_len (by decide +kernel) (pa_cons (pv 0) pa_nil)) (pe_callB call_len_seq (by rfl) m_len (by decide +kernel) (pa_cons (pv 1) pa_nil)) (nomark _)) (pss_one (ps_ret pe_bl)) pss_nil)
  (pss_cons ps_never (pss_one ps_never)))))))))), ?_⟩
      rcases same_tail (H := H) ex fx with ⟨rfl, rfl⟩ | ⟨b, rfl, rfl⟩ | ⟨i, rfl, rfl⟩ | ⟨z, rfl, rfl⟩
      · exact ⟨_, rfl, rfl, _, rfl, iteT ⟨_, rfl, rfl, q⟩⟩
      · refine ⟨_, rfl, rfl, _, rfl, iteF ⟨_, rfl, _, rfl, _, rfl, ?_⟩⟩
        cases b with
        | true => exact iteT ⟨_, rfl, _, rfl, q⟩
        | false => exact iteF ⟨_, rfl, _, rfl, _, rfl, iteT ⟨_, rfl, _, rfl, q⟩⟩
      · refine ⟨_, rfl, rfl, _, rfl, iteF ⟨_, rfl, _, rfl, _, rfl, iteF ⟨_, rfl, _, rfl, _, rfl, iteF ?_⟩⟩⟩
        refine ⟨_, rfl, _, _, _, _, true, rfl, .ty "int", .base (.int i), rfl, _, rfl, iteT ?_⟩
        refine ⟨_, rfl, i, rfl, _, rfl, iteT ⟨_, rfl, _, rfl, rfl, ?_⟩⟩
        exact bint (congrArg V.bl (decide_eq_true rfl)) q
      · refine ⟨_, rfl, rfl, _, rfl, iteF ⟨_, rfl, _, rfl, _, rfl, iteF ⟨_, rfl, _, rfl, _, rfl, iteF ?_⟩⟩⟩
        refine ⟨_, rfl, _, _, _, _, false, rfl, .ty "int", .base (.str z), rfl, _, rfl, iteF ?_⟩
        refine ⟨_, rfl, _, _, _, _, true, rfl, .ty "str", .base (.str z), rfl, _, rfl, iteT ?_⟩
        refine ⟨_, rfl, _, _, _, _, true, rfl, .ty "str", .base (.str z), rfl, _, rfl, iteT ⟨_, rfl, _, rfl, rfl, ?_⟩⟩
        exact bint (congrArg V.bl (decide_eq_true rfl)) q
  | succ n ih =>
    intro hn
    have d_L_same : Def P w K mg base "_law_same" (n + 2) ["_law_got", "_law_wanted"] (spSame n) := ⟨_, _, ih (by omega), g, F.kp, b⟩
    refine F.ok sc_L_same (fun vs H Q E h => ?_) (fun cdv A outer s H vs Q E hr h => ?_)
    · obtain ⟨x, y, rfl, _⟩ := h
      rfl
    · obtain ⟨x, y, rfl, hE, q⟩ := h
      rcases hE with ⟨ex, fx⟩ | ⟨a, c, xs, ys, rfl, rfl, hk, hl, hz, hi⟩
      · refine ⟨_, (pss_cons (ps_if (pt_cmpR op_isN (pv 1) pe_non (nomark _)) (pss_one (ps_ret (pe_cmpR op_isN (pv 0) pe_non (nomark _)))) pss_nil)
  (pss_cons (ps_if (pt_cmpR op_isT (pv 1) pe_bl (nomark _)) (pss_one (ps_ret (pe_cmpR op_isT (pv 0) pe_bl (nomark _)))) pss_nil)
  (pss_cons (ps_if (pt_cmpR op_isT (pv 1) pe_bl (nomark _)) (pss_one (ps_ret (pe_cmpR op_isT (pv 0) pe_bl (nomark _)))) pss_nil)
  (pss_cons (ps_if (pt_val (pe_callB call_isi (by rfl) m_isinstance (by decide +kernel) (pa_cons (pv 1) (pa_cons (pe_bltn (v := .ty "int") (u := .type "int") (by rfl) m_int (by decide +kernel) rfl) pa_nil)))) (pss_one (ps_ret (pe_and (pe_callD d_L_integer (hr.mono (by omega)) (by rfl) (pa_cons (pv 0) pa_nil)) (pe_one (pe_cmpR op_eq (pv 0) (pv 1) (nomark _)))))) pss_nil)
  (pss_cons (ps_if (pt_val (pe_callB call_isi (by rfl) m_isinstance (by decide +kernel) (pa_cons (pv 1) (pa_cons (pe_bltn (v := .ty "str") (u := .type "str") (by rfl) m_str (by decide +kernel) rfl) pa_nil)))) (pss_one (ps_ret (pe_and (pe_callB call_isi (by rfl) m_isinstance (by decide +kernel) (pa_cons (pv 0) (pa_cons (pe_bltn (v := .ty "str") (u := .type "str") (by rfl) m_str (by decide +kernel) rfl) pa_nil))) (pe_one (pe_cmpR op_eq (pv 0) (pv 1) (nomark _)))))) pss_nil)
  (pss_cons (ps_if (PW.pt (pw_and (pt_val (pe_callB call_isi (by rfl) m_isinstance (by decide +kernel) (pa_cons (pv 1) (pa_cons (pe_bltn (v := .ty "tuple") (u := .type "tuple") (by rfl) m_tuple (by decide +kernel) rfl) pa_nil)))) (pw_and1 (pt_not (pt_val (pe_callB call_isi (by rfl) m_isinstance (by decide +kernel) (pa_cons (pv 0) (pa_cons (pe_bltn (v := .ty "tuple") (u := .type "tuple") (by rfl) m_tuple (by decide +kernel) rfl) pa_nil)))))))) (pss_one (ps_ret pe_bl)) pss_nil)
  (pss_cons (ps_if (PW.pt (pw_and (pt_val (pe_callB call_isi (by rfl) m_isinstance (by decide +kernel) (pa_cons (pv 1) (pa_cons (pe_bltn (v := .ty "list") (u := .type "list") (by rfl) m_list (by decide +kernel) rfl) pa_nil)))) (pw_and1 (pt_not (pt_val (pe_callB call_isi (by rfl) m_isinstance (by decide +kernel) (pa_cons (pv 0) (pa_cons (pe_bltn (v := .ty "list") (u := .type "list") (by rfl) m_list (by decide +kernel) rfl) pa_nil)))))))) (pss_one (ps_ret pe_bl)) pss_nil)
  (pss_cons (ps_if (pt_cmpR op_ne (pe_callB call_len_seq (by rfl) m_len (by decide +kernel) (pa_cons (pv 0) pa_nil)) (pe_callB call_len_seq (by rfl) m_len (by decide +kernel) (pa_cons (pv 1) pa_nil)) (nomark _)) (pss_one (ps_ret pe_bl)) pss_nil)
  (pss_cons ps_never (pss_one ps_never)))))))))), ?_⟩
        rcases same_tail (H := H) ex fx with ⟨rfl, rfl⟩ | ⟨b, rfl, rfl⟩ | ⟨i, rfl, rfl⟩ | ⟨z, rfl, rfl⟩
        · exact ⟨_, rfl, rfl, _, rfl, iteT ⟨_, rfl, rfl, q⟩⟩
        · refine ⟨_, rfl, rfl, _, rfl, iteF ⟨_, rfl, _, rfl, _, rfl, ?_⟩⟩
          cases b with
          | true => exact iteT ⟨_, rfl, _, rfl, q⟩
          | false => exact iteF ⟨_, rfl, _, rfl, _, rfl, iteT ⟨_, rfl, _, rfl, q⟩⟩
        · refine ⟨_, rfl, rfl, _, rfl, iteF ⟨_, rfl, _, rfl, _, rfl, iteF ⟨_, rfl, _, rfl, _, rfl, iteF ?_⟩⟩⟩
          refine ⟨_, rfl, _, _, _, _, true, rfl, .ty "int", .base (.int i), rfl, _, rfl, iteT ?_⟩
          refine ⟨_, rfl, i, rfl, _, rfl, iteT ⟨_, rfl, _, rfl, rfl, ?_⟩⟩
          exact bint (congrArg V.bl (decide_eq_true rfl)) q
        · refine ⟨_, rfl, rfl, _, rfl, iteF ⟨_, rfl, _, rfl, _, rfl, iteF ⟨_, rfl, _, rfl, _, rfl, iteF ?_⟩⟩⟩
          refine ⟨_, rfl, _, _, _, _, false, rfl, .ty "int", .base (.str z), rfl, _, rfl, iteF ?_⟩
          refine ⟨_, rfl, _, _, _, _, true, rfl, .ty "str", .base (.str z), rfl, _, rfl, iteT ?_⟩
          refine ⟨_, rfl, _, _, _, _, true, rfl, .ty "str", .base (.str z), rfl, _, rfl, iteT ⟨_, rfl, _, rfl, rfl, ?_⟩⟩
          exact bint (congrArg V.bl (decide_eq_true rfl)) q
      · have step : ∀ (i : Nat) (hi1 : i < ys.length), ∃ x y, atI xs (0 + (i : Int)) = some x ∧ atI ys (0 + (i : Int)) = some y ∧ Eq2 H n x y := by
          intro i h1
          have h2 : i < xs.length := by omega
          refine ⟨xs[i], ys[i], ?_, ?_, hi i _ _ (List.getElem?_eq_getElem h2) (List.getElem?_eq_getElem h1)⟩
          · exact atI_in (by omega) (by rw [show (0 + (i : Int)).toNat = i by omega]; exact List.getElem?_eq_getElem h2)
          · exact atI_in (by omega) (by rw [show (0 + (i : Int)).toNat = i by omega]; exact List.getElem?_eq_getElem h1)
        rcases hk with ⟨ha, hc⟩ | ⟨ha, hc⟩
        · refine ⟨_, (pss_cons (ps_if (pt_cmpR op_isN (pv 1) pe_non (nomark _)) (pss_one (ps_ret (pe_cmpR op_isN (pv 0) pe_non (nomark _)))) pss_nil)
  (pss_cons (ps_if (pt_cmpR op_isT (pv 1) pe_bl (nomark _)) (pss_one (ps_ret (pe_cmpR op_isT (pv 0) pe_bl (nomark _)))) pss_nil)
  (pss_cons (ps_if (pt_cmpR op_isT (pv 1) pe_bl (nomark _)) (pss_one (ps_ret (pe_cmpR op_isT (pv 0) pe_bl (nomark _)))) pss_nil)
  (pss_cons (ps_if (pt_val (pe_callB call_isi (by rfl) m_isinstance (by decide +kernel) (pa_cons (pv 1) (pa_cons (pe_bltn (v := .ty "int") (u := .type "int") (by rfl) m_int (by decide +kernel) rfl) pa_nil)))) (pss_one (ps_ret (pe_and (pe_callD d_L_integer (hr.mono (by omega)) (by rfl) (pa_cons (pv 0) pa_nil)) (pe_one (pe_cmpR op_eq (pv 0) (pv 1) (nomark _)))))) pss_nil)
  (pss_cons (ps_if (pt_val (pe_callB call_isi (by rfl) m_isinstance (by decide +kernel) (pa_cons (pv 1) (pa_cons (pe_bltn (v := .ty "str") (u := .type "str") (by rfl) m_str (by decide +kernel) rfl) pa_nil)))) (pss_one (ps_ret (pe_and (pe_callB call_isi (by rfl) m_isinstance (by decide +kernel) (pa_cons (pv 0) (pa_cons (pe_bltn (v := .ty "str") (u := .type "str") (by rfl) m_str (by decide +kernel) rfl) pa_nil))) (pe_one (pe_cmpR op_eq (pv 0) (pv 1) (nomark _)))))) pss_nil)
  (pss_cons (ps_if (PW.pt (pw_and (pt_val (pe_callB call_isi (by rfl) m_isinstance (by decide +kernel) (pa_cons (pv 1) (pa_cons (pe_bltn (v := .ty "tuple") (u := .type "tuple") (by rfl) m_tuple (by decide +kernel) rfl) pa_nil)))) (pw_and1 (pt_not (pt_val (pe_callB call_isi (by rfl) m_isinstance (by decide +kernel) (pa_cons (pv 0) (pa_cons (pe_bltn (v := .ty "tuple") (u := .type "tuple") (by rfl) m_tuple (by decide +kernel) rfl) pa_nil)))))))) (pss_one (ps_ret pe_bl)) pss_nil)
  (pss_cons (ps_if (PW.pt (pw_and (pt_val (pe_callB call_isi (by rfl) m_isinstance (by decide +kernel) (pa_cons (pv 1) (pa_cons (pe_bltn (v := .ty "list") (u := .type "list") (by rfl) m_list (by decide +kernel) rfl) pa_nil)))) (pw_and1 (pt_not (pt_val (pe_callB call_isi (by rfl) m_isinstance (by decide +kernel) (pa_cons (pv 0) (pa_cons (pe_bltn (v := .ty "list") (u := .type "list") (by rfl) m_list (by decide +kernel) rfl) pa_nil)))))))) (pss_one (ps_ret pe_bl)) pss_nil)
  (pss_cons (ps_if (pt_cmpR op_ne (pe_callB call_len_seq (by rfl) m_len (by decide +kernel) (pa_cons (pv 0) pa_nil)) (pe_callB call_len_seq (by rfl) m_len (by decide +kernel) (pa_cons (pv 1) pa_nil)) (nomark _)) (pss_one (ps_ret pe_bl)) pss_nil)
  (pss_cons (ps_for PassesOwn.never rfl (pi_range1 (by rfl) m_range (pa_cons (pe_callB call_len_seq (by rfl) m_len (by decide +kernel) (pa_cons (pv 1) pa_nil)) pa_nil)) (pg_name (i := 2) sc_L_same.nd rfl (.inl rfl))
    (pss_one (ps_if (pt_not (pt_val (pe_callD d_L_same (hr.mono (by omega)) (by rfl) (pa_cons (pe_ix ix_list (pv 0) (pv 2) (fun _ _ => rfl)) (pa_cons (pe_ix ix_list (pv 1) (pv 2) (fun _ _ => rfl)) pa_nil))))) (pss_one (ps_ret pe_bl)) pss_nil)))
  (pss_one (ps_ret pe_bl))))))))))), ?_⟩
          refine ⟨_, rfl, rfl, _, rfl, iteF ⟨_, rfl, _, rfl, _, rfl, iteF ⟨_, rfl, _, rfl, _, rfl, iteF ?_⟩⟩⟩
          refine ⟨_, rfl, _, _, _, _, false, rfl, .ty "int", .base (.lst hc), rfl, _, rfl, iteF ?_⟩
          refine ⟨_, rfl, _, _, _, _, false, rfl, .ty "str", .base (.lst hc), rfl, _, rfl, iteF ?_⟩
          refine ⟨_, rfl, _, _, _, _, false, rfl, .ty "tuple", .base (.lst hc), rfl, _, rfl, iteF (iteF ?_)⟩
          refine ⟨_, rfl, _, _, _, _, true, rfl, .ty "list", .base (.lst hc), rfl, _, rfl, iteT ⟨_, rfl, _, _, _, _, true, rfl, .ty "list", .base (.lst ha), rfl, _, rfl, iteF ?_⟩⟩
          refine ⟨_, rfl, _, _, rfl, .inl (lstAt ha), _, rfl, _, _, rfl, .inl (lstAt hc), rfl, _, rfl, ?_⟩
          refine iteNS (congrArg (fun k : Nat => V.int (k : Int)) hl) ?_
          refine ⟨_, rfl, _, _, rfl, .inl (lstAt hc), _, rfl, by omega, by omega, for_range (fun i σ H' => H' = H ∧ ∃ y : Option V, σ = [some (.ref a), some (.ref c), y]) ⟨rfl, _, rfl⟩ ?_ ?_⟩
          · rintro i σ H' hlt ⟨rfl, y, rfl⟩
            obtain ⟨x1, y1, e1, e2, e3⟩ := step i (by omega)
            refine ⟨_, rfl, _, rfl, _, _, _, _, rfl, rfl, lstAt ha, e1, _, rfl, _, rfl, _, _, _, _, rfl, rfl, lstAt hc, e2, x1, y1, rfl, e3, _, rfl, iteF ⟨rfl, _, rfl⟩⟩
          · rintro σ H' ⟨rfl, y, rfl⟩
            exact q
        · refine ⟨_, (pss_cons (ps_if (pt_cmpR op_isN (pv 1) pe_non (nomark _)) (pss_one (ps_ret (pe_cmpR op_isN (pv 0) pe_non (nomark _)))) pss_nil)
  (pss_cons (ps_if (pt_cmpR op_isT (pv 1) pe_bl (nomark _)) (pss_one (ps_ret (pe_cmpR op_isT (pv 0) pe_bl (nomark _)))) pss_nil)
  (pss_cons (ps_if (pt_cmpR op_isT (pv 1) pe_bl (nomark _)) (pss_one (ps_ret (pe_cmpR op_isT (pv 0) pe_bl (nomark _)))) pss_nil)
  (pss_cons (ps_if (pt_val (pe_callB call_isi (by rfl) m_isinstance (by decide +kernel) (pa_cons (pv 1) (pa_cons (pe_bltn (v := .ty "int") (u := .type "int") (by rfl) m_int (by decide +kernel) rfl) pa_nil)))) (pss_one (ps_ret (pe_and (pe_callD d_L_integer (hr.mono (by omega)) (by rfl) (pa_cons (pv 0) pa_nil)) (pe_one (pe_cmpR op_eq (pv 0) (pv 1) (nomark _)))))) pss_nil)
  (pss_cons (ps_if (pt_val (pe_callB call_isi (by rfl) m_isinstance (by decide +kernel) (pa_cons (pv 1) (pa_cons (pe_bltn (v := .ty "str") (u := .type "str") (by rfl) m_str (by decide +kernel) rfl) pa_nil)))) (pss_one (ps_ret (pe_and (pe_callB call_isi (by rfl) m_isinstance (by decide +kernel) (pa_cons (pv 0) (pa_cons (pe_bltn (v := .ty "str") (u := .type "str") (by rfl) m_str (by decide +kernel) rfl) pa_nil))) (pe_one (pe_cmpR op_eq (pv 0) (pv 1) (nomark _)))))) pss_nil)
  (pss_cons (ps_if (PW.pt (pw_and (pt_val (pe_callB call_isi (by rfl) m_isinstance (by decide +kernel) (pa_cons (pv 1) (pa_cons (pe_bltn (v := .ty "tuple") (u := .type "tuple") (by rfl) m_tuple (by decide +kernel) rfl) pa_nil)))) (pw_and1 (pt_not (pt_val (pe_callB call_isi (by rfl) m_isinstance (by decide +kernel) (pa_cons (pv 0) (pa_cons (pe_bltn (v := .ty "tuple") (u := .type "tuple") (by rfl) m_tuple (by decide +kernel) rfl) pa_nil)))))))) (pss_one (ps_ret pe_bl)) pss_nil)
  (pss_cons (ps_if (PW.pt (pw_and (pt_val (pe_callB call_isi (by rfl) m_isinstance (by decide +kernel) (pa_cons (pv 1) (pa_cons (pe_bltn (v := .ty "list") (u := .type "list") (by rfl) m_list (by decide +kernel) rfl) pa_nil)))) (pw_and1 (pt_not (pt_val (pe_callB call_isi (by rfl) m_isinstance (by decide +kernel) (pa_cons (pv 0) (pa_cons (pe_bltn (v := .ty "list") (u := .type "list") (by rfl) m_list (by decide +kernel) rfl) pa_nil)))))))) (pss_one (ps_ret pe_bl)) pss_nil)
  (pss_cons (ps_if (pt_cmpR op_ne (pe_callB call_len_seq (by rfl) m_len (by decide +kernel) (pa_cons (pv 0) pa_nil)) (pe_callB call_len_seq (by rfl) m_len (by decide +kernel) (pa_cons (pv 1) pa_nil)) (nomark _)) (pss_one (ps_ret pe_bl)) pss_nil)
  (pss_cons (ps_for PassesOwn.never rfl (pi_range1 (by rfl) m_range (pa_cons (pe_callB call_len_seq (by rfl) m_len (by decide +kernel) (pa_cons (pv 1) pa_nil)) pa_nil)) (pg_name (i := 2) sc_L_same.nd rfl (.inl rfl))
    (pss_one (ps_if (pt_not (pt_val (pe_callD d_L_same (hr.mono (by omega)) (by rfl) (pa_cons (pe_ix ix_tup (pv 0) (pv 2) (fun _ _ => rfl)) (pa_cons (pe_ix ix_tup (pv 1) (pv 2) (fun _ _ => rfl)) pa_nil))))) (pss_one (ps_ret pe_bl)) pss_nil)))
  (pss_one (ps_ret pe_bl))))))))))), ?_⟩
          refine ⟨_, rfl, rfl, _, rfl, iteF ⟨_, rfl, _, rfl, _, rfl, iteF ⟨_, rfl, _, rfl, _, rfl, iteF ?_⟩⟩⟩
          refine ⟨_, rfl, _, _, _, _, false, rfl, .ty "int", hc.ty, rfl, _, rfl, iteF ?_⟩
          refine ⟨_, rfl, _, _, _, _, false, rfl, .ty "str", hc.ty, rfl, _, rfl, iteF ?_⟩
          refine ⟨_, rfl, _, _, _, _, true, rfl, .ty "tuple", hc.ty, rfl, _, rfl, iteT ⟨_, rfl, _, _, _, _, true, rfl, .ty "tuple", ha.ty, rfl, _, rfl, iteF ?_⟩⟩
          refine ⟨_, rfl, _, _, _, _, false, rfl, .ty "list", hc.ty, rfl, _, rfl, iteF (iteF ?_)⟩
          refine ⟨_, rfl, _, _, rfl, .inr (ha.sq), _, rfl, _, _, rfl, .inr (hc.sq), rfl, _, rfl, ?_⟩
          refine iteNS (congrArg (fun k : Nat => V.int (k : Int)) hl) ?_
          refine ⟨_, rfl, _, _, rfl, .inr (hc.sq), _, rfl, by omega, by omega, for_range (fun i σ H' => H' = H ∧ ∃ y : Option V, σ = [some (.ref a), some (.ref c), y]) ⟨rfl, _, rfl⟩ ?_ ?_⟩
          · rintro i σ H' hlt ⟨rfl, y, rfl⟩
            obtain ⟨x1, y1, e1, e2, e3⟩ := step i (by omega)
            refine ⟨_, rfl, _, rfl, _, _, _, _, rfl, rfl, ha.sq, e1, _, rfl, _, rfl, _, _, _, _, rfl, rfl, hc.sq, e2, x1, y1, rfl, e3, _, rfl, iteF ⟨rfl, _, rfl⟩⟩
          · rintro σ H' ⟨rfl, y, rfl⟩
            exact q
end
end TK

namespace TK
open PySem PySem.Spec PyProof.Rows L2
/-- o.m(k = v, ..) of an instance of the class at C -/
def tMethK (C : Addr) (m : Str) (n : Nat) (sp : Sp) (gV : List V → List V → List V) (E : XK) (ta : TE) (tk : TA) : TE := fun σ H Q => ta σ H fun x H1 => ∃ a dx fs, x = .ref a ∧ H1 a = some (.ins C dx fs) ∧ fs.lookup m = none ∧
  tk σ H1 fun zs H2 => zs.length = n ∧ sp (gV [x] zs) H2 Q E
section
variable {X : Cx} {CX : CXT} {k : Nat} {f C : Addr} {fd : FuncData} {ps ks : List Str} {sp : Sp} {E : XK} {m : Str} {pos apos : Pos} {o : Expr} {kws : List Keyword} {ta : TE} {tk : TA} {g : List Value → List Value → List Value} {gV : List V → List V → List V}
theorem run_kb {pins : List (Addr × Obj)} {σ : L2.St} {H : Hp} {s : Shared} {Q : VK} {n : Nat} {us ws : List Value} {vs zs : List V} (F : FnOk X.prog X.w X.K X.mg X.base CX k f fd ps sp) (hr : Room k X.A) (hb : KBn X.K fd ps n ks g gV) (hx : Passes CX X E)
    (I : Inv X pins σ H s) (r : Vals vs us) (rz : Vals zs ws) (l1 : us.length = n) (l2 : ws.length = ks.length) (h : sp (gV vs zs) H Q E) : wpAny (model X.prog X.w) X.A (call (.ref f) us (ks.zip ws)) (EP X pins σ Q) X.xe s := by
  refine wpAny_call (codeAny_mono (F.run X.A X.stack s H ⟨us, ks.zip ws⟩ (g us ws) (gV vs zs) Q E hr I.env0 (hb.to s us ws I.kIn l1 l2) (hb.rel r rz) h) fun r s' hq => ?_)
  cases r with
  | error e => exact hx pins σ H s e s' I hq
  | ok fl =>
    cases fl with
    | ret u => exact I.after hq
    | next => exact False.elim hq
    | brk => exact False.elim hq
    | cont => exact False.elim hq
theorem pe_methK0 {pl : Sem Bool} (he : PE X o ta) (c : Cls X.K C) (hm : Meth X.K C m f) (F : FnOk X.prog X.w X.K X.mg X.base CX k f fd ps sp) (hr : Room k X.A) (hb : KBn X.K fd ps 1 ks g gV) (hx : Passes CX X E) (hkw : PK X kws tk)
    (hall : (backToKw pos (keywordEach kws X.env)).all (·.1.isSome) = true := by rfl) (hks : (backToKw pos (keywordEach kws X.env)).filterMap (·.1) = ks := by rfl)
    (hpl : ((backTo pos (starEach [] X.env)).any (·.1) || (backToKw pos (keywordEach kws X.env)).any (·.1.isNone)) = false := by rfl)
    (ht : eval (.Call (.Attribute o m apos) [] kws pos) X.env = (do
      let ov ← eval o X.env
      standAt apos.atName
      let (f, first) ← holding [ov] (getMethod ov m pl)
      callWith pos f first (backTo pos (starEach [] X.env)) (backToKw pos (keywordEach kws X.env))) := by rfl) :
    PE X (.Call (.Attribute o m apos) [] kws pos) (tMethK C m ks.length sp gV E ta tk) := by
  refine ⟨fun pins s σ H Q I h => ?_⟩
  refine PySem.W.methodCall_KW (pl := pl) (thn (he.run pins s σ H _ I h) fun u s1 ⟨x, H1, I1, rx, a, dx, fs, ex, ea, l, q⟩ => ?_) ht
  subst ex
  obtain rfl : u = Value.ref a := rx
  refine getmeth_ok I1 ea c hm l ?_
  refine PySem.W.callWith_KW0 (first := [.ref a]) (h₀ := X.base) I.ok.mod.kin hm.kp hall ?_ hpl
  refine thn (hkw.run pos pins s1 σ H1 _ I1 q) fun ws s2 ⟨zs, H2, I2, rz, l1, q2⟩ => ⟨I2.kIn, ?_⟩
  rw [hks]
  exact run_kb (us := [.ref a]) (vs := [.ref a]) F hr hb hx I2 (.cons rfl .nil) rz rfl (rz.length.symm.trans l1) q2
end
section
variable {X : Cx} {K : PySem.W.Frag}
theorem call_tuple_ofK (h : X.K = K) : CallR X (.type "tuple") (fun xs H Q => ∃ p ys, xs = [.ref p] ∧ ((SqL K H p ys ∧ ∀ l, H l = none → Q (.ref l) (upd H l (.tup ys))) ∨ (SqT K H p ys ∧ Q (.ref p) H))) := h ▸ call_tuple_of
theorem call_list_ofK (h : X.K = K) : CallR X (.type "list") (fun xs H Q => ∃ p ys, xs = [.ref p] ∧ (SqL K H p ys ∨ SqT K H p ys) ∧ ∀ l, H l = none → Q (.ref l) (upd H l (.lst ys))) := h ▸ call_list_of
end
/-- what is no instance of the class, nor of one below it -/
inductive Odd (K : PySem.W.Frag) (C : Addr) (H : Hp) : V → Prop where
  | non (h : PySem.W.notFirst K C (.type "NoneType") = true) : Odd K C H .non
  | str (z : Str) (h : PySem.W.notFirst K C (.type "str") = true) : Odd K C H (.str z)
  | tup {a : Addr} {xs : List V} (e : H a = some (.tup xs)) (h : PySem.W.notFirst K C (.type "tuple") = true) : Odd K C H (.ref a)
section
variable {X : Cx} {K : PySem.W.Frag} {CX : CXT} {C g : Addr} {n : Nat} {fd : FuncData} {ps : List Str} {sp : Sp} {E : XK} {pins : List (Addr × Obj)} {σ : L2.St} {H : Hp} {s : Shared}
/-- o == y: y of one's own class, or of another kind -/
def rOwnA (K : PySem.W.Frag) (C : Addr) (sp : Sp) (E : XK) : R2 := fun x y H Q => IsIn H x C ∧ (IsIn H y C ∨ Odd K C H y) ∧ sp [x, y] H Q E
theorem odd_looks {x : V} {u : Value} (I : Inv X pins σ H s) (rx : RelV x u) (o : Odd X.K C H x) : ∃ tb, PySem.W.Looks (model X.prog X.w) s.heap (typeOf u) tb ∧ PySem.W.notFirst X.K C tb = true := by
  cases o with
  | non h => cases (show u = Value.none from rx); exact ⟨_, .now, h⟩
  | str z h => obtain ⟨t, q⟩ := (show ∃ t, u = Value.str z t from rx); cases q; exact ⟨_, .now, h⟩
  | @tup a xs ea h =>
    cases (show u = Value.ref a from rx)
    obtain ⟨_, _, _, o, h1, h2, _⟩ := (show ObjOk X.prog X.w H s.heap a (.tup xs) from I.hok a _ ea)
    exact ⟨_, h2 ▸ (PySem.W.Looks.ld h1).andThen .now, h⟩
theorem op_ownEqA {op : CmpOp} (hK : X.K = K) (hop : ∀ a b, compareOp op a b = richCompare op a b) (c : Own X.K C (cmpInfo op).2.1 g) (F : FnOk X.prog X.w X.K X.mg X.base CX n g fd ps sp) (hr : Room n X.A) (hb : Binds X.K fd ps []) (hx : Passes CX X E) :
    OpR X (compareOp op) (rOwnA K C sp E) := by
  subst hK
  intro pins s σ H x y v u Q I rx ry h
  obtain ⟨⟨a, dx, fs, rfl, ha⟩, hy, q⟩ := h
  cases rx
  obtain ⟨ox, od, J⟩ := own_at I ha
  obtain ⟨m, hF⟩ := I.fr
  rw [hop]
  have key : ∃ tb, PySem.W.Looks (model X.prog X.w) s.heap (typeOf u) tb ∧ PySem.W.notFirst X.K C tb = true := by
    rcases hy with ⟨b, dy, gs, rfl, hb'⟩ | o
    · cases ry
      obtain ⟨ox', od', J'⟩ := own_at I hb'
      exact ⟨_, J'.type, by simp [PySem.W.notFirst]⟩
    · exact odd_looks I ry o
  obtain ⟨tb, L, nf⟩ := key
  refine PySem.W.cmp_K (op := op) (tb := tb) hr.units0 hF I.ok.mod.kin J L nf c.at_ c.fn (wpAny_mono (run_own F hr I.env0 hb hx I (vs := [.ref a, y]) (.cons rfl (.cons ry .nil)) q) (fun w s' z => ?_) fun _ _ x => x)
  obtain ⟨z', H', I', rz, qz⟩ := z
  exact SlX.cmpback rz ⟨z', H', I', rz, qz⟩
end
end TK

namespace TK
open PySem PySem.Spec PyProof.Rows L2
abbrev s_Guests_init : Stmt := inClass (topS 12) 0
theorem sc_Guests_init : FnScope ["self", "offers", "aside", "offer"] ["self", "offers", "aside"] (defScope s_Guests_init) := ⟨rfl, rfl, rfl, by decide +kernel, rfl, by decide +kernel, by decide +kernel⟩
abbrev s_Guests_eq : Stmt := inClass (topS 12) 1
theorem sc_Guests_eq : FnScope ["self", "other"] ["self", "other"] (defScope s_Guests_eq) := ⟨rfl, rfl, rfl, by decide +kernel, rfl, by decide +kernel, by decide +kernel⟩
abbrev s_Guests_mean : Stmt := inClass (topS 12) 2
theorem sc_Guests_mean : FnScope ["self", "lot", "shown", "top", "bottom", "shared", "number", "charge", "weight", "_"] ["self", "lot"] (defScope s_Guests_mean) := ⟨rfl, rfl, rfl, by decide +kernel, rfl, by decide +kernel, by decide +kernel⟩
theorem putF_len (f : Str) (v : V) : ∀ fs : List (Str × V), (putF f v fs).length ≤ fs.length + 1
  | [] => Nat.le_refl _
  | (g, x) :: r => by
    show (if g = f then _ else _ : List (Str × V)).length ≤ _
    split
    · exact Nat.le_succ _
    · exact Nat.succ_le_succ (putF_len f v r)
def SqS (K : PySem.W.Frag) (H : Hp) (a : Addr) (xs : List V) : Prop := SqL K H a xs ∨ SqT K H a xs
theorem SqS.same {K : PySem.W.Frag} {H H' : Hp} {a : Addr} {xs : List V} (h : SqS K H a xs) (s : Same H H') : SqS K H' a xs := h.elim (fun h => .inl (s.seq h)) (fun h => .inr (same_tup s h))
/-- an offer: a charge and a weight -/
abbrev Off := Int × Int
def tO (o : Off) : HO := .tup [.int o.1, .int o.2]
def OffsAt (H : Hp) (ts : List Addr) (os : List Off) : Prop := ts.length = os.length ∧ ∀ (i : Nat) (t : Addr), ts[i]? = some t → ∃ o, os[i]? = some o ∧ H t = some (tO o)
structure OOk (o : Off) : Prop where
  c0 : 0 ≤ o.1
  c1 : o.1 ≤ 1000000
  w0 : 1 ≤ o.2
  w1 : o.2 ≤ 1000
def OffsOk (os : List Off) : Prop := ∀ o ∈ os, OOk o
theorem OffsAt.same {H H' : Hp} {ts : List Addr} {os : List Off} (h : OffsAt H ts os) (s : Same H H') : OffsAt H' ts os := ⟨h.1, fun i t e => by
  obtain ⟨o, h1, h2⟩ := h.2 i t e
  exact ⟨o, h1, s _ _ h2⟩⟩
theorem OffsAt.snoc {H : Hp} {ts : List Addr} {os : List Off} {t : Addr} {o : Off} (h : OffsAt H ts os) (e : H t = some (tO o)) : OffsAt H (ts ++ [t]) (os ++ [o]) := by
  refine ⟨by rw [List.length_append, List.length_append, h.1]; rfl, fun i t' he => ?_⟩
  by_cases hi : i < ts.length
  · rw [List.getElem?_append_left hi] at he
    obtain ⟨p, h1, h2⟩ := h.2 i t' he
    exact ⟨p, by rw [List.getElem?_append_left (by rw [← h.1]; exact hi)]; exact h1, h2⟩
  · have e0 : i = ts.length := by
      have := (List.getElem?_eq_some_iff.mp he).1
      rw [List.length_append, List.length_singleton] at this
      omega
    subst e0
    rw [List.getElem?_append_right (Nat.le_refl _), Nat.sub_self] at he
    cases Option.some.inj he
    exact ⟨o, by rw [h.1, List.getElem?_append_right (Nat.le_refl _), Nat.sub_self]; rfl, e⟩
theorem OffsAt.rev {H : Hp} {ts : List Addr} {os : List Off} (h : OffsAt H ts os) : OffsAt H ts.reverse os.reverse := by
  refine ⟨by rw [List.length_reverse, List.length_reverse, h.1], fun i e he => ?_⟩
  have hi := (List.getElem?_eq_some_iff.mp he).1
  rw [List.length_reverse] at hi
  rw [List.getElem?_reverse hi] at he
  obtain ⟨t, h1, h2⟩ := h.2 _ e he
  exact ⟨t, by rw [List.getElem?_reverse (by rw [← h.1]; exact hi), ← h.1]; exact h1, h2⟩
theorem OffsAt.get {H : Hp} {ts : List Addr} {os : List Off} (h : OffsAt H ts os) {i : Nat} {x : V} (e : (ts.map V.ref)[i]? = some x) : ∃ t o, x = .ref t ∧ ts[i]? = some t ∧ os[i]? = some o ∧ H t = some (tO o) := by
  rw [List.getElem?_map] at e
  cases e1 : ts[i]? with
  | none => rw [e1] at e; cases e
  | some t =>
    rw [e1] at e
    obtain ⟨o, h1, h2⟩ := h.2 i t e1
    exact ⟨t, o, (Option.some.inj e).symm, rfl, h1, h2⟩
def fldsG (a : Addr) (b : Int) : List (Str × V) := putF "aside" (.int b) (putF "offers" (.ref a) [])
theorem fldsG_offers (a : Addr) (b : Int) : (fldsG a b).lookup ("offers" : Str) = some (.ref a) := by
  unfold fldsG
  rw [lookup_putF, if_neg (by decide +kernel), lookup_putF, if_pos rfl]
theorem fldsG_aside (a : Addr) (b : Int) : (fldsG a b).lookup ("aside" : Str) = some (.int b) := by
  unfold fldsG
  rw [lookup_putF, if_pos rfl]
theorem fldsG_mean (a : Addr) (b : Int) : (fldsG a b).lookup ("mean" : Str) = none := by
  unfold fldsG
  rw [lookup_putF, if_neg (by decide +kernel), lookup_putF, if_neg (by decide +kernel)]
  rfl
structure TxtG (K : PySem.W.Frag) (C : Addr) : Prop where
  cl : Cls K C
  nO : NoAttr K C "offers"
  nA : NoAttr K C "aside"
def GuAt (C : Addr) (H : Hp) (p : Addr) (os : List Off) (b : Int) : Prop := ∃ dx a ts, H p = some (.ins C dx (fldsG a b)) ∧ H a = some (.tup (ts.map V.ref)) ∧ OffsAt H ts os
theorem GuAt.same {C : Addr} {H H' : Hp} {p : Addr} {os : List Off} {b : Int} (h : GuAt C H p os b) (s : Same H H') : GuAt C H' p os b := by
  obtain ⟨dx, a, ts, h1, h2, h3⟩ := h
  exact ⟨dx, a, ts, s _ _ h1, s _ _ h2, h3.same s⟩
/-- a heap where only the list at D was written -/
theorem OffsAt.wrote {H : Hp} {D : Addr} {ts : List Addr} {os : List Off} {xs : List V} {o : HO} (h : OffsAt H ts os) (e : H D = some (.lst xs)) : OffsAt (upd H D o) ts os := ⟨h.1, fun i a ha => by
  obtain ⟨t, h1, h2⟩ := h.2 i a ha
  exact ⟨t, h1, by show _ = _; rw [upd_ne (ne_of h2 e (by intro z; cases z))]; exact h2⟩⟩
theorem GuAt.wrote {C : Addr} {H : Hp} {p D : Addr} {os : List Off} {b : Int} {xs : List V} {o : HO} (h : GuAt C H p os b) (e : H D = some (.lst xs)) : GuAt C (upd H D o) p os b := by
  obtain ⟨dx, a, ts, h1, h2, h3⟩ := h
  refine ⟨dx, a, ts, ?_, ?_, h3.wrote e⟩
  · rw [upd_ne (ne_of h1 e (by intro z; cases z))]; exact h1
  · rw [upd_ne (ne_of h2 e (by intro z; cases z))]; exact h2
section
variable {P : Program} {w : World} {K : PySem.W.Frag} {mg : Str → Option Value} {base : Heap}
/-! _check_offers -/
def spOffers (K : PySem.W.Frag) : Sp := fun vs H Q _ => ∃ (a : Addr) (ts : List Addr) (os : List Off), vs = [.ref a] ∧ SqS K H a (ts.map V.ref) ∧ OffsAt H ts os ∧ OffsOk os ∧ os.length ≤ 8 ∧ Q .non H
theorem ok_check_offersL {f : Addr} {fd : FuncData} (F : Fun K "_check_offers" "_check_offers" s_check_offers f fd) (m_len : mg "len" = none) (d_check_size : Def P w K mg base "check_size" 1 ["size", "low", "high"] spRange) (d_check_range : Def P w K mg base "check_range" 1 ["number", "low", "high"] spRange) : FnOk P w K mg base CX0 2 f fd ["offers"] (spOffers K) := by
  refine F.ok sc_check_offers (fun vs H Q E h => ?_) (fun cdv A outer s H vs Q E hr h => ?_)
  · obtain ⟨a, ts, os, rfl, _⟩ := h
    rfl
  · obtain ⟨a, ts, os, rfl, hS, hT, ok, l8, q⟩ := h
    have tl : (ts.map V.ref).length = os.length := by rw [List.length_map, hT.1]
    have stp : ∀ (i : Nat) (x : V) (H' : Hp), (ts.map V.ref)[i]? = some x → H' = H → ∃ t o, x = .ref t ∧ OOk o ∧ H' t = some (tO o) := by
      rintro i x H' hx rfl
      obtain ⟨t, o, rfl, _, e2, e3⟩ := hT.get hx
      exact ⟨t, o, rfl, ok o (List.mem_of_getElem? e2), e3⟩
    rcases hS with hS | hS
    · refine ⟨_, (pss_cons (ps_expr (pe_callD d_check_size (hr.mono (by decide)) (by rfl) (pa_cons (pe_callB call_len_seq (by rfl) m_len (by decide +kernel) (pa_cons (pv 0) pa_nil)) (pa_cons pe_int (pa_cons pe_int pa_nil)))))
  (pss_one (ps_for PassesOwn.never rfl (pi_list (pv 0)) (pg_tup (by rfl) (pgs_cons (pg_name (i := 1) sc_check_offers.nd rfl (.inl rfl)) (pgs_cons (pg_name (i := 2) sc_check_offers.nd rfl (.inl rfl)) pgs_nil)))
    (pss_cons (ps_expr (pe_callD d_check_range (hr.mono (by decide)) (by rfl) (pa_cons (pv 1) (pa_cons pe_int (pa_cons (pe_op op_pow pe_int pe_int) pa_nil)))))
  (pss_one (ps_expr (pe_callD d_check_range (hr.mono (by decide)) (by rfl) (pa_cons (pv 2) (pa_cons pe_int (pa_cons pe_int pa_nil)))))))))), ?_⟩
      refine ⟨_, rfl, _, _, rfl, .inl hS, _, 0, 8, rfl, Int.natCast_nonneg _, by rw [tl]; omega, ?_⟩
      refine ⟨_, rfl, a, rfl, ⟨_, hS⟩, for_list (K := K) (a := a) (xs := ts.map V.ref) (fun i σ H' => H' = H ∧ ∃ y1 y2, σ = [some (.ref a), y1, y2]) ⟨rfl, _, _, rfl⟩ (fun i σ H' _ hp => by rw [hp.1]; exact hS) ?_ ?_⟩
      · rintro i x σ H' hx ⟨rfl, y1, y2, rfl⟩
        obtain ⟨t, o, rfl, oo, e3⟩ := stp i x _ hx rfl
        refine ⟨_, _, rfl, tupAt e3, rfl, _, _, rfl, _, _, rfl, rfl, ?_⟩
        exact ⟨_, rfl, _, _, rfl, rfl, ⟨by decide, by decide, by decide⟩, _, _, _, rfl, oo.c0, oo.c1, _, rfl, _, _, _, rfl, oo.w0, oo.w1, rfl, _, _, rfl⟩
      · rintro σ H' ⟨rfl, y1, y2, rfl⟩
        exact q
    · refine ⟨_, (pss_cons (ps_expr (pe_callD d_check_size (hr.mono (by decide)) (by rfl) (pa_cons (pe_callB call_len_seq (by rfl) m_len (by decide +kernel) (pa_cons (pv 0) pa_nil)) (pa_cons pe_int (pa_cons pe_int pa_nil)))))
  (pss_one (ps_for PassesOwn.never rfl (pi_tup (pv 0)) (pg_tup (by rfl) (pgs_cons (pg_name (i := 1) sc_check_offers.nd rfl (.inl rfl)) (pgs_cons (pg_name (i := 2) sc_check_offers.nd rfl (.inl rfl)) pgs_nil)))
    (pss_cons (ps_expr (pe_callD d_check_range (hr.mono (by decide)) (by rfl) (pa_cons (pv 1) (pa_cons pe_int (pa_cons (pe_op op_pow pe_int pe_int) pa_nil)))))
  (pss_one (ps_expr (pe_callD d_check_range (hr.mono (by decide)) (by rfl) (pa_cons (pv 2) (pa_cons pe_int (pa_cons pe_int pa_nil)))))))))), ?_⟩
      refine ⟨_, rfl, _, _, rfl, .inr hS, _, 0, 8, rfl, Int.natCast_nonneg _, by rw [tl]; omega, ?_⟩
      refine ⟨_, rfl, a, rfl, ⟨_, hS⟩, for_tup (K := K) (a := a) (xs := ts.map V.ref) (fun i σ H' => H' = H ∧ ∃ y1 y2, σ = [some (.ref a), y1, y2]) ⟨rfl, _, _, rfl⟩ (fun i σ H' _ hp => by rw [hp.1]; exact hS) ?_ ?_⟩
      · rintro i x σ H' hx ⟨rfl, y1, y2, rfl⟩
        obtain ⟨t, o, rfl, oo, e3⟩ := stp i x _ hx rfl
        refine ⟨_, _, rfl, tupAt e3, rfl, _, _, rfl, _, _, rfl, rfl, ?_⟩
        exact ⟨_, rfl, _, _, rfl, rfl, ⟨by decide, by decide, by decide⟩, _, _, _, rfl, oo.c0, oo.c1, _, rfl, _, _, _, rfl, oo.w0, oo.w1, rfl, _, _, rfl⟩
      · rintro σ H' ⟨rfl, y1, y2, rfl⟩
        exact q
end
end TK

namespace TK
open PySem PySem.Spec PyProof.Rows L2
section
variable {P : Program} {w : World} {K : PySem.W.Frag} {mg : Str → Option Value} {base : Heap}
/-! Guests.__init__ -/
def spInitG (K : PySem.W.Frag) (C : Addr) : Sp := fun vs H Q _ => ∃ (p a dx : Addr) (ts : List Addr) (os : List Off) (b : Int), vs = [.ref p, .ref a, .int b] ∧ H p = some (.ins C dx []) ∧ SqS K H a (ts.map V.ref) ∧ OffsAt H ts os ∧ OffsOk os ∧ os.length ≤ 8 ∧ 1 ≤ b ∧ b ≤ 1000 ∧
  ∀ H', GuAt C H' p os b → (∀ c o, H c = some o → c ≠ p → H' c = some o) → Q .non H'
theorem ok_Guests {f C : Addr} {fd : FuncData} (F : Fun K "__init__" "Guests.__init__" s_Guests_init f fd) (T : TxtG K C) (m_tuple : mg "tuple" = none)
    (d_check_offers : Def P w K mg base "_check_offers" 2 ["offers"] (spOffers K)) (d_check_range : Def P w K mg base "check_range" 1 ["number", "low", "high"] spRange) :
    FnOk P w K mg base CX0 3 f fd ["self", "offers", "aside"] (spInitG K C) := by
  refine F.ok sc_Guests_init (fun vs H Q E h => ?_) (fun cdv A outer s H vs Q E hr h => ?_)
  · obtain ⟨p, a, dx, ts, os, b, rfl, _⟩ := h
    rfl
  · obtain ⟨p, a, dx, ts, os, b, rfl, hp, hS, hT, ok, l8, b0, b1, q⟩ := h
    have tl : ts.length ≤ 8 := by rw [hT.1]; exact l8
    have key : ∀ (D l : Addr), H D = none → (upd H D (.lst (ts.map V.ref))) l = none →
        (upd (upd H D (.lst (ts.map V.ref))) l (.tup (ts.map V.ref))) p = some (.ins C dx []) ∧ (upd (upd (upd H D (.lst (ts.map V.ref))) l (.tup (ts.map V.ref))) p (.ins C dx (putF "offers" (.ref l) []))) p = some (.ins C dx (putF "offers" (.ref l) [])) ∧
        Q .non (upd (upd (upd (upd H D (.lst (ts.map V.ref))) l (.tup (ts.map V.ref))) p (.ins C dx (putF "offers" (.ref l) []))) p (.ins C dx (putF "aside" (.int b) (putF "offers" (.ref l) [])))) := by
      intro D l nD nl
      have s1 : Same H (upd H D (.lst (ts.map V.ref))) := same_upd nD
      have s2 := s1.trans (same_upd (o := .tup (ts.map V.ref)) nl)
      have hp2 := s2 _ _ hp
      have lp : l ≠ p := (ne_of_none (s1 _ _ hp) nl).symm
      refine ⟨hp2, upd_same, ?_⟩
      rw [upd_twice]
      have fr : ∀ c x, (upd (upd H D (.lst (ts.map V.ref))) l (.tup (ts.map V.ref))) c = some x → c ≠ p → (upd (upd (upd H D (.lst (ts.map V.ref))) l (.tup (ts.map V.ref))) p (.ins C dx (putF "aside" (.int b) (putF "offers" (.ref l) [])))) c = some x := fun c x e n => by rw [upd_ne n]; exact e
      refine q _ ⟨dx, l, ts, upd_same, fr _ _ upd_same lp, hT.1, fun i t he => ?_⟩ fun c o e n => fr _ _ (s2 _ _ e) n
      obtain ⟨o, h1, h2⟩ := hT.2 i t he
      exact ⟨o, h1, fr _ _ (s2 _ _ h2) (ne_of (s2 _ _ h2) hp2 (by intro z; cases z))⟩
    rcases hS with hL | hU
    · refine ⟨_, (pss_cons (ps_expr (pe_callD d_check_offers (hr.mono (by decide)) (by rfl) (pa_cons (pv 1) pa_nil)))
  (pss_cons (ps_expr (pe_callD d_check_range (hr.mono (by decide)) (by rfl) (pa_cons (pv 2) (pa_cons pe_int (pa_cons pe_int pa_nil)))))
  (pss_cons (ps_fld (pv 0) (pe_callTy call_tuple_of (by rfl) m_tuple (by decide +kernel) (pa_cons (pe_lc (own := [("offer", 3)]) (by rfl) sc_Guests_init.nd (pi_list (pv 1)) (blkOk_by (N := ["self", "offers", "aside", "offer"]) (sc := defScope s_Guests_init) (by decide +kernel)) (fun _ _ _ _ _ => (pg_name (i := 3) sc_Guests_init.nd rfl (.inl rfl))) (fun _ _ _ _ _ => pts_nil) (fun _ _ _ _ _ => (pe_callTy (call_tuple_ofK (K := K) rfl) (by rfl) m_tuple (by decide +kernel) (pa_cons (pv 3) pa_nil)))) pa_nil)) rfl)
  (pss_one (ps_fld (pv 0) (pv 2) rfl))))), ?_⟩
      refine ⟨_, rfl, a, ts, os, rfl, .inl hL, hT, ok, l8, ?_⟩
      refine ⟨_, rfl, b, 1, 1000, rfl, b0, b1, ?_⟩
      refine ⟨_, rfl, a, rfl, ⟨_, hL⟩, fun D nD => ?_⟩
      refine lc_list (K := K) (a := a) (xs := ts.map V.ref) (fun i H' => H' = upd H D (.lst ((ts.map V.ref).take i))) rfl (fun i H' _ hq => by subst hq; exact (same_upd nD).seq hL) (fun i x H' hx hq => ?_) (fun H' hq => ?_)
      · subst hq
        obtain ⟨t, o, rfl, e1, e2, e3⟩ := hT.get hx
        have hi : i < ts.length := (List.getElem?_eq_some_iff.mp e1).1
        refine ⟨rfl, yesT ⟨_, rfl, t, _, rfl, .inr ⟨tupAt ((same_upd nD) _ _ e3), _, upd_same, by rw [List.length_take]; exact small1000 (by omega), ?_⟩⟩⟩
        rw [upd_twice, List.take_add_one, hx]
        rfl
      · subst hq
        rw [List.take_length]
        refine ⟨D, _, rfl, .inl ⟨lstAt upd_same, fun l nl => ?_⟩⟩
        obtain ⟨k1, k2, k3⟩ := key D l nD nl
        exact ⟨_, rfl, p, C, dx, [], rfl, k1, T.cl, T.nO, by decide, _, rfl, _, rfl, p, C, dx, _, rfl, k2, T.cl, T.nA, Nat.lt_of_le_of_lt (putF_len _ _ _) (by decide), k3⟩
    · refine ⟨_, (pss_cons (ps_expr (pe_callD d_check_offers (hr.mono (by decide)) (by rfl) (pa_cons (pv 1) pa_nil)))
  (pss_cons (ps_expr (pe_callD d_check_range (hr.mono (by decide)) (by rfl) (pa_cons (pv 2) (pa_cons pe_int (pa_cons pe_int pa_nil)))))
  (pss_cons (ps_fld (pv 0) (pe_callTy call_tuple_of (by rfl) m_tuple (by decide +kernel) (pa_cons (pe_lc (own := [("offer", 3)]) (by rfl) sc_Guests_init.nd (pi_tup (pv 1)) (blkOk_by (N := ["self", "offers", "aside", "offer"]) (sc := defScope s_Guests_init) (by decide +kernel)) (fun _ _ _ _ _ => (pg_name (i := 3) sc_Guests_init.nd rfl (.inl rfl))) (fun _ _ _ _ _ => pts_nil) (fun _ _ _ _ _ => (pe_callTy (call_tuple_ofK (K := K) rfl) (by rfl) m_tuple (by decide +kernel) (pa_cons (pv 3) pa_nil)))) pa_nil)) rfl)
  (pss_one (ps_fld (pv 0) (pv 2) rfl))))), ?_⟩
      refine ⟨_, rfl, a, ts, os, rfl, .inr hU, hT, ok, l8, ?_⟩
      refine ⟨_, rfl, b, 1, 1000, rfl, b0, b1, ?_⟩
      refine ⟨_, rfl, a, rfl, ⟨_, hU⟩, fun D nD => ?_⟩
      refine lc_tup (K := K) (a := a) (xs := ts.map V.ref) (fun i H' => H' = upd H D (.lst ((ts.map V.ref).take i))) rfl (fun i H' _ hq => by subst hq; exact same_tup (same_upd nD) hU) (fun i x H' hx hq => ?_) (fun H' hq => ?_)
      · subst hq
        obtain ⟨t, o, rfl, e1, e2, e3⟩ := hT.get hx
        have hi : i < ts.length := (List.getElem?_eq_some_iff.mp e1).1
        refine ⟨rfl, yesT ⟨_, rfl, t, _, rfl, .inr ⟨tupAt ((same_upd nD) _ _ e3), _, upd_same, by rw [List.length_take]; exact small1000 (by omega), ?_⟩⟩⟩
        rw [upd_twice, List.take_add_one, hx]
        rfl
      · subst hq
        rw [List.take_length]
        refine ⟨D, _, rfl, .inl ⟨lstAt upd_same, fun l nl => ?_⟩⟩
        obtain ⟨k1, k2, k3⟩ := key D l nD nl
        exact ⟨_, rfl, p, C, dx, [], rfl, k1, T.cl, T.nO, by decide, _, rfl, _, rfl, p, C, dx, _, rfl, k2, T.cl, T.nA, Nat.lt_of_le_of_lt (putF_len _ _ _) (by decide), k3⟩
end
end TK

namespace TK
open PySem PySem.Spec PyProof.Rows L2
theorem kit_self {K : PySem.W.Frag} {C : Addr} : PySem.W.kitOne K (.ref C) (.ref C) = some true := by
  unfold PySem.W.kitOne
  rw [if_pos (beq_self_eq_true _)]
/-! offers as data -/
def dO (o : Off) : PyData := .tuple [.int o.1, .int o.2]
theorem offs_dp {K : PySem.W.Frag} {H : Hp} : ∀ {ts : List Addr} {os : List Off}, OffsAt H ts os → DpAll K H (ts.map V.ref) (os.map dO)
  | [], [], _ => .nil
  | [], o :: os, h => by cases h.1
  | t :: ts, [], h => by cases h.1
  | t :: ts, o :: os, h => by
    obtain ⟨o', h1, h2⟩ := h.2 0 t rfl
    cases Option.some.inj h1
    exact .cons (.tup (tupAt h2) (.cons (.int _) (.cons (.int _) .nil))) (offs_dp ⟨Nat.succ.inj h.1, fun i t' a => h.2 (i + 1) t' a⟩)
theorem offs_lay : ∀ os : List Off, PyData.canLayAll0 (os.map dO) = true ∧ PyData.depthAll (os.map dO) ≤ 2
  | [] => ⟨by simp [PyData.canLayAll0], by simp [PyData.depthAll]⟩
  | o :: os => by
    obtain ⟨h1, h2⟩ := offs_lay os
    refine ⟨?_, ?_⟩
    · simp only [List.map_cons, PyData.canLayAll0, Bool.and_eq_true]
      exact ⟨by simp [dO, PyData.canLay0, PyData.canLayAll0], h1⟩
    · simp only [List.map_cons, PyData.depthAll]
      have : (dO o).depth ≤ 2 := by simp [dO, PyData.depth, PyData.depthAll]
      omega
theorem shape_T {os : List Off} : SeqAt.shaped (.tuple (os.map dO)) = true := by
  obtain ⟨h1, h2⟩ := offs_lay os
  show ((PyData.tuple _).canLay0 && decide ((PyData.tuple _).depth ≤ 64)) = true
  rw [show (PyData.tuple (os.map dO)).canLay0 = true by simp only [PyData.canLay0, h1], show (PyData.tuple (os.map dO)).depth = PyData.depthAll (os.map dO) + 1 by simp only [PyData.depth]]
  exact decide_eq_true (by omega)
theorem shape_L {os : List Off} : SeqAt.shaped (.list (os.map dO)) = true := by
  obtain ⟨h1, h2⟩ := offs_lay os
  show ((PyData.list _).canLay0 && decide ((PyData.list _).depth ≤ 64)) = true
  rw [show (PyData.list (os.map dO)).canLay0 = true by simp only [PyData.canLay0, h1], show (PyData.list (os.map dO)).depth = PyData.depthAll (os.map dO) + 1 by simp only [PyData.depth]]
  exact decide_eq_true (by omega)
theorem eqv_dO (o q : Off) : PyData.eqv (dO o) (dO q) = decide (o = q) := by
  obtain ⟨a, b⟩ := o
  obtain ⟨c, d⟩ := q
  simp only [dO, PyData.eqv, PyData.eqvAll, Bool.and_true]
  by_cases h1 : a = c <;> by_cases h2 : b = d <;> simp [h1, h2]
theorem eqv_offs : ∀ os qs : List Off, PyData.eqvAll (os.map dO) (qs.map dO) = decide (os = qs)
  | [], [] => by simp [PyData.eqvAll]
  | [], q :: qs => by simp [PyData.eqvAll]
  | o :: os, [] => by simp [PyData.eqvAll]
  | o :: os, q :: qs => by
    simp only [List.map_cons, PyData.eqvAll]
    rw [eqv_dO, eqv_offs os qs]
    by_cases h1 : o = q <;> by_cases h2 : os = qs <;> simp [h1, h2]
theorem eqv_T (os qs : List Off) : PyData.eqv (.tuple (os.map dO)) (.tuple (qs.map dO)) = decide (os = qs) := by
  simp only [PyData.eqv]
  exact eqv_offs os qs
theorem eqv_L (os qs : List Off) : PyData.eqv (.list (os.map dO)) (.list (qs.map dO)) = decide (os = qs) := by
  simp only [PyData.eqv]
  exact eqv_offs os qs
section
variable {P : Program} {w : World} {K : PySem.W.Frag} {mg : Str → Option Value} {base : Heap}
/-! Guests.__eq__ -/
def spEqG (K : PySem.W.Frag) (C : Addr) : Sp := fun vs H Q _ => ∃ (p : Addr) (y : V) (os : List Off) (b : Int), vs = [.ref p, y] ∧ GuAt C H p os b ∧
  ((∃ (p' : Addr) (qs : List Off) (c : Int), y = .ref p' ∧ GuAt C H p' qs c ∧ Q (.bl (decide (os = qs) && decide (b = c))) H) ∨ (∃ t, TyX K H y t ∧ PySem.W.kitOne K t (.ref C) = some false ∧ Q (.bl false) H))
theorem ok_Guests_eq {f C : Addr} {fd : FuncData} (F : Fun K "__eq__" "Guests.__eq__" s_Guests_eq f fd) (T : TxtG K C) (m_isinstance : mg "isinstance" = none) (mg_Guests : mg "Guests" = some (.ref C))
    (ha : PySem.W.findIn K (.ref C) "__class__" = some (some (.builtin "object.__class__"))) (hn : PySem.W.specialIn K (.builtin "object.__class__") "__get__" = some (some (.builtin "getset_descriptor.__get__")))
    (htk : PySem.W.takesIn K (.builtin "object.__class__") = some true) (hm : PySem.W.mroIn K C (.type "object") = some true) : FnOk P w K mg base CX0 1 f fd ["self", "other"] (spEqG K C) := by
  refine F.ok sc_Guests_eq (fun vs H Q E h => ?_) (fun cdv A outer s H vs Q E hr h => ?_)
  · obtain ⟨p, y, os, b, rfl, _⟩ := h
    rfl
  · obtain ⟨p, y, os, b, rfl, ⟨dx, a, ts, hp, hA, hT⟩, h⟩ := h
    refine ⟨_, (pss_one (ps_ret (pe_and (pe_callB call_isi (by rfl) m_isinstance (by decide +kernel) (pa_cons (pv 1) (pa_cons (pe_glob (v := .ref C) (u := .ref C) (by rfl) mg_Guests rfl) pa_nil))) (pe_and (pe_cmpR (op_eqD hr.units) (pe_fld (pv 0) rfl) (pe_fld (pv 1) rfl) (nomark _)) (pe_one (pe_cmpR op_eq (pe_fld (pv 0) rfl) (pe_fld (pv 1) rfl) (nomark _))))))), ?_⟩
    rcases h with ⟨p', qs, c, rfl, ⟨dx', a', ts', hp', hA', hT'⟩, q⟩ | ⟨t, ty, kt, q⟩
    · refine ⟨_, rfl, _, _, _, _, true, rfl, .own C, .base (.ins hp' T.cl ha hn htk hm), kit_self, _, rfl, iteT ?_⟩
      refine ⟨_, rfl, p, C, dx, _, _, rfl, hp, T.cl, T.nO, fldsG_offers _ _, _, rfl, p', C, dx', _, _, rfl, hp', T.cl, T.nO, fldsG_offers _ _, .tuple _, .tuple _, .tup (tupAt hA) (offs_dp hT), .tup (tupAt hA') (offs_dp hT'), shape_T, shape_T, _, rfl, ?_⟩
      rw [eqv_T]
      by_cases e : os = qs
      · rw [decide_eq_true e] at q ⊢
        refine iteT ?_
        refine ⟨_, rfl, p, C, dx, _, _, rfl, hp, T.cl, T.nA, fldsG_aside _ _, _, rfl, p', C, dx', _, _, rfl, hp', T.cl, T.nA, fldsG_aside _ _, ?_⟩
        rw [Bool.true_and] at q
        refine ⟨rfl, ?_⟩
        rw [show decide (V.int b = V.int c) = decide (b = c) by by_cases e : b = c <;> simp [e]]
        exact q
      · rw [decide_eq_false e] at q ⊢
        refine iteF ?_
        rw [Bool.false_and] at q
        exact q
    · refine ⟨_, rfl, _, _, _, _, false, rfl, .own C, ty, kt, _, rfl, iteF ?_⟩
      exact q
end
end TK

namespace TK
open PySem PySem.Spec PyProof.Rows L2
/-! the mean of a lot -/
def kI (k : Nat) : V := .int (k : Int)
def topF (os : List Off) (ks : List Nat) : Int := (ks.map fun k => (os.getD k (0, 1)).1 * (os.getD k (0, 1)).2).sum
def wgtF (os : List Off) (ks : List Nat) : Int := (ks.map fun k => (os.getD k (0, 1)).2).sum
def gcdI (a b : Int) : Int := ((Nat.gcd a.natAbs b.natAbs : Nat) : Int)
def KsOk (n : Nat) (ks : List Nat) : Prop := (List.range n).filter (fun k => decide (k ∈ ks)) = ks
theorem KsOk.lt {n : Nat} {ks : List Nat} (h : KsOk n ks) : ∀ k ∈ ks, k < n := fun k hk => by
  rw [← h] at hk
  exact List.mem_range.mp (List.mem_filter.mp hk).1
theorem KsOk.len {n : Nat} {ks : List Nat} (h : KsOk n ks) : ks.length ≤ n := by
  rw [← h]
  have := List.length_filter_le (fun k => decide (k ∈ ks)) (List.range n)
  rw [List.length_range] at this
  exact this
theorem sum_bd {c d : Int} (f : Nat → Int) : ∀ ks : List Nat, (∀ k ∈ ks, c ≤ f k ∧ f k ≤ d) → (ks.length : Int) * c ≤ (ks.map f).sum ∧ (ks.map f).sum ≤ (ks.length : Int) * d
  | [], _ => by simp
  | k :: ks, h => by
    obtain ⟨h1, h2⟩ := sum_bd f ks fun j hj => h j (List.mem_cons_of_mem _ hj)
    obtain ⟨h3, h4⟩ := h k List.mem_cons_self
    simp only [List.map_cons, List.sum_cons, List.length_cons]
    have e1 : ((ks.length + 1 : Nat) : Int) * c = (ks.length : Int) * c + c := by rw [Int.natCast_add, Int.add_mul]; simp
    have e2 : ((ks.length + 1 : Nat) : Int) * d = (ks.length : Int) * d + d := by rw [Int.natCast_add, Int.add_mul]; simp
    rw [e1, e2]
    omega
theorem getD_ok {os : List Off} (ok : OffsOk os) {k : Nat} (h : k < os.length) : OOk (os.getD k (0, 1)) := by
  rw [List.getD_eq_getElem?_getD, List.getElem?_eq_getElem h]
  exact ok _ (List.getElem_mem h)
theorem wgt_bd {os : List Off} (ok : OffsOk os) (l8 : os.length ≤ 8) {ks : List Nat} (h : KsOk os.length ks) : 0 ≤ wgtF os ks ∧ wgtF os ks ≤ 8000 := by
  obtain ⟨h1, h2⟩ := sum_bd (c := 0) (d := 1000) (fun k => (os.getD k (0, 1)).2) ks fun k hk => by
    have := getD_ok ok (h.lt k hk)
    exact ⟨by have := this.w0; omega, this.w1⟩
  have := h.len
  unfold wgtF
  omega
theorem mul_bd {a b : Int} (h0 : 0 ≤ a) (h1 : a ≤ 1000000) (h2 : 1 ≤ b) (h3 : b ≤ 1000) : 0 ≤ a * b ∧ a * b ≤ 1000000000 := by
  refine ⟨Int.mul_nonneg h0 (by omega), ?_⟩
  have := Int.mul_le_mul h1 h3 (by omega) (by decide : (0 : Int) ≤ 1000000)
  omega
theorem top_bd {os : List Off} (ok : OffsOk os) (l8 : os.length ≤ 8) {ks : List Nat} (h : KsOk os.length ks) : 0 ≤ topF os ks ∧ topF os ks ≤ 8000000000 := by
  obtain ⟨h1, h2⟩ := sum_bd (c := 0) (d := 1000000000) (fun k => (os.getD k (0, 1)).1 * (os.getD k (0, 1)).2) ks fun k hk => by
    have := getD_ok ok (h.lt k hk)
    exact mul_bd this.c0 this.c1 this.w0 this.w1
  have := h.len
  unfold topF
  omega
theorem gcd_bd {a b : Int} (hb : 1 ≤ b) : 0 < gcdI a b ∧ gcdI a b ≤ b := by
  unfold gcdI
  have h1 : 0 < Nat.gcd a.natAbs b.natAbs := Nat.gcd_pos_of_pos_right _ (by omega)
  have h2 : Nat.gcd a.natAbs b.natAbs ≤ b.natAbs := Nat.gcd_le_right _ (by omega)
  omega
def meanT (os : List Off) (b : Int) (ks : List Nat) : HO := .tup [.int (topF os ks / gcdI (topF os ks) (b + wgtF os ks)), .int ((b + wgtF os ks) / gcdI (topF os ks) (b + wgtF os ks))]
theorem kI_at {ks : List Nat} {i : Nat} {x : V} (h : (ks.map kI)[i]? = some x) : ∃ k, ks[i]? = some k ∧ x = kI k := by
  rw [List.getElem?_map] at h
  cases e : ks[i]? with
  | none => rw [e] at h; cases h
  | some z => rw [e] at h; exact ⟨z, rfl, (Option.some.inj h).symm⟩
theorem inV_k {i : Nat} {ks : List Nat} : inV (.int (0 + (i : Int))) (ks.map kI) = decide (i ∈ ks) := by
  unfold inV
  rw [List.any_map]
  by_cases h : i ∈ ks
  · rw [decide_eq_true h]
    exact List.any_eq_true.mpr ⟨i, h, by show ((i : Int) == 0 + (i : Int)) = true; rw [Int.zero_add]; exact beq_self_eq_true _⟩
  · rw [decide_eq_false h]
    refine List.any_eq_false.mpr fun k hk => ?_
    show ¬ ((k : Int) == 0 + (i : Int)) = true
    intro e
    have := eq_of_beq e
    exact h (by rw [show i = k by omega]; exact hk)
theorem ks_flat (ks : List Nat) : (ks.map kI).all flatV = true := by
  rw [List.all_eq_true]
  intro x hx
  obtain ⟨c, _, rfl⟩ := List.mem_map.mp hx
  rfl
def dK (ks : List Nat) : List PyData := ks.map fun (k : Nat) => PyData.int (k : Int)
theorem ks_dp {K : PySem.W.Frag} {H : Hp} : ∀ ks : List Nat, DpAll K H (ks.map kI) (dK ks)
  | [] => .nil
  | k :: ks => .cons (.int _) (ks_dp ks)
theorem ks_lay : ∀ ks : List Nat, PyData.canLayAll0 (dK ks) = true ∧ PyData.depthAll (dK ks) ≤ 1
  | [] => ⟨by simp [dK, PyData.canLayAll0], by simp [dK, PyData.depthAll]⟩
  | k :: ks => by
    obtain ⟨h1, h2⟩ := ks_lay ks
    refine ⟨?_, ?_⟩
    · simp only [dK, List.map_cons, PyData.canLayAll0, Bool.and_eq_true]
      exact ⟨by simp [PyData.canLay0], h1⟩
    · simp only [dK, List.map_cons, PyData.depthAll]
      have : (PyData.int (k : Int)).depth ≤ 1 := by simp [PyData.depth]
      unfold dK at h2
      omega
theorem ks_lay0 (ks : List Nat) : (PyData.list (dK ks)).canLay0 = true := by simp only [PyData.canLay0, (ks_lay ks).1]
theorem ks_shape (ks : List Nat) : SeqAt.shaped (.list (dK ks)) = true := by
  obtain ⟨h1, h2⟩ := ks_lay ks
  show ((PyData.list _).canLay0 && decide ((PyData.list _).depth ≤ 64)) = true
  rw [ks_lay0, show (PyData.list (dK ks)).depth = PyData.depthAll (dK ks) + 1 by simp only [PyData.depth]]
  exact decide_eq_true (by omega)
theorem offs_at {H : Hp} {ts : List Addr} {os : List Off} (h : OffsAt H ts os) {k : Nat} (hk : k < os.length) : ∃ t, ts[k]? = some t ∧ atI (ts.map V.ref) (k : Int) = some (.ref t) ∧ H t = some (tO (os.getD k (0, 1))) := by
  have hk2 : k < ts.length := by rw [h.1]; exact hk
  obtain ⟨o, h1, h2⟩ := h.2 k _ (List.getElem?_eq_getElem hk2)
  refine ⟨ts[k], List.getElem?_eq_getElem hk2, ?_, ?_⟩
  · exact atI_nat (by rw [List.getElem?_map, List.getElem?_eq_getElem hk2]; rfl)
  · rw [List.getD_eq_getElem?_getD, h1]
    exact h2
section
variable {P : Program} {w : World} {K : PySem.W.Frag} {mg : Str → Option Value} {base : Heap}
def spMeanG (K : PySem.W.Frag) (C : Addr) : Sp := fun vs H Q _ => ∃ (p l : Addr) (os : List Off) (b : Int) (ks : List Nat), vs = [.ref p, .ref l] ∧ GuAt C H p os b ∧ OffsOk os ∧ os.length ≤ 8 ∧ 1 ≤ b ∧ b ≤ 1000 ∧ SqT K H l (ks.map kI) ∧ KsOk os.length ks ∧
  ∀ H' t, Same H H' → H' t = some (meanT os b ks) → Q (.ref t) H'
theorem ok_Guests_mean {f C : Addr} {fd : FuncData} (F : Fun K "mean" "Guests.mean" s_Guests_mean f fd) (T : TxtG K C) (m_list : mg "list" = none) (m_len : mg "len" = none) (m_range : mg "range" = none) (m_sum : mg "sum" = none) (g_gcd : mg "gcd" = some (.builtin "math.gcd")) :
    FnOk P w K mg base CX0 1 f fd ["self", "lot"] (spMeanG K C) := by
  refine F.ok sc_Guests_mean (fun vs H Q E h => ?_) (fun cdv A outer s H vs Q E hr h => ?_)
  · obtain ⟨p, l, os, b, ks, rfl, _⟩ := h
    rfl
  · obtain ⟨p, l, os, b, ks, rfl, ⟨dx, a, ts, hp, hA, hT⟩, ok, l8, b0, b1, hl, kok, q⟩ := h
    have tl : (ts.map V.ref).length = os.length := by rw [List.length_map, hT.1]
    have kl := kok.len
    have w8 := wgt_bd ok l8 kok
    have t8 := top_bd ok l8 kok
    refine ⟨_, (pss_cons (ps_if (pt_cmpR (op_neD hr.units) (pe_callTy call_list_of (by rfl) m_list (by decide +kernel) (pa_cons (pv 1) pa_nil)) (pe_lc (own := [("number", 6)]) (by rfl) sc_Guests_mean.nd (pi_range1 (by rfl) m_range (pa_cons (pe_callB call_len_seq (by rfl) m_len (by decide +kernel) (pa_cons (pe_fld (pv 0) rfl) pa_nil)) pa_nil)) (blkOk_by (N := ["self", "lot", "shown", "top", "bottom", "shared", "number", "charge", "weight", "_"]) (sc := defScope s_Guests_mean) (by decide +kernel)) (fun _ _ _ _ _ => (pg_name (i := 6) sc_Guests_mean.nd rfl (.inl rfl))) (fun _ _ _ _ _ => (pts_one (pt_cmpR (op_in_seqK (K := K) rfl) (pv 6) (pv 1) (by rfl)))) (fun _ _ _ _ _ => (pv 6))) (nomark _)) (pss_one ps_never) pss_nil)
  (pss_cons (ps_setLc (i := 2) (own := [("number", 6)]) (by rfl) sc_Guests_mean.nd rfl rfl (sw_true rfl rfl rfl (by decide +kernel)) (pi_tup (pv 1)) (blkOk_by (N := ["self", "lot", "shown", "top", "bottom", "shared", "number", "charge", "weight", "_"]) (sc := defScope s_Guests_mean) (by decide +kernel)) (fun _ _ _ _ _ => (pg_name (i := 6) sc_Guests_mean.nd rfl (.inl rfl))) (fun _ _ _ _ _ => pts_nil) (fun _ _ _ _ _ => (pe_ix (ix_tupK (K := K) rfl) (pe_fldK (K := K) rfl (pv 0) rfl) (pv 6) (fun _ _ => rfl))))
  (pss_cons (ps_set (i := 3) sc_Guests_mean.nd rfl (.inl rfl) (pe_callB (cr_sum rfl) (by rfl) m_sum (by decide +kernel) (pa_cons (pe_lc (own := [("charge", 7), ("weight", 8)]) (by rfl) sc_Guests_mean.nd (pi_list (pv 2)) (blkOk_by (N := ["self", "lot", "shown", "top", "bottom", "shared", "number", "charge", "weight", "_"]) (sc := defScope s_Guests_mean) (by decide +kernel)) (fun _ _ _ _ _ => (pg_tupK (K := K) (n := 2) rfl (by rfl) (pgs_cons (pg_name (i := 7) sc_Guests_mean.nd rfl (.inl rfl)) (pgs_cons (pg_name (i := 8) sc_Guests_mean.nd rfl (.inl rfl)) pgs_nil)))) (fun _ _ _ _ _ => pts_nil) (fun _ _ _ _ _ => (pe_op op_mul (pv 7) (pv 8)))) pa_nil)))
  (pss_cons (ps_set (i := 4) sc_Guests_mean.nd rfl (.inl rfl) (pe_op op_add (pe_fld (pv 0) rfl) (pe_callB (cr_sum rfl) (by rfl) m_sum (by decide +kernel) (pa_cons (pe_lc (own := [("_", 9), ("weight", 8)]) (by rfl) sc_Guests_mean.nd (pi_list (pv 2)) (blkOk_by (N := ["self", "lot", "shown", "top", "bottom", "shared", "number", "charge", "weight", "_"]) (sc := defScope s_Guests_mean) (by decide +kernel)) (fun _ _ _ _ _ => (pg_tupK (K := K) (n := 2) rfl (by rfl) (pgs_cons (pg_name (i := 9) sc_Guests_mean.nd rfl (.inl rfl)) (pgs_cons (pg_name (i := 8) sc_Guests_mean.nd rfl (.inl rfl)) pgs_nil)))) (fun _ _ _ _ _ => pts_nil) (fun _ _ _ _ _ => (pv 8))) pa_nil))))
  (pss_cons (ps_set (i := 5) sc_Guests_mean.nd rfl (.inl rfl) (pe_callBfun cr_gcd (by rfl) g_gcd (pa_cons (pv 3) (pa_cons (pv 4) pa_nil))))
  (pss_one (ps_ret (pe_tup (pa_cons (pe_op op_fdiv (pv 3) (pv 5)) (pa_cons (pe_op op_fdiv (pv 4) (pv 5)) pa_nil)))))))))), ?_⟩
    -- the lot is one
    refine ⟨_, rfl, l, _, rfl, .inr hl, fun l1 nl1 => ?_⟩
    have s1 := same_upd (o := .lst (ks.map kI)) nl1
    have sT : ∀ {H'}, Same H H' → SqT K H' l (ks.map kI) := fun s => same_tup s hl
    refine ⟨_, rfl, p, C, dx, _, _, rfl, s1 _ _ hp, T.cl, T.nO, fldsG_offers _ _, _, _, rfl, .inr (tupAt (s1 _ _ hA)), _, rfl, by rw [tl]; omega, by rw [tl]; omega, fun D nD => ?_⟩
    refine lc_range (fun i H' => H' = upd (upd H l1 (.lst (ks.map kI))) D (.lst (((List.range i).filter fun k => decide (k ∈ ks)).map kI))) rfl (fun i H' hi hq => ?_) (fun H' hq => ?_)
    · subst hq
      have hz : (((List.range i).filter fun k => decide (k ∈ ks)).map kI).length < sizeLine := by
        rw [List.length_map]
        have := List.length_filter_le (fun k => decide (k ∈ ks)) (List.range i)
        rw [List.length_range] at this
        rw [tl] at hi
        exact small1000 (by omega)
      refine ⟨rfl, _, rfl, _, rfl, l, _, rfl, .inr (sT (s1.trans (same_upd nD))), rfl, ks_flat ks, _, rfl, ?_⟩
      rw [if_neg (by decide), inV_k]
      by_cases hm : i ∈ ks
      · rw [decide_eq_true hm]
        refine iteT ⟨_, rfl, _, upd_same, hz, ?_⟩
        rw [upd_twice, List.range_succ, List.filter_append, List.map_append, List.filter_cons, if_pos (decide_eq_true hm), Int.zero_add]
        rfl
      · rw [decide_eq_false hm]
        refine iteF ?_
        rw [List.range_succ, List.filter_append, List.filter_cons, if_neg (by rw [decide_eq_false hm]; decide), List.filter_nil, List.append_nil]
    subst hq
    rw [tl, Int.toNat_natCast, kok]
    have s2 := s1.trans (same_upd (o := .lst (ks.map kI)) nD)
    generalize eH2 : (upd (upd H l1 (.lst (ks.map kI))) D (.lst (ks.map kI)) : Hp) = H2 at s2 ⊢
    have e1 : H2 l1 = some (.lst (ks.map kI)) := by rw [← eH2, upd_ne (ne_of_none upd_same nD)]; exact upd_same
    have e2 : H2 D = some (.lst (ks.map kI)) := by rw [← eH2]; exact upd_same
    refine ⟨.list (dK ks), .list (dK ks), .lst (lstAt e1) (ks_dp ks), .lst (lstAt e2) (ks_dp ks), ks_shape ks, ks_shape ks, _, rfl, ?_⟩
    rw [SeqAt.eqv_refl _ (ks_lay0 ks)]
    refine iteF ?_
    -- shown
    refine ⟨_, rfl, l, rfl, ⟨_, sT s2⟩, fun D2 nD2 => ?_⟩
    refine lc_tup (K := K) (a := l) (xs := ks.map kI) (fun i H' => ∃ us : List Addr, H' = upd H2 D2 (.lst (us.map V.ref)) ∧ us.length = i ∧ OffsAt H' us ((ks.take i).map fun k => os.getD k (0, 1))) ⟨[], rfl, rfl, rfl, fun _ _ h => nomatch h⟩ (fun i H' _ hq => by obtain ⟨us, rfl, _⟩ := hq; exact sT (s2.trans (same_upd nD2))) (fun i x H' hx hq => ?_) (fun H' hq => ?_)
    · obtain ⟨us, rfl, ul, hU⟩ := hq
      obtain ⟨k, ek, rfl⟩ := kI_at hx
      have hi8 : i < 8 := by have := (List.getElem?_eq_some_iff.mp ek).1; omega
      have s3 := s2.trans (same_upd (o := .lst (us.map V.ref)) nD2)
      obtain ⟨t, t1, t2, t3⟩ := offs_at (hT.same s3) (kok.lt k (List.mem_of_getElem? ek))
      refine ⟨rfl, yesT ⟨_, rfl, p, C, dx, _, _, rfl, s3 _ _ hp, T.cl, T.nO, fldsG_offers _ _, _, rfl, _, _, _, _, rfl, rfl, tupAt (s3 _ _ hA), t2, _, upd_same, by rw [List.length_map, ul]; exact small1000 (by omega), us ++ [t], by rw [upd_twice, List.map_append]; rfl, by rw [List.length_append, ul]; rfl, ?_⟩⟩
      rw [List.take_add_one, ek, List.map_append]
      exact OffsAt.snoc (hU.wrote upd_same) (by rw [upd_ne (ne_of t3 upd_same (by intro z; cases z))]; exact t3)
    obtain ⟨us, rfl, ul, hU⟩ := hq
    rw [List.length_map] at ul
    rw [List.length_map, List.take_length] at hU
    have s3 := s2.trans (same_upd (o := .lst (us.map V.ref)) nD2)
    have e3 : (upd H2 D2 (.lst (us.map V.ref))) D2 = some (.lst (us.map V.ref)) := upd_same
    generalize upd H2 D2 (.lst (us.map V.ref)) = H3 at s3 e3 hU ⊢
    -- the top
    have hval : ∀ (i : Nat) (x : V), (us.map V.ref)[i]? = some x → ∃ (k : Nat) (t : Addr), ks[i]? = some k ∧ x = .ref t ∧ H3 t = some (tO (os.getD k (0, 1))) ∧ OOk (os.getD k (0, 1)) ∧ i < 8 := by
      intro i x hx
      obtain ⟨t, o, rfl, e4, e5, e6⟩ := hU.get hx
      have hi := (List.getElem?_eq_some_iff.mp e4).1
      rw [List.getElem?_map, List.getElem?_eq_getElem (show i < ks.length by omega)] at e5
      cases Option.some.inj e5
      exact ⟨_, t, List.getElem?_eq_getElem (by omega), rfl, e6, getD_ok ok (kok.lt _ (List.getElem_mem _)), by omega⟩
    refine ⟨_, rfl, D2, rfl, ⟨_, lstAt e3⟩, fun D3 nD3 => ?_⟩
    refine lc_list (K := K) (a := D2) (xs := us.map V.ref) (fun i H' => H' = upd H3 D3 (.lst (((ks.map fun k => (os.getD k (0, 1)).1 * (os.getD k (0, 1)).2).map V.int).take i))) rfl (fun i H' _ hq => by subst hq; exact lstAt ((same_upd nD3) _ _ e3)) (fun i x H' hx hq => ?_) (fun H' hq => ?_)
    · subst hq
      obtain ⟨k, t, ek, rfl, et, oo, i8⟩ := hval i x hx
      have m1 := oo.c0
      have m2 := oo.c1
      refine ⟨_, _, rfl, tupAt ((same_upd nD3) _ _ et), rfl, _, _, rfl, _, _, rfl, rfl, rfl, yesT ⟨_, rfl, _, rfl, _, _, rfl, rfl, .inl ⟨by omega, by omega⟩, _, upd_same, by rw [List.length_take]; exact small1000 (by omega), ?_⟩⟩
      rw [upd_twice, List.take_add_one, List.getElem?_map, List.getElem?_map, ek]
      rfl
    subst hq
    rw [List.take_of_length_le (by rw [List.length_map, List.length_map, List.length_map]; omega)]
    have s4' := same_upd (o := .lst ((ks.map fun k => (os.getD k (0, 1)).1 * (os.getD k (0, 1)).2).map V.int)) nD3
    have s4 := s3.trans s4'
    refine ⟨D3, _, rfl, lstAt upd_same, ?_⟩
    generalize upd H3 D3 (.lst ((ks.map fun k => (os.getD k (0, 1)).1 * (os.getD k (0, 1)).2).map V.int)) = H4 at s4' s4 ⊢
    -- the bottom
    refine ⟨_, rfl, p, C, dx, _, _, rfl, s4 _ _ hp, T.cl, T.nA, fldsG_aside _ _, _, rfl, D2, rfl, ⟨_, lstAt (s4' _ _ e3)⟩, fun D4 nD4 => ?_⟩
    refine lc_list (K := K) (a := D2) (xs := us.map V.ref) (fun i H' => H' = upd H4 D4 (.lst (((ks.map fun k => (os.getD k (0, 1)).2).map V.int).take i))) rfl (fun i H' _ hq => by subst hq; exact lstAt ((same_upd nD4) _ _ (s4' _ _ e3))) (fun i x H' hx hq => ?_) (fun H' hq => ?_)
    · subst hq
      obtain ⟨k, t, ek, rfl, et, oo, i8⟩ := hval i x hx
      refine ⟨_, _, rfl, tupAt ((same_upd nD4) _ _ (s4' _ _ et)), rfl, _, _, rfl, _, _, rfl, rfl, rfl, yesT ⟨_, rfl, _, upd_same, by rw [List.length_take]; exact small1000 (by omega), ?_⟩⟩
      rw [upd_twice, List.take_add_one, List.getElem?_map, List.getElem?_map, ek]
      rfl
    subst hq
    rw [List.take_of_length_le (by rw [List.length_map, List.length_map, List.length_map]; omega)]
    have s5 := s4.trans (same_upd (o := .lst ((ks.map fun k => (os.getD k (0, 1)).2).map V.int)) nD4)
    refine ⟨D4, _, rfl, lstAt upd_same, _, _, rfl, rfl, ?_⟩
    generalize upd H4 D4 (.lst ((ks.map fun k => (os.getD k (0, 1)).2).map V.int)) = H5 at s5 ⊢
    have g1 := gcd_bd (a := topF os ks) (b := b + wgtF os ks) (by omega)
    have g2 : gcdI (topF os ks) (b + wgtF os ks) < 1073741824 := by omega
    refine ⟨_, rfl, _, rfl, topF os ks, b + wgtF os ks, rfl, ?_⟩
    exact ⟨_, rfl, _, rfl, _, _, rfl, rfl, ⟨g1.1, g2⟩, _, rfl, _, rfl, _, _, rfl, rfl, ⟨g1.1, g2⟩, (show (2 : Nat) ≤ sizeLine by decide), fun t nt => q _ t (s5.trans (same_upd nt)) upd_same⟩
end
end TK

namespace TK
open PySem PySem.Spec PyProof.Rows L2
theorem ixN_at {n k : Nat} (h : k < n) : ixN n (k : Int) = some k := by
  unfold ixN
  rw [if_pos (Int.natCast_nonneg k), if_pos (by omega)]
  rfl
theorem OffsAt.set {H : Hp} {ts : List Addr} {os : List Off} {k : Nat} {t : Addr} {o : Off} (h : OffsAt H ts os) (e : H t = some (tO o)) : OffsAt H (ts.set k t) (os.set k o) := by
  refine ⟨by rw [List.length_set, List.length_set]; exact h.1, fun i t' he => ?_⟩
  rw [List.getElem?_set] at he ⊢
  by_cases hk : k = i
  · subst hk
    rw [if_pos rfl] at he ⊢
    by_cases hl : k < ts.length
    · rw [if_pos hl] at he
      cases Option.some.inj he
      exact ⟨o, by rw [if_pos (by rw [← h.1]; exact hl)], e⟩
    · rw [if_neg hl] at he; cases he
  · rw [if_neg hk] at he ⊢
    exact h.2 i t' he
section
variable {P : Program} {w : World} {K : PySem.W.Frag} {mg : Str → Option Value} {base : Heap}
/-! _law_beside -/
def spBeside (K : PySem.W.Frag) : Sp := fun vs H Q _ => ∃ (a : Addr) (ns : List Int) (s : Int), vs = [.ref a, .int s] ∧ SqL K H a (ns.map V.int) ∧ 0 ≤ s ∧ s + 2 ≤ ns.length ∧ ∀ r : Int, 1 ≤ r → r ≤ 1000 → Q (.int r) H
theorem ok_L_beside {f : Addr} {fd : FuncData} (F : Fun K "_law_beside" "_law_beside" s_L_beside f fd) (d_L_far : Def P w K mg base "_law_far" 1 ["_law_pool_here", "_law_spot", "_law_number"] (spFar K))
    (d_L_chosen : Def P w K mg base "_law_chosen" 2 ["_law_pool_here", "_law_spot", "_law_under", "_law_small", "_law_crest", "_law_whole"] (spChosen K)) : FnOk P w K mg base CX0 3 f fd ["_law_pool_here", "_law_spot"] (spBeside K) := by
  refine F.ok sc_L_beside (fun vs H Q E h => ?_) (fun cdv A outer s H vs Q E hr h => ?_)
  · obtain ⟨a, ns, s, rfl, _⟩ := h
    rfl
  · obtain ⟨a, ns, s, rfl, hS, h0, h1, q⟩ := h
    refine ⟨_, (pss_one (ps_ret (pe_op op_add pe_int (pe_callD d_L_chosen (hr.mono (by decide)) (by rfl) (pa_cons (pv 0) (pa_cons (pv 1) (pa_cons pe_int (pa_cons pe_int (pa_cons pe_int (pa_cons (pe_callD d_L_far (hr.mono (by decide)) (by rfl) (pa_cons (pv 0) (pa_cons (pe_op op_add (pv 1) pe_int) (pa_cons pe_int pa_nil)))) pa_nil)))))))))), ?_⟩
    refine ⟨_, rfl, _, rfl, _, rfl, _, rfl, _, _, rfl, rfl, _, _, _, _, rfl, hS, by omega, by decide, by decide, by omega, fun z z0 => ?_⟩
    refine ⟨_, _, _, _, _, _, _, rfl, hS, by omega, by omega, by decide, by decide, by decide, by decide, fun r r0 r1 => ?_⟩
    exact ⟨_, _, rfl, rfl, q _ (by omega) (by omega)⟩
/-! _law_goods -/
def spGoods (K : PySem.W.Frag) : Sp := fun vs H Q _ => ∃ (a : Addr) (ns : List Int) (s n : Int) (cb : Bool), vs = [.ref a, .int s, .int n, .bl cb] ∧ SqL K H a (ns.map V.int) ∧ 0 ≤ s ∧ s + 4 * n ≤ ns.length ∧ 0 ≤ n ∧ n ≤ 8 ∧
  ∀ (H' : Hp) (p : Addr) (ts : List Addr) (os : List Off), H p = none → Same H H' → H' p = some (.lst (ts.map V.ref)) → OffsAt H' ts os → OffsOk os → (os.length : Int) = n → Q (.ref p) H'
theorem ok_L_goods {f : Addr} {fd : FuncData} (F : Fun K "_law_goods" "_law_goods" s_L_goods f fd) (m_range : mg "range" = none) (m_int : mg "int" = none)
    (d_L_part : Def P w K mg base "_law_part" 1 ["_law_pool_here", "_law_spot", "_law_under", "_law_size"] (spPart K)) (d_L_far : Def P w K mg base "_law_far" 1 ["_law_pool_here", "_law_spot", "_law_number"] (spFar K))
    (d_L_chosen : Def P w K mg base "_law_chosen" 2 ["_law_pool_here", "_law_spot", "_law_under", "_law_small", "_law_crest", "_law_whole"] (spChosen K)) : FnOk P w K mg base CX0 3 f fd ["_law_pool_here", "_law_spot", "_law_number", "_law_calm"] (spGoods K) := by
  refine F.ok sc_L_goods (fun vs H Q E h => ?_) (fun cdv A outer s H vs Q E hr h => ?_)
  · obtain ⟨a, ns, s, n, cb, rfl, _⟩ := h
    rfl
  · obtain ⟨a, ns, s, n, cb, rfl, hS, h0, h1, n0, n8, q⟩ := h
    refine ⟨_, (pss_cons (ps_set (i := 4) sc_L_goods.nd rfl (.inl rfl) (pe_lst pa_nil))
  (pss_cons (ps_for PassesOwn.never rfl (pi_range1 (by rfl) m_range (pa_cons (pv 2) pa_nil)) (pg_name (i := 5) sc_L_goods.nd rfl (.inl rfl))
    (pss_cons (ps_set (i := 6) sc_L_goods.nd rfl (.inl rfl) (pe_op op_add (pv 1) (pe_op op_mul pe_int (pv 5))))
  (pss_cons (ps_set (i := 7) sc_L_goods.nd rfl (.inl rfl) (pe_callD d_L_chosen (hr.mono (by decide)) (by rfl) (pa_cons (pv 0) (pa_cons (pv 6) (pa_cons pe_int (pa_cons pe_int (pa_cons (pe_op op_pow pe_int pe_int) (pa_cons (pe_callD d_L_far (hr.mono (by decide)) (by rfl) (pa_cons (pv 0) (pa_cons (pe_op op_add (pv 6) pe_int) (pa_cons pe_int pa_nil)))) pa_nil))))))))
  (pss_cons (ps_set (i := 8) sc_L_goods.nd rfl (.inl rfl) (pe_op op_add pe_int (pe_callD d_L_chosen (hr.mono (by decide)) (by rfl) (pa_cons (pv 0) (pa_cons (pv 6) (pa_cons pe_int (pa_cons pe_int (pa_cons pe_int (pa_cons (pe_callD d_L_far (hr.mono (by decide)) (by rfl) (pa_cons (pv 0) (pa_cons (pe_op op_add (pv 6) pe_int) (pa_cons pe_int pa_nil)))) pa_nil)))))))))
  (pss_cons (ps_cut (ps_if (pt_val (pv 3)) (pss_cons (ps_set (i := 7) sc_L_goods.nd rfl (.inl rfl) (pe_op op_mod (pe_callTy call_int1 (by rfl) m_int (by decide +kernel) (pa_cons (pv 7) pa_nil)) pe_int))
  (pss_one (ps_set (i := 8) sc_L_goods.nd rfl (.inl rfl) (pe_op op_add pe_int (pe_op op_mod (pe_callTy call_int1 (by rfl) m_int (by decide +kernel) (pa_cons (pe_op op_sub (pv 8) pe_int) pa_nil)) pe_int))))) pss_nil))
  (pss_cons (ps_expr (pe_bm PySem.F.plainAttrs_list PySem.F.slot_list_append PySem.F.type_list_append mt_append (pv 4) (pa_cons (pe_tup (pa_cons (pv 7) (pa_cons (pv 8) pa_nil))) pa_nil)))
  (pss_one (ps_if (PW.pt (pw_and (pt_cmpR op_gt (pv 5) pe_int (nomark _)) (pw_and1 (pt_cmpR op_eq (pe_callD d_L_part (hr.mono (by decide)) (by rfl) (pa_cons (pv 0) (pa_cons (pe_op op_add (pv 6) pe_int) (pa_cons pe_int (pa_cons pe_int pa_nil))))) pe_int (nomark _))))) (pss_one (ps_asg (pe_ix ix_list (pv 4) (pe_op op_sub (pv 5) pe_int) (fun _ _ => rfl)) (pg_sub (pv 4) (pv 5) set_list))) pss_nil))))))))
  (pss_one (ps_ret (pv 4))))), ?_⟩
    refine ⟨Nat.zero_le _, fun p np => ?_⟩
    refine ⟨_, rfl, _, rfl, by omega, by omega, for_range (fun i σ H' => ∃ (ts : List Addr) (os : List Off) (y1 y2 y3 y4 : Option V), σ = [some (.ref a), some (.int s), some (.int n), some (.bl cb), some (.ref p), y1, y2, y3, y4] ∧ Same H H' ∧ H' p = some (.lst (ts.map V.ref)) ∧ OffsAt H' ts os ∧ OffsOk os ∧ os.length = i) ⟨[], [], _, _, _, _, rfl, same_upd np, upd_same, ⟨rfl, fun _ _ h => nomatch h⟩, (fun _ h => nomatch h), rfl⟩ ?_ ?_⟩
    · rintro i σ H' hi ⟨ts, os, y1, y2, y3, y4, rfl, sm, ep, hT, ok, ol⟩
      have hS2 := sm.seq hS
      have tl : ts.length = i := by rw [hT.1, ol]
      refine ⟨_, rfl, _, rfl, _, _, rfl, rfl, .inl ⟨by decide, by decide⟩, _, _, rfl, rfl, ?_⟩
      refine ⟨_, rfl, _, rfl, _, _, rfl, rfl, ⟨by decide, by decide, by decide⟩, _, rfl, _, rfl, _, _, rfl, rfl, _, _, _, _, rfl, hS2, by omega, by decide, by decide, by omega, fun z z0 => ?_⟩
      refine ⟨_, _, _, _, _, _, _, rfl, hS2, by omega, by omega, by decide, by decide, by decide, by decide, fun c c0 c1 => ?_⟩
      refine ⟨_, rfl, _, rfl, _, rfl, _, rfl, _, _, rfl, rfl, _, _, _, _, rfl, hS2, by omega, by decide, by decide, by omega, fun z2 z20 => ?_⟩
      refine ⟨_, _, _, _, _, _, _, rfl, hS2, by omega, by omega, by decide, by decide, by decide, by decide, fun v v0 v1 => ?_⟩
      have c1' : c ≤ 1000000 := c1
      refine ⟨_, _, rfl, rfl, ?_⟩
      refine ⟨fun σ H2 => H2 = H' ∧ ∃ o : Off, OOk o ∧ σ = [some (.ref a), some (.int s), some (.int n), some (.bl cb), some (.ref p), some (.int (0 + (i : Int))), some (.int (s + 4 * (0 + (i : Int)))), some (.int o.1), some (.int o.2)], ?_, ?_⟩
      · refine ⟨_, rfl, _, rfl, ite2 (fun e => ?_) (fun e => ?_)⟩
        · refine ⟨_, rfl, .inl ⟨_, rfl, _, _, rfl, rfl, pz, ?_⟩⟩
          refine ⟨_, rfl, _, _, rfl, rfl, .inl ⟨_, rfl, _, _, rfl, rfl, pz, _, _, rfl, rfl, ?_⟩⟩
          have a1 := Int.emod_nonneg c (show (12 : Int) ≠ 0 by decide)
          have a2 := Int.emod_lt_of_pos c (show (0 : Int) < 12 by decide)
          have b1 := Int.emod_nonneg (1 + v - 1) (show (4 : Int) ≠ 0 by decide)
          have b2 := Int.emod_lt_of_pos (1 + v - 1) (show (0 : Int) < 4 by decide)
          exact ⟨rfl, (c % 12, 1 + (1 + v - 1) % 4), ⟨a1, by show c % 12 ≤ _; omega, by show 1 ≤ 1 + (1 + v - 1) % 4; omega, by show 1 + (1 + v - 1) % 4 ≤ _; omega⟩, rfl⟩
        · exact ⟨rfl, (c, 1 + v), ⟨c0, c1', by show 1 ≤ 1 + v; omega, by show 1 + v ≤ 1000; omega⟩, rfl⟩
      · rintro σ H2 ⟨rfl, o, oo, rfl⟩
        refine ⟨_, rfl, .inl ⟨rfl, _, lstAt ep⟩, _, rfl, _, rfl, (show 2 ≤ sizeLine by decide), fun t nt => ?_⟩
        have tp : t ≠ p := (ne_of_none ep nt).symm
        refine ⟨_, _, _, rfl, rfl, by rw [upd_ne tp.symm]; exact ep, by rw [List.length_map]; exact small1000 (by omega), ?_⟩
        have st := sm.trans (same_upd (o := .tup [.int o.1, .int o.2]) nt)
        have hT3 : OffsAt (upd (upd H2 t (.tup [.int o.1, .int o.2])) p (.lst (ts.map V.ref ++ [.ref t]))) (ts ++ [t]) (os ++ [o]) := by
          refine OffsAt.snoc ((hT.same (same_upd nt)).wrote (xs := ts.map V.ref) (by rw [upd_ne tp.symm]; exact ep)) ?_
          rw [upd_ne tp]; exact upd_same
        have s3 : Same H (upd (upd H2 t (.tup [.int o.1, .int o.2])) p (.lst (ts.map V.ref ++ [.ref t]))) := same_at st np
        have e3 : (upd (upd H2 t (.tup [.int o.1, .int o.2])) p (.lst (ts.map V.ref ++ [.ref t]))) p = some (.lst ((ts ++ [t]).map V.ref)) := by rw [List.map_append]; exact upd_same
        have ok3 : OffsOk (os ++ [o]) := fun x hx => by
          rcases List.mem_append.mp hx with hx | hx
          · exact ok x hx
          · rw [List.mem_singleton.mp hx]; exact oo
        generalize upd (upd H2 t (.tup [.int o.1, .int o.2])) p (.lst (ts.map V.ref ++ [.ref t])) = H3 at hT3 s3 e3 ⊢
        have hS3 := s3.seq hS
        refine ⟨_, rfl, _, _, rfl, rfl, _, rfl, ite2 (fun e => ?_) (fun e => ?_)⟩
        · have e1 : (0 : Int) < 0 + (i : Int) := of_decide_eq_true e
          refine ⟨_, rfl, _, rfl, _, _, rfl, rfl, _, _, _, _, _, rfl, hS3, by omega, by omega, by decide, by decide, by decide, rfl, _, rfl, ite2 (fun e => ?_) (fun e => ?_)⟩
          · have hk : i - 1 < (ts ++ [t]).length := by rw [List.length_append]; omega
            have hk2 : i - 1 < (os ++ [o]).length := by rw [← hT3.1]; exact hk
            obtain ⟨o4, o5, o6⟩ := hT3.2 (i - 1) _ (List.getElem?_eq_getElem hk)
            refine ⟨_, rfl, _, rfl, _, _, rfl, rfl, p, _, _, _, rfl, rfl, lstAt e3, (atI_in (i := 0 + (i : Int) - 1) (by omega) (by rw [show (0 + (i : Int) - 1).toNat = i - 1 by omega, List.getElem?_map, List.getElem?_eq_getElem hk]; rfl)), _, rfl, _, rfl, p, _, _, i, rfl, rfl, e3, (by rw [Int.zero_add]; exact ixN_at (by rw [List.length_map, List.length_append, tl]; exact Nat.lt_succ_self _)), ?_⟩
            refine ⟨(ts ++ [t]).set i (ts ++ [t])[i - 1], (os ++ [o]).set i o4, _, _, _, _, rfl, same_at s3 np, ?_, (hT3.set o6).wrote e3, ?_, ?_⟩
            · rw [upd_same, List.map_set]
            · intro x hx
              rcases List.mem_or_eq_of_mem_set hx with hx | hx
              · exact ok3 x hx
              · rw [hx]; exact ok3 _ (List.mem_of_getElem? o5)
            · rw [List.length_set, List.length_append, ol]; rfl
          · exact ⟨_, _, _, _, _, _, rfl, s3, e3, hT3, ok3, by rw [List.length_append, ol]; rfl⟩
        · refine iteF ?_
          exact ⟨_, _, _, _, _, _, rfl, s3, e3, hT3, ok3, by rw [List.length_append, ol]; rfl⟩
    · rintro σ H' ⟨ts, os, y1, y2, y3, y4, rfl, sm, ep, hT, ok, ol⟩
      exact ⟨_, rfl, q _ p ts os np sm ep hT ok (by omega)⟩
end
end TK

namespace TK
open PySem PySem.Spec PyProof.Rows L2
/-! Euclid, in at most so many turns -/
def capM : Nat := 8000000000 * 9000
def Turn (g i x y : Nat) : Prop := Nat.gcd x y = g ∧ y ≤ 9000 ∧ ((i = 0 ∧ x * y ≤ capM) ∨ (y < x ∧ x * y * 2 ^ i ≤ 2 * capM))
theorem Turn.step {g i x y : Nat} (h : Turn g i x y) (hy : y ≠ 0) : Turn g (i + 1) y (x % y) := by
  obtain ⟨h1, h2, h3⟩ := h
  have yp : 0 < y := Nat.pos_of_ne_zero hy
  have m1 := Nat.mod_lt x yp
  refine ⟨?_, by omega, .inr ⟨m1, ?_⟩⟩
  · rw [← h1, Nat.gcd_comm x y, Nat.gcd_rec y x, Nat.gcd_comm]
  · rcases h3 with ⟨rfl, h3⟩ | ⟨h3, h4⟩
    · have : y * (x % y) ≤ x * y := by rw [Nat.mul_comm x y]; exact Nat.mul_le_mul_left _ (Nat.mod_le _ _)
      rw [show (2 : Nat) ^ (0 + 1) = 2 from rfl]
      omega
    · have d := Nat.div_add_mod x y
      have q1 : 1 ≤ x / y := (Nat.le_div_iff_mul_le yp).mpr (by omega)
      have q2 : y * 1 ≤ y * (x / y) := Nat.mul_le_mul_left _ q1
      have q3 : 2 * (x % y) ≤ x := by omega
      have q4 : y * (2 * (x % y)) ≤ y * x := Nat.mul_le_mul_left _ q3
      have q5 : y * (x % y) * 2 ≤ x * y := by rw [Nat.mul_assoc, Nat.mul_comm (x % y) 2, Nat.mul_comm x y]; exact q4
      calc y * (x % y) * 2 ^ (i + 1) = y * (x % y) * 2 * 2 ^ i := by rw [Nat.pow_succ', Nat.mul_assoc]; simp [Nat.mul_assoc]
        _ ≤ x * y * 2 ^ i := Nat.mul_le_mul_right _ q5
        _ ≤ 2 * capM := h4
theorem Turn.zero {g x : Nat} {i : Nat} (h : Turn g i x 0) : x = g := by
  rw [← h.1, Nat.gcd_zero_right]
theorem Turn.done {g x y : Nat} (h : Turn g 400 x y) : x = g := by
  obtain ⟨h1, h2, h3⟩ := id h
  rcases h3 with ⟨e, _⟩ | ⟨h3, h4⟩
  · exact absurd e (by decide)
  · by_cases hy : y = 0
    · subst hy; exact h.zero
    · exfalso
      have p : 1 ≤ x * y := Nat.mul_pos (by omega) (by omega)
      have : 1 * 2 ^ 400 ≤ x * y * 2 ^ 400 := Nat.mul_le_mul_right _ p
      have k : ¬ 1 * 2 ^ 400 ≤ 2 * capM := by decide +kernel
      exact k (Nat.le_trans this h4)
section
variable {P : Program} {w : World} {K : PySem.W.Frag} {mg : Str → Option Value} {base : Heap}
/-! _law_lowest -/
def spLowest : Sp := fun vs H Q _ => ∃ (a b : Int), vs = [.int a, .int b] ∧ 0 ≤ a ∧ a ≤ 8000000000 ∧ 1 ≤ b ∧ b ≤ 9000 ∧ ∀ H' t, Same H H' → H' t = some (.tup [.int (a / gcdI a b), .int (b / gcdI a b)]) → Q (.ref t) H'
theorem ok_L_lowest {f : Addr} {fd : FuncData} (F : Fun K "_law_lowest" "_law_lowest" s_L_lowest f fd) (m_range : mg "range" = none) (m_abs : mg "abs" = none) : FnOk P w K mg base CX0 1 f fd ["_law_above", "_law_below"] spLowest := by
  refine F.ok sc_L_lowest (fun vs H Q E h => ?_) (fun cdv A outer s H vs Q E hr h => ?_)
  · obtain ⟨a, b, rfl, _⟩ := h
    rfl
  · obtain ⟨a, b, rfl, a0, a1, b1, b9, q⟩ := h
    have g1 := gcd_bd (a := a) (b := b) b1
    have g2 : gcdI a b < 1073741824 := by omega
    have ea : (if a < 0 then -a else a) = ((a.natAbs : Nat) : Int) := by rw [if_neg (by omega)]; omega
    have eb : b = ((b.natAbs : Nat) : Int) := by omega
    refine ⟨_, (pss_cons (ps_par (i := 2) (j := 3) rfl sc_L_lowest.nd rfl rfl (by decide) rfl rfl (pa_cons (pe_callB call_abs (by rfl) m_abs (by decide +kernel) (pa_cons (pv 0) pa_nil)) (pa_cons (pv 1) pa_nil)) rfl)
  (pss_cons (ps_for PassesOwn.never rfl (pi_range1 (by rfl) m_range (pa_cons pe_int pa_nil)) (pg_name (i := 4) sc_L_lowest.nd rfl (.inl rfl))
    (pss_cons (ps_if (pt_cmpR op_eq (pv 3) pe_int (nomark _)) (pss_one ps_break) pss_nil)
  (pss_one (ps_par (i := 2) (j := 3) rfl sc_L_lowest.nd rfl rfl (by decide) rfl rfl (pa_cons (pv 3) (pa_cons (pe_op op_sub (pv 2) (pe_op op_mul (pv 3) (pe_op op_fdiv (pv 2) (pv 3)))) pa_nil)) rfl))))
  (pss_one (ps_ret (pe_tup (pa_cons (pe_op op_fdiv (pv 0) (pv 2)) (pa_cons (pe_op op_fdiv (pv 1) (pv 2)) pa_nil))))))), ?_⟩
    refine ⟨_, rfl, _, rfl, _, rfl, _, _, rfl, ?_⟩
    have fin : ∀ (H1 : Hp) (x : Int) (y5 y6 : Option V), Same H H1 → x = gcdI a b →
        ∀ t1, H1 t1 = none → Q (.ref t1) (upd H1 t1 (.tup [.int (a / x), .int (b / x)])) := fun H1 x _ _ s1 e t1 n1 => by
      subst e
      exact q _ t1 (s1.trans (same_upd n1)) upd_same
    refine ⟨_, rfl, by decide, by decide, for_range (fun i σ H' => Same H H' ∧ ∃ (x y : Nat) (y4 : Option V), σ = [some (.int a), some (.int b), some (.int (x : Int)), some (.int (y : Int)), y4] ∧ Turn (Nat.gcd a.natAbs b.natAbs) i x y) ⟨Same.refl _, a.natAbs, b.natAbs, none, ?_, rfl, by omega, .inl ⟨rfl, ?_⟩⟩ ?_ ?_⟩
    · rw [← ea, ← eb]; rfl
    · exact Nat.mul_le_mul (by omega) (by omega)
    · rintro i σ H' hi ⟨s1, x, y, y4, rfl, T⟩
      refine ⟨_, rfl, rfl, _, rfl, ite2 (fun e => ?_) (fun e => ?_)⟩
      · have e1 : (y : Int) = 0 := V.int.inj (of_decide_eq_true e)
        have e2 : y = 0 := by omega
        subst e2
        have e3 : (x : Int) = gcdI a b := by rw [T.zero]; rfl
        exact ⟨_, rfl, _, rfl, _, _, rfl, rfl, ⟨by omega, by omega⟩, _, rfl, _, rfl, _, _, rfl, rfl, ⟨by omega, by omega⟩, (show 2 ≤ sizeLine by decide), fun t1 n1 => fin _ _ none none s1 e3 t1 n1⟩
      · have hy : y ≠ 0 := fun z => e (decide_eq_true (by rw [z]; rfl))
        have y9 := T.2.1
        have st := T.step hy
        refine ⟨_, rfl, _, rfl, _, rfl, _, rfl, _, rfl, _, _, rfl, rfl, ⟨by omega, by omega⟩, _, _, rfl, rfl, .inl ⟨by omega, by omega⟩, _, _, rfl, rfl, _, _, rfl, ?_⟩
        refine ⟨s1, y, x % y, some (.int (0 + (i : Int))), ?_, st⟩
        show [some (V.int a), some (V.int b), some (V.int (y : Int)), some (V.int ((x : Int) - (y : Int) * ((x : Int) / (y : Int)))), some (V.int (0 + (i : Int)))] = _
        rw [show (x : Int) - (y : Int) * ((x : Int) / (y : Int)) = ((x % y : Nat) : Int) by rw [Int.natCast_emod, Int.emod_def]]
    · rintro σ H' ⟨s1, x, y, y4, rfl, T⟩
      have e3 : (x : Int) = gcdI a b := by rw [T.done]; rfl
      exact ⟨_, rfl, _, rfl, _, _, rfl, rfl, ⟨by omega, by omega⟩, _, rfl, _, rfl, _, _, rfl, rfl, ⟨by omega, by omega⟩, (show 2 ≤ sizeLine by decide), fun t1 n1 => fin _ _ none none s1 e3 t1 n1⟩
end
end TK

namespace TK
open PySem PySem.Spec PyProof.Rows L2
theorem KsOk.of_filter {n : Nat} (p : Nat → Bool) : KsOk n ((List.range n).filter p) := by
  unfold KsOk
  refine List.filter_congr fun k hk => ?_
  by_cases h : p k = true
  · rw [h]
    exact decide_eq_true (List.mem_filter.mpr ⟨hk, h⟩)
  · rw [Bool.eq_false_iff.mpr h]
    exact decide_eq_false fun z => h (List.mem_filter.mp z).2
theorem KsOk.nil {n : Nat} : KsOk n [] := by
  have := KsOk.of_filter (n := n) fun _ => false
  rwa [List.filter_eq_nil_iff.mpr (by simp)] at this
theorem KsOk.all {n : Nat} : KsOk n (List.range n) := by
  have := KsOk.of_filter (n := n) fun _ => true
  rwa [List.filter_eq_self.mpr (by simp)] at this
theorem range_one {n k : Nat} (h : k < n) : (List.range n).filter (fun j => decide (j = k)) = [k] := by
  induction n with
  | zero => omega
  | succ n ih =>
    rw [List.range_succ, List.filter_append]
    by_cases e : k = n
    · subst e
      rw [List.filter_eq_nil_iff.mpr fun j hj => by
        have := List.mem_range.mp hj
        simp; omega]
      simp
    · rw [ih (by omega)]
      have : ¬ n = k := fun z => e z.symm
      simp [this]
theorem KsOk.one {n k : Nat} (h : k < n) : KsOk n [k] := by
  have := KsOk.of_filter (n := n) fun j => decide (j = k)
  rwa [range_one h] at this
theorem rgV_k (n : Nat) : rgV 0 (n : Int) = (List.range n).map kI := by
  unfold rgV
  rw [show ((n : Int) - 0).toNat = n by omega]
  refine List.map_congr_left fun k _ => ?_
  rw [Int.zero_add]
  rfl
/-! the same data -/
theorem eq_flat {H : Hp} {t u : Addr} {xs : List V} (h1 : TL H t xs) (h2 : TL H u xs) (hl : xs.length ≤ 1000) (fl : ∀ x ∈ xs, flat1 x = true) (n : Nat) : Eq2 H (n + 1) (.ref t) (.ref u) := by
  refine .inr ⟨t, u, _, _, rfl, rfl, .inr ⟨h1, h2⟩, rfl, by omega, fun i x y hx hy => ?_⟩
  rw [hx] at hy
  have e := Option.some.inj hy
  have f := fl x (List.mem_of_getElem? hx)
  cases n with
  | zero => exact ⟨e, f⟩
  | succ n => exact .inl ⟨e, f⟩
theorem eq_two {H : Hp} {t u : Addr} {x y : V} (h1 : H t = some (.tup [x, y])) (h2 : H u = some (.tup [x, y])) (fx : flat1 x = true) (fy : flat1 y = true) (n : Nat) : Eq2 H (n + 1) (.ref t) (.ref u) := by
  refine eq_flat (.inl h1) (.inl h2) (show (2 : Nat) ≤ 1000 by decide) (fun z hz => ?_) n
  rcases List.mem_cons.mp hz with rfl | hz
  · exact fx
  rcases List.mem_cons.mp hz with rfl | hz
  · exact fy
  · cases hz
theorem eq_item {H : Hp} {ts ts' : List Addr} {os : List Off} (a : OffsAt H ts os) (b : OffsAt H ts' os) {i : Nat} {x y : V} (hx : (ts.map V.ref)[i]? = some x) (hy : (ts'.map V.ref)[i]? = some y) (n : Nat) : Eq2 H (n + 1) x y := by
  obtain ⟨t, o, rfl, _, e1, e2⟩ := a.get hx
  obtain ⟨t', o', rfl, _, e3, e4⟩ := b.get hy
  have : o = o' := Option.some.inj (e1.symm.trans e3)
  subst this
  exact eq_two e2 e4 rfl rfl n
theorem eq_offsL {H : Hp} {p q : Addr} {ts ts' : List Addr} {os : List Off} (h1 : H p = some (.lst (ts.map V.ref))) (h2 : H q = some (.lst (ts'.map V.ref))) (a : OffsAt H ts os) (b : OffsAt H ts' os) (l8 : os.length ≤ 8) (n : Nat) : Eq2 H (n + 2) (.ref p) (.ref q) :=
  .inr ⟨p, q, _, _, rfl, rfl, .inl ⟨h1, h2⟩, by rw [List.length_map, List.length_map, a.1, b.1], by rw [List.length_map, a.1]; omega, fun _ _ _ hx hy => eq_item a b hx hy n⟩
theorem eq_offsT {H : Hp} {p q : Addr} {ts ts' : List Addr} {os : List Off} (h1 : H p = some (.tup (ts.map V.ref))) (h2 : H q = some (.tup (ts'.map V.ref))) (a : OffsAt H ts os) (b : OffsAt H ts' os) (l8 : os.length ≤ 8) (n : Nat) : Eq2 H (n + 2) (.ref p) (.ref q) :=
  .inr ⟨p, q, _, _, rfl, rfl, .inr ⟨.inl h1, .inl h2⟩, by rw [List.length_map, List.length_map, a.1, b.1], by rw [List.length_map, a.1]; omega, fun _ _ _ hx hy => eq_item a b hx hy n⟩
theorem eq_parts {H : Hp} {t u p q : Addr} {ts ts' : List Addr} {os : List Off} {b : Int} (e1 : H t = some (.tup [.ref p, .int b])) (e2 : H u = some (.tup [.ref q, .int b])) (h1 : H p = some (.tup (ts.map V.ref))) (h2 : H q = some (.tup (ts'.map V.ref))) (a : OffsAt H ts os) (c : OffsAt H ts' os) (l8 : os.length ≤ 8) : Eq2 H 3 (.ref t) (.ref u) := by
  refine .inr ⟨t, u, _, _, rfl, rfl, .inr ⟨.inl e1, .inl e2⟩, rfl, (show (2 : Nat) < 2 ^ 40 by decide), fun i x y hx hy => ?_⟩
  match i, hx, hy with
  | 0, hx, hy =>
    cases Option.some.inj hx; cases Option.some.inj hy
    exact eq_offsT h1 h2 a c l8 0
  | 1, hx, hy =>
    cases Option.some.inj hx; cases Option.some.inj hy
    exact .inl ⟨rfl, rfl⟩
  | i + 2, hx, _ => simp at hx
theorem eq_mean {H : Hp} {t u : Addr} {os : List Off} {b : Int} {ks : List Nat} (h1 : H t = some (meanT os b ks)) (h2 : H u = some (meanT os b ks)) : Eq2 H 3 (.ref t) (.ref u) := eq_two h1 h2 rfl rfl 2
/-- guests are made -/
theorem make_goG {K : PySem.W.Frag} {C : Addr} {H : Hp} {x dx a : Addr} {ts : List Addr} {os : List Off} {b : Int} {R : Hp → Prop} {E : XK} (n1 : H x = none) (n2 : H dx = none) (ne : dx ≠ x) (hS : SqS K H a (ts.map V.ref)) (hT : OffsAt H ts os) (ok : OffsOk os) (l8 : os.length ≤ 8) (b0 : 1 ≤ b) (b1 : b ≤ 1000)
    (k : ∀ H', GuAt C H' x os b → Same H H' → R H') : spInitG K C [.ref x, .ref a, .int b] (upd (upd H dx (.own x)) x (.ins C dx [])) (fun v H2 => v = .non ∧ R H2) E := by
  have sdx := same_upd (o := .own x) n2
  have nmm : (upd H dx (.own x)) x = none := by rw [upd_ne ne.symm]; exact n1
  have sm := sdx.trans (same_upd (o := .ins C dx []) nmm)
  exact ⟨x, a, dx, ts, os, b, rfl, upd_same, hS.same sm, hT.same sm, ok, l8, b0, b1, fun H' tk fr => ⟨rfl, k H' tk fun c o e => fr c o (sm _ _ e) (ne_of_none e n1)⟩⟩
/-- what holds of values that are no guests -/
structure OddT (K : PySem.W.Frag) (C : Addr) : Prop where
  nN : PySem.W.notFirst K C (.type "NoneType") = true
  nS : PySem.W.notFirst K C (.type "str") = true
  nT : PySem.W.notFirst K C (.type "tuple") = true
  kN : PySem.W.kitOne K (.type "NoneType") (.ref C) = some false
  kS : PySem.W.kitOne K (.type "str") (.ref C) = some false
  kT : PySem.W.kitOne K (.type "tuple") (.ref C) = some false
/-- what guests are not equal to -/
inductive Oth (C : Addr) (H : Hp) (os : List Off) (b : Int) : V → Prop where
  | gu {p : Addr} {qs : List Off} {c : Int} (g : GuAt C H p qs c) (n : ¬ (os = qs ∧ b = c)) : Oth C H os b (.ref p)
  | non : Oth C H os b .non
  | str (z : Str) : Oth C H os b (.str z)
  | tup {a : Addr} {xs : List V} (e : H a = some (.tup xs)) : Oth C H os b (.ref a)
theorem GuAt.frame {C : Addr} {H H' : Hp} {p : Addr} {os : List Off} {b : Int} (h : GuAt C H p os b) (s : ∀ c o, H c = some o → (∀ ys, o ≠ .lst ys) → H' c = some o) : GuAt C H' p os b := by
  obtain ⟨dx, a, ts, h1, h2, h3⟩ := h
  exact ⟨dx, a, ts, s _ _ h1 (by intro _ z; cases z), s _ _ h2 (by intro _ z; cases z), h3.1, fun i t e => by
    obtain ⟨o, g1, g2⟩ := h3.2 i t e
    exact ⟨o, g1, s _ _ g2 (by intro _ z; cases z)⟩⟩
theorem Oth.frame {C : Addr} {H H' : Hp} {os : List Off} {b : Int} {x : V} (h : Oth C H os b x) (s : ∀ c o, H c = some o → (∀ ys, o ≠ .lst ys) → H' c = some o) : Oth C H' os b x := by
  cases h with
  | gu g n => exact .gu (g.frame s) n
  | non => exact .non
  | str z => exact .str z
  | tup e => exact .tup (s _ _ e (by intro _ z; cases z))
theorem Oth.same {C : Addr} {H H' : Hp} {os : List Off} {b : Int} {x : V} (h : Oth C H os b x) (s : Same H H') : Oth C H' os b x := h.frame fun c o e _ => s c o e
theorem Oth.wrote {C : Addr} {H : Hp} {os : List Off} {b : Int} {x : V} {D : Addr} {xs : List V} {o : HO} (h : Oth C H os b x) (e : H D = some (.lst xs)) : Oth C (upd H D o) os b x := h.frame fun c z ez n => by
  rw [upd_ne (fun q => by subst q; rw [e] at ez; exact n xs (Option.some.inj ez).symm)]
  exact ez
theorem Oth.isIn {K : PySem.W.Frag} {C : Addr} {H : Hp} {os : List Off} {b : Int} {x : V} (T : OddT K C) (h : Oth C H os b x) : IsIn H x C ∨ Odd K C H x := by
  cases h with
  | gu g n => obtain ⟨dx, a, ts, h1, _⟩ := g; exact .inl ⟨_, dx, _, rfl, h1⟩
  | non => exact .inr (.non T.nN)
  | str z => exact .inr (.str z T.nS)
  | tup e => exact .inr (.tup e T.nT)
theorem Oth.eq {K : PySem.W.Frag} {C : Addr} {H : Hp} {os : List Off} {b : Int} {x : V} {p : Addr} {Q : VK} {E : XK} (T : OddT K C) (h : Oth C H os b x) (g : GuAt C H p os b) (q : Q (.bl false) H) : spEqG K C [.ref p, x] H Q E := by
  refine ⟨p, x, os, b, rfl, g, ?_⟩
  cases h with
  | @gu p' qs c g n =>
    refine .inl ⟨p', qs, c, rfl, g, ?_⟩
    rw [show (decide (os = qs) && decide (b = c)) = false by
      by_cases e1 : os = qs <;> by_cases e2 : b = c <;> simp [e1, e2]
      exact n ⟨e1, e2⟩]
    exact q
  | non => exact .inr ⟨_, .base .non, T.kN, q⟩
  | str z => exact .inr ⟨_, .base (.str z), T.kS, q⟩
  | tup e => exact .inr ⟨_, .base (.tup e), T.kT, q⟩
theorem cut_from_l (xs : List V) (i : Nat) : cutV xs (some ((i : Nat) : Int)) none = xs.drop i := by
  unfold cutV
  rw [HT.sIx_nat]
  have e : HT.sIx xs.length xs.length none = xs.length := rfl
  rw [e]
  by_cases h : i ≤ xs.length
  · rw [Nat.min_eq_left h, List.take_of_length_le (by rw [List.length_drop]; exact Nat.le_refl _)]
  · rw [Nat.min_eq_right (by omega), List.drop_length, List.drop_of_length_le (by omega), List.take_nil]
theorem OffsAt.drop1 {H : Hp} {ts : List Addr} {os : List Off} (h : OffsAt H ts os) : OffsAt H (ts.drop 1) (os.drop 1) := by
  refine ⟨by rw [List.length_drop, List.length_drop, h.1], fun i t e => ?_⟩
  rw [List.getElem?_drop] at e ⊢
  exact h.2 _ t e
def otherB (b : Int) : Int := b - 1 + 2 * (if decide (V.int b = V.int 1) = true then 1 else 0)
theorem otherB_ok {b : Int} (h0 : 1 ≤ b) (h1 : b ≤ 1000) : 1 ≤ otherB b ∧ otherB b ≤ 1000 ∧ b ≠ otherB b := by
  unfold otherB
  by_cases e : b = 1
  · subst e
    rw [if_pos (by decide)]
    omega
  · rw [if_neg (by simp [e])]
    omega
end TK

namespace TK
open PySem PySem.Spec PyProof.Rows L2
/-! lowest terms -/
def red (a b : Int) : Int × Int := (a / gcdI a b, b / gcdI a b)
theorem red_mul {a b : Int} (h0 : 0 ≤ a) (hb : 1 ≤ b) : ∃ g : Int, 0 < g ∧ a = (red a b).1 * g ∧ b = (red a b).2 * g ∧ 1 ≤ (red a b).2 ∧ 0 ≤ (red a b).1 ∧ Nat.Coprime (red a b).1.natAbs (red a b).2.natAbs := by
  have g0 := (gcd_bd (a := a) (b := b) hb).1
  have d1 : gcdI a b ∣ a := by unfold gcdI; exact Int.ofNat_dvd_left.mpr (Nat.gcd_dvd_left _ _)
  have d2 : gcdI a b ∣ b := by unfold gcdI; exact Int.ofNat_dvd_left.mpr (Nat.gcd_dvd_right _ _)
  have e1 : a / gcdI a b * gcdI a b = a := Int.ediv_mul_cancel d1
  have e2 : b / gcdI a b * gcdI a b = b := Int.ediv_mul_cancel d2
  refine ⟨gcdI a b, g0, e1.symm, e2.symm, ?_, Int.ediv_nonneg h0 (by omega), ?_⟩
  · show 1 ≤ b / gcdI a b
    have : 0 < b / gcdI a b := Int.ediv_pos_of_pos_of_dvd (by omega) (by omega) d2
    omega
  · show Nat.Coprime (a / gcdI a b).natAbs (b / gcdI a b).natAbs
    rw [Int.natAbs_ediv_of_dvd d1, Int.natAbs_ediv_of_dvd d2]
    unfold gcdI
    rw [Int.natAbs_natCast]
    exact Nat.coprime_div_gcd_div_gcd (Nat.gcd_pos_of_pos_right _ (by omega))
theorem red_cross {a b : Int} (h0 : 0 ≤ a) (hb : 1 ≤ b) : (red a b).1 * b = a * (red a b).2 := by
  obtain ⟨g, g0, e1, e2, _⟩ := red_mul h0 hb
  generalize red a b = r at *
  subst e1
  subst e2
  rw [Int.mul_assoc, Int.mul_comm r.2 g]
/-- cross products with the lowest terms -/
theorem red_le {a b c d : Int} (h0 : 0 ≤ a) (hb : 1 ≤ b) : c * (red a b).2 ≤ (red a b).1 * d ↔ c * b ≤ a * d := by
  obtain ⟨g, g0, e1, e2, _⟩ := red_mul h0 hb
  generalize red a b = r at *
  subst e1
  subst e2
  rw [show c * (r.2 * g) = c * r.2 * g from (Int.mul_assoc ..).symm, show r.1 * g * d = r.1 * d * g by rw [Int.mul_assoc, Int.mul_comm g d, ← Int.mul_assoc]]
  exact (Int.mul_le_mul_right g0).symm
theorem red_le' {a b c d : Int} (h0 : 0 ≤ a) (hb : 1 ≤ b) : (red a b).1 * d ≤ c * (red a b).2 ↔ a * d ≤ c * b := by
  obtain ⟨g, g0, e1, e2, _⟩ := red_mul h0 hb
  generalize red a b = r at *
  subst e1
  subst e2
  rw [show c * (r.2 * g) = c * r.2 * g from (Int.mul_assoc ..).symm, show r.1 * g * d = r.1 * d * g by rw [Int.mul_assoc, Int.mul_comm g d, ← Int.mul_assoc]]
  exact (Int.mul_le_mul_right g0).symm
theorem red_uniq {a b c d : Int} (h0 : 0 ≤ a) (hb : 1 ≤ b) (h1 : 0 ≤ c) (hd : 1 ≤ d) (e : a * d = c * b) : red a b = red c d := by
  obtain ⟨g, g0, a1, a2, a3, a4, a5⟩ := red_mul h0 hb
  obtain ⟨k, k0, c1, c2, c3, c4, c5⟩ := red_mul h1 hd
  generalize red a b = r at *
  generalize red c d = s at *
  have e2 : r.1 * s.2 = s.1 * r.2 := by
    rw [a1, a2, c1, c2] at e
    have : (r.1 * s.2) * (g * k) = (s.1 * r.2) * (g * k) := by
      calc r.1 * s.2 * (g * k) = r.1 * g * (s.2 * k) := by simp only [Int.mul_assoc, Int.mul_left_comm, Int.mul_comm]
        _ = s.1 * k * (r.2 * g) := e
        _ = s.1 * r.2 * (g * k) := by simp only [Int.mul_assoc, Int.mul_left_comm, Int.mul_comm]
    exact Int.eq_of_mul_eq_mul_right (Int.ne_of_gt (Int.mul_pos g0 k0)) this
  have n : r.1.natAbs * s.2.natAbs = s.1.natAbs * r.2.natAbs := by rw [← Int.natAbs_mul, ← Int.natAbs_mul, e2]
  have q1 : r.2.natAbs ∣ s.2.natAbs := (Nat.Coprime.symm a5).dvd_of_dvd_mul_left ⟨s.1.natAbs, by rw [n, Nat.mul_comm]⟩
  have q2 : s.2.natAbs ∣ r.2.natAbs := (Nat.Coprime.symm c5).dvd_of_dvd_mul_left ⟨r.1.natAbs, by rw [← n, Nat.mul_comm]⟩
  have q3 := Nat.dvd_antisymm q1 q2
  have q4 : r.2 = s.2 := by omega
  have q5 : r.1 = s.1 := by
    rw [q4] at e2
    exact Int.eq_of_mul_eq_mul_right (by omega) e2
  exact Prod.ext q5 q4
theorem red_zero : red 0 1 = (0, 1) := by decide
/-! the order by worth -/
def bef (v : Nat → Int) (j k : Nat) : Prop := v k < v j ∨ (v j = v k ∧ j < k)
instance {v : Nat → Int} {j k : Nat} : Decidable (bef v j k) := inferInstanceAs (Decidable (_ ∨ _))
theorem bef_asymm {v : Nat → Int} {j k : Nat} (h : bef v j k) : ¬ bef v k j := by
  unfold bef at *
  omega
theorem bef_irr {v : Nat → Int} {k : Nat} : ¬ bef v k k := by
  unfold bef
  omega
def aheadN (n : Nat) (v : Nat → Int) (k : Nat) : Nat := ((List.range n).filter fun j => decide (bef v j k)).length
structure Ordd (n : Nat) (v : Nat → Int) (S : List Nat) : Prop where
  pm : S.Perm (List.range n)
  pw : S.Pairwise (bef v)
theorem Ordd.ahead {n : Nat} {v : Nat → Int} {A B : List Nat} {k : Nat} (h : Ordd n v (A ++ k :: B)) : aheadN n v k = A.length := by
  unfold aheadN
  rw [← (h.pm.filter _).length_eq, List.filter_append, List.filter_cons, if_neg (by simp [bef_irr])]
  obtain ⟨_, h2, h3⟩ := List.pairwise_append.mp h.pw
  obtain ⟨h4, _⟩ := List.pairwise_cons.mp h2
  rw [List.filter_eq_self.mpr fun j hj => decide_eq_true (h3 j hj k List.mem_cons_self), List.filter_eq_nil_iff.mpr fun j hj => by
    simpa using bef_asymm (h4 j hj)]
  rw [List.append_nil]
def capT : Option Int → List Nat → List Nat
  | none, l => l
  | some c, l => l.take c.toNat
def capL : Option Int → Nat → Prop
  | none, _ => True
  | some c, a => (a : Int) < c
instance {c : Option Int} {a : Nat} : Decidable (capL c a) := by cases c <;> unfold capL <;> infer_instance
def capO : Option Int → Nat → Prop
  | none, _ => True
  | some c, a => (a : Int) ≤ c
instance {c : Option Int} {a : Nat} : Decidable (capO c a) := by cases c <;> unfold capO <;> infer_instance
def capN (c : Option Int) : Prop := ∀ x, c = some x → 0 ≤ x
def pickS (v : Nat → Int) (cap : Option Int) (S : List Nat) : List Nat := capT cap (S.filter fun k => decide (0 < v k))
def pickL (n : Nat) (v : Nat → Int) (cap : Option Int) : List Nat := (List.range n).filter fun k => decide (0 < v k) && decide (capL cap (aheadN n v k))
/-- who is worth something stands in front -/
theorem Ordd.front {n : Nat} {v : Nat → Int} {S : List Nat} (h : S.Pairwise (bef v)) : ∃ Z, S = (S.filter fun k => decide (0 < v k)) ++ Z ∧ ∀ z ∈ Z, v z ≤ 0 := by
  induction S with
  | nil => exact ⟨[], rfl, fun _ h => nomatch h⟩
  | cons a S ih =>
    obtain ⟨h1, h2⟩ := List.pairwise_cons.mp h
    by_cases ha : 0 < v a
    · obtain ⟨Z, e, hz⟩ := ih h2
      refine ⟨Z, ?_, hz⟩
      rw [List.filter_cons, if_pos (decide_eq_true ha), List.cons_append, ← e]
    · refine ⟨a :: S, ?_, fun z hz => ?_⟩
      · rw [List.filter_eq_nil_iff.mpr fun k hk => ?_]
        · rfl
        · have : v k ≤ 0 := by
            rcases List.mem_cons.mp hk with rfl | hk
            · omega
            · have := h1 k hk
              unfold bef at this
              omega
          simp; omega
      · rcases List.mem_cons.mp hz with rfl | hz
        · omega
        · have := h1 z hz
          unfold bef at this
          omega
theorem pick_mem {n : Nat} {v : Nat → Int} {S : List Nat} (h : Ordd n v S) {cap : Option Int} (hc : capN cap) (k : Nat) : k ∈ pickS v cap S ↔ k ∈ pickL n v cap := by
  obtain ⟨Z, e, hz⟩ := Ordd.front (n := n) h.pw
  have nd : S.Nodup := h.pm.nodup_iff.mpr List.nodup_range
  unfold pickL
  rw [List.mem_filter, List.mem_range, Bool.and_eq_true, decide_eq_true_iff, decide_eq_true_iff]
  have hk : k ∈ S ↔ k < n := by rw [h.pm.mem_iff, List.mem_range]
  unfold pickS
  generalize eW : (S.filter fun k => decide (0 < v k)) = W at e
  have hW : ∀ k, k ∈ W ↔ k ∈ S ∧ 0 < v k := fun k => by rw [← eW, List.mem_filter, decide_eq_true_iff]
  have pos : ∀ (A B : List Nat), W = A ++ k :: B → aheadN n v k = A.length := fun A B ew => by
    have : S = A ++ k :: (B ++ Z) := by rw [e, ew]; simp
    rw [this] at h
    exact h.ahead
  cases cap with
  | none =>
    show k ∈ W ↔ _
    rw [hW, hk]
    exact ⟨fun ⟨a, b⟩ => ⟨a, b, trivial⟩, fun ⟨a, b, _⟩ => ⟨a, b⟩⟩
  | some c =>
    have c0 := hc c rfl
    show k ∈ W.take c.toNat ↔ _
    constructor
    · intro hm
      obtain ⟨h1, h2⟩ := (hW k).mp (List.mem_of_mem_take hm)
      refine ⟨hk.mp h1, h2, ?_⟩
      obtain ⟨A, B, eAB⟩ := List.append_of_mem hm
      have ew : W = A ++ k :: (B ++ W.drop c.toNat) := by
        conv => lhs; rw [← List.take_append_drop c.toNat W, eAB]
        simp
      show ((aheadN n v k : Nat) : Int) < c
      rw [pos A _ ew]
      have : (W.take c.toNat).length ≤ c.toNat := by rw [List.length_take]; omega
      rw [eAB, List.length_append, List.length_cons] at this
      omega
    · rintro ⟨h1, h2, h3⟩
      obtain ⟨A, B, eAB⟩ := List.append_of_mem ((hW k).mpr ⟨hk.mpr h1, h2⟩)
      have h4 : ((aheadN n v k : Nat) : Int) < c := h3
      rw [pos A B eAB] at h4
      rw [eAB, List.take_append]
      refine List.mem_append_right _ ?_
      rw [show c.toNat - A.length = (c.toNat - A.length - 1) + 1 by omega, List.take_succ_cons]
      exact List.mem_cons_self
theorem pick_nd {n : Nat} {v : Nat → Int} {S : List Nat} (h : Ordd n v S) {cap : Option Int} : (pickS v cap S).Nodup := by
  have nd : (S.filter fun k => decide (0 < v k)).Nodup := List.Nodup.sublist List.filter_sublist (h.pm.nodup_iff.mpr List.nodup_range)
  unfold pickS
  cases cap with
  | none => exact nd
  | some c => exact List.Nodup.sublist (List.take_sublist _ _) nd
theorem pickL_nd {n : Nat} {v : Nat → Int} {cap : Option Int} : (pickL n v cap).Nodup := List.Nodup.sublist List.filter_sublist List.nodup_range
theorem pick_perm {n : Nat} {v : Nat → Int} {S : List Nat} (h : Ordd n v S) {cap : Option Int} (hc : capN cap) : (pickS v cap S).Perm (pickL n v cap) := (List.perm_ext_iff_of_nodup (pick_nd h) pickL_nd).mpr (pick_mem h hc)

theorem pickL_ok {n : Nat} {v : Nat → Int} {cap : Option Int} : KsOk n (pickL n v cap) := KsOk.of_filter _
end TK

namespace TK
open PySem PySem.Spec PyProof.Rows L2
theorem perm_sum {l m : List Int} (h : l.Perm m) : l.sum = m.sum := by
  induction h with
  | nil => rfl
  | cons x _ ih => simp [ih]
  | swap x y l => simp only [List.sum_cons]; omega
  | trans _ _ a b => exact a.trans b
theorem sum_erase {g : Nat → Int} {P : List Nat} {a : Nat} (h : a ∈ P) : (P.map g).sum = g a + ((P.erase a).map g).sum := by
  have := perm_sum ((List.perm_cons_erase h).map g)
  rw [this, List.map_cons, List.sum_cons]
theorem sum_sub {g : Nat → Int} : ∀ {A P : List Nat}, A.Nodup → (∀ k ∈ A, k ∈ P) → (∀ k ∈ P, 0 ≤ g k) → (A.map g).sum ≤ (P.map g).sum
  | [], P, _, _, h => by
    rw [List.map_nil, List.sum_nil]
    induction P with
    | nil => simp
    | cons p P ih =>
      rw [List.map_cons, List.sum_cons]
      have := h p List.mem_cons_self
      have := ih (fun k hk => by cases hk) fun k hk => h k (List.mem_cons_of_mem _ hk)
      omega
  | a :: A, P, nd, s, h => by
    obtain ⟨n1, n2⟩ := List.nodup_cons.mp nd
    have ha := s a List.mem_cons_self
    rw [sum_erase ha, List.map_cons, List.sum_cons]
    have := sum_sub (A := A) (P := P.erase a) n2 (fun k hk => (List.mem_erase_of_ne (fun e => n1 (by rw [← e]; exact hk))).mpr (s k (List.mem_cons_of_mem _ hk))) fun k hk => h k (List.mem_of_mem_erase hk)
    omega
theorem sum_le {f g : Nat → Int} : ∀ {A : List Nat}, (∀ k ∈ A, f k ≤ g k) → (A.map f).sum ≤ (A.map g).sum
  | [], _ => by simp
  | a :: A, h => by
    have h1 := h a List.mem_cons_self
    have h2 := sum_le (A := A) fun k hk => h k (List.mem_cons_of_mem _ hk)
    simp only [List.map_cons, List.sum_cons]
    omega
theorem sum_add (t : Int) (g : Nat → Int) : ∀ A : List Nat, (A.map fun k => t + g k).sum = t * (A.length : Int) + (A.map g).sum
  | [] => by simp
  | a :: A => by
    simp only [List.map_cons, List.sum_cons, List.length_cons, sum_add t g A]
    rw [Int.natCast_add, Int.mul_add]
    simp
    omega
theorem sum_if (P : List Nat) (g : Nat → Int) : ∀ A : List Nat, (A.map fun k => if k ∈ P then g k else 0).sum = ((A.filter fun k => decide (k ∈ P)).map g).sum
  | [] => by simp
  | a :: A => by
    rw [List.map_cons, List.sum_cons, List.filter_cons, sum_if P g A]
    by_cases h : a ∈ P
    · rw [if_pos h, if_pos (decide_eq_true h), List.map_cons, List.sum_cons]
    · rw [if_neg h, if_neg (by simp [h]), Int.zero_add]
theorem sum_cong {f g : Nat → Int} {A : List Nat} (h : ∀ k ∈ A, f k = g k) : (A.map f).sum = (A.map g).sum := by rw [List.map_congr_left h]
/-- the threshold -/
theorem pick_tau {n : Nat} {v : Nat → Int} {S : List Nat} (h : Ordd n v S) {cap : Option Int} : ∃ t : Int, 0 ≤ t ∧ (∀ k ∈ pickS v cap S, t ≤ v k) ∧ (∀ k ∈ S, k ∉ pickS v cap S → v k ≤ t) ∧ (t = 0 ∨ ∃ c, cap = some c ∧ c.toNat ≤ (pickS v cap S).length) := by
  obtain ⟨Z, e, hz⟩ := Ordd.front (n := n) h.pw
  unfold pickS
  generalize eW : (S.filter fun k => decide (0 < v k)) = W at e
  have hW : ∀ k ∈ W, 0 < v k := fun k hk => by
    rw [← eW, List.mem_filter, decide_eq_true_iff] at hk
    exact hk.2
  have full : ∃ t : Int, 0 ≤ t ∧ (∀ k ∈ W, t ≤ v k) ∧ (∀ k ∈ S, k ∉ W → v k ≤ t) ∧ t = 0 := by
    refine ⟨0, Int.le_refl _, fun k hk => Int.le_of_lt (hW k hk), fun k hk hn => ?_, rfl⟩
    rw [e] at hk
    exact (List.mem_append.mp hk).elim (fun h => absurd h hn) (hz k)
  cases cap with
  | none =>
    obtain ⟨t, t0, t1, t2, t3⟩ := full
    exact ⟨t, t0, t1, t2, .inl t3⟩
  | some c =>
    show ∃ t : Int, 0 ≤ t ∧ (∀ k ∈ W.take c.toNat, t ≤ v k) ∧ (∀ k ∈ S, k ∉ W.take c.toNat → v k ≤ t) ∧ (t = 0 ∨ ∃ c', some c = some c' ∧ c'.toNat ≤ (W.take c.toNat).length)
    by_cases hl : W.length ≤ c.toNat
    · rw [List.take_of_length_le hl]
      obtain ⟨t, t0, t1, t2, t3⟩ := full
      exact ⟨t, t0, t1, t2, .inl t3⟩
    · have hl2 : c.toNat < W.length := by omega
      have ed : W = W.take c.toNat ++ W[c.toNat] :: W.drop (c.toNat + 1) := by
        conv => lhs; rw [← List.take_append_drop c.toNat W, List.drop_eq_getElem_cons hl2]
      have es : S = W.take c.toNat ++ W[c.toNat] :: (W.drop (c.toNat + 1) ++ Z) := by
        rw [e]
        exact (congrArg (· ++ Z) ed).trans (by rw [List.append_assoc, List.cons_append])
      have pw := h.pw
      rw [es] at pw
      obtain ⟨_, p2, p3⟩ := List.pairwise_append.mp pw
      obtain ⟨p4, _⟩ := List.pairwise_cons.mp p2
      refine ⟨v W[c.toNat], Int.le_of_lt (hW _ (List.getElem_mem hl2)), fun k hk => ?_, fun k hk hn => ?_, .inr ⟨c, rfl, by rw [List.length_take]; omega⟩⟩
      · have := p3 k hk _ List.mem_cons_self
        unfold bef at this
        omega
      · rw [es] at hk
        rcases List.mem_append.mp hk with hk | hk
        · exact absurd hk hn
        · rcases List.mem_cons.mp hk with rfl | hk
          · exact Int.le_refl _
          · have := p4 k hk
            unfold bef at this
            omega
theorem pick_max {n : Nat} {v : Nat → Int} {S : List Nat} (h : Ordd n v S) {cap : Option Int} {L : List Nat} (kL : KsOk n L) (cL : capO cap L.length) : (L.map v).sum ≤ ((pickS v cap S).map v).sum := by
  obtain ⟨t, t0, t1, t2, t3⟩ := pick_tau h (cap := cap)
  have nL : L.Nodup := by rw [← kL]; exact List.Nodup.sublist List.filter_sublist List.nodup_range
  have nP := pick_nd h (cap := cap)
  generalize pickS v cap S = P at *
  have s1 : (L.map v).sum ≤ (L.map fun k => t + (if k ∈ P then v k - t else 0)).sum := sum_le fun k hk => by
    have kS : k ∈ S := h.pm.mem_iff.mpr (List.mem_range.mpr (kL.lt k hk))
    by_cases e : k ∈ P
    · rw [if_pos e]; omega
    · rw [if_neg e]
      have := t2 k kS e
      omega
  rw [sum_add t (fun k => if k ∈ P then v k - t else 0) L, sum_if P (fun k => v k - t) L] at s1
  have s2 : ((L.filter fun k => decide (k ∈ P)).map fun k => v k - t).sum ≤ (P.map fun k => v k - t).sum := sum_sub (List.Nodup.sublist List.filter_sublist nL) (fun k hk => by simpa using (List.mem_filter.mp hk).2) fun k hk => by
    have := t1 k hk
    omega
  have s3 : (P.map v).sum = t * (P.length : Int) + (P.map fun k => v k - t).sum := by
    rw [← sum_add t (fun k => v k - t) P]
    exact sum_cong fun k _ => by omega
  have s4 : t * (L.length : Int) ≤ t * (P.length : Int) := by
    rcases t3 with rfl | ⟨c, rfl, hc⟩
    · simp
    · have : (L.length : Int) ≤ c := cL
      exact Int.mul_le_mul_of_nonneg_left (by omega) t0
  omega
/-! excesses -/
def overF (os : List Off) (r : Int × Int) (k : Nat) : Int := (os.getD k (0, 1)).2 * ((os.getD k (0, 1)).1 * r.2 - r.1)
def exF (os : List Off) (r : Int × Int) (ks : List Nat) : Int := (ks.map (overF os r)).sum
theorem ex_eq (os : List Off) (r : Int × Int) : ∀ ks : List Nat, exF os r ks = r.2 * topF os ks - r.1 * wgtF os ks
  | [] => by simp [exF, topF, wgtF]
  | k :: ks => by
    have ih := ex_eq os r ks
    unfold exF topF wgtF at *
    simp only [List.map_cons, List.sum_cons, ih, overF]
    rw [Int.mul_add, Int.mul_add, Int.mul_sub]
    have e1 : (os.getD k (0, 1)).2 * ((os.getD k (0, 1)).1 * r.2) = r.2 * ((os.getD k (0, 1)).1 * (os.getD k (0, 1)).2) := by simp only [Int.mul_assoc, Int.mul_left_comm, Int.mul_comm]
    have e2 : (os.getD k (0, 1)).2 * r.1 = r.1 * (os.getD k (0, 1)).2 := Int.mul_comm ..
    rw [e1, e2]
    omega
def Allow (n : Nat) (cap : Option Int) (ks : List Nat) : Prop := KsOk n ks ∧ capO cap ks.length
def meanF (os : List Off) (b : Int) (ks : List Nat) : Int × Int := red (topF os ks) (b + wgtF os ks)
/-- a rate that some lot has -/
structure Rate (os : List Off) (b : Int) (cap : Option Int) (r : Int × Int) : Prop where
  lot : ∃ L, Allow os.length cap L ∧ exF os r L = r.1 * b
  low : ∃ x y : Int, 0 ≤ x ∧ 1 ≤ y ∧ r = red x y
  p1 : 0 ≤ r.1
  p2 : 1 ≤ r.2
theorem Rate.zero {os : List Off} {b : Int} {cap : Option Int} (hc : capN cap) : Rate os b cap (0, 1) := by
  refine ⟨⟨[], ⟨.nil, ?_⟩, by simp [exF]⟩, ⟨0, 1, by decide, by decide, red_zero.symm⟩, by decide, by decide⟩
  cases cap with
  | none => exact trivial
  | some c => exact hc c rfl
section
variable {os : List Off} {b : Int} {cap : Option Int} (ok : OffsOk os) (l8 : os.length ≤ 8) (b1 : 1 ≤ b)
include ok l8 b1
theorem mean_ex {L : List Nat} (kL : KsOk os.length L) : exF os (meanF os b L) L = (meanF os b L).1 * b := by
  have t8 := top_bd ok l8 kL
  have w8 := wgt_bd ok l8 kL
  have := red_cross (a := topF os L) (b := b + wgtF os L) t8.1 (by omega)
  rw [ex_eq]
  unfold meanF
  rw [Int.mul_add] at this
  rw [Int.mul_comm (red (topF os L) (b + wgtF os L)).2]
  omega
theorem mean_rate {L : List Nat} (aL : Allow os.length cap L) : Rate os b cap (meanF os b L) := by
  have t8 := top_bd ok l8 aL.1
  have w8 := wgt_bd ok l8 aL.1
  obtain ⟨g, _, _, _, h1, h2, _⟩ := red_mul (a := topF os L) (b := b + wgtF os L) t8.1 (by omega)
  exact ⟨⟨L, aL, mean_ex ok l8 b1 aL.1⟩, ⟨_, _, t8.1, by omega, rfl⟩, h2, h1⟩
/-- the best lot at a rate is at least worth the rate -/
theorem rate_le {r : Int × Int} {S : List Nat} (hr : Rate os b cap r) (hS : Ordd os.length (overF os r) S) {M : List Nat} (hM : exF os r M = exF os r (pickS (overF os r) cap S)) : r.1 * (b + wgtF os M) ≤ topF os M * r.2 := by
  obtain ⟨L, aL, e⟩ := hr.lot
  have h := pick_max hS aL.1 aL.2
  have h2 : exF os r L ≤ exF os r M := by rw [hM]; exact h
  rw [e, ex_eq] at h2
  rw [Int.mul_add, Int.mul_comm (topF os M)]
  omega
/-- no lot is worth more than a rate that its best lot has -/
theorem rate_top {r : Int × Int} {S : List Nat} (hS : Ordd os.length (overF os r) S) {M : List Nat} (hM : exF os r M = exF os r (pickS (overF os r) cap S)) (kM : KsOk os.length M) (e : meanF os b M = r) {L : List Nat} (aL : Allow os.length cap L) : exF os r L ≤ r.1 * b := by
  have h := pick_max hS aL.1 aL.2
  have h2 : exF os r L ≤ exF os r M := by rw [hM]; exact h
  have := mean_ex ok l8 b1 kM
  rw [e] at this
  omega
theorem rate_top' {r : Int × Int} {L : List Nat} (h : exF os r L ≤ r.1 * b) : topF os L * r.2 ≤ r.1 * (b + wgtF os L) := by
  rw [ex_eq] at h
  rw [Int.mul_add, Int.mul_comm (topF os L)]
  omega
/-- else the next rate is greater -/
theorem rate_lt {r : Int × Int} (hr : Rate os b cap r) {M : List Nat} (kM : KsOk os.length M) (h : r.1 * (b + wgtF os M) ≤ topF os M * r.2) (ne : meanF os b M ≠ r) : r.1 * (b + wgtF os M) < topF os M * r.2 := by
  have t8 := top_bd ok l8 kM
  have w8 := wgt_bd ok l8 kM
  obtain ⟨x, y, hx, hy, er⟩ := hr.low
  rcases Int.lt_or_eq_of_le h with h | h
  · exact h
  · refine absurd ?_ ne
    unfold meanF
    rw [er] at h ⊢
    refine red_uniq t8.1 (by omega) hx hy ?_
    have h1 := (red_le' (c := topF os M) (d := b + wgtF os M) hx hy).mp (Int.le_of_eq h)
    have h2 := (red_le (c := topF os M) (d := b + wgtF os M) hx hy).mp (Int.le_of_eq h.symm)
    rw [Int.mul_comm x] at h1 h2
    rw [Int.mul_comm x]
    omega
end
def lotsN : Nat → List (List Nat)
  | 0 => [[]]
  | n + 1 => lotsN n ++ (lotsN n).map (· ++ [n])
theorem lots_len : ∀ n, (lotsN n).length = 2 ^ n
  | 0 => rfl
  | n + 1 => by
    show (lotsN n ++ (lotsN n).map (· ++ [n])).length = _
    rw [List.length_append, List.length_map, lots_len n, Nat.pow_succ]
    omega
theorem KsOk.up {n : Nat} {L : List Nat} (h : KsOk n L) : KsOk (n + 1) L := by
  unfold KsOk
  rw [List.range_succ, List.filter_append, h, List.filter_cons, if_neg ?_, List.filter_nil, List.append_nil]
  intro e
  have := h.lt n (of_decide_eq_true e)
  omega
theorem KsOk.snoc {n : Nat} {L : List Nat} (h : KsOk n L) : KsOk (n + 1) (L ++ [n]) := by
  unfold KsOk
  rw [List.range_succ, List.filter_append, List.filter_cons, if_pos (by simp), List.filter_nil]
  congr 1
  conv => rhs; rw [← h]
  refine List.filter_congr fun k hk => ?_
  have := List.mem_range.mp hk
  have hne : ¬ k = n := by omega
  simp [hne]
theorem lots_mem : ∀ {n : Nat} {L : List Nat}, L ∈ lotsN n ↔ KsOk n L
  | 0, L => by
    show L ∈ [[]] ↔ _
    rw [List.mem_singleton]
    constructor
    · rintro rfl; exact .nil
    · intro h; exact h.symm
  | n + 1, L => by
    show L ∈ lotsN n ++ (lotsN n).map (· ++ [n]) ↔ _
    rw [List.mem_append, List.mem_map]
    constructor
    · rintro (h | ⟨M, h, rfl⟩)
      · exact (lots_mem.mp h).up
      · exact (lots_mem.mp h).snoc
    · intro h
      have e : L = (List.range n).filter (fun k => decide (k ∈ L)) ++ (if n ∈ L then [n] else []) := by
        conv => lhs; rw [← h]
        rw [List.range_succ, List.filter_append, List.filter_cons, List.filter_nil]
        congr 1
        by_cases hn : n ∈ L
        · rw [if_pos hn, if_pos (decide_eq_true hn)]
        · rw [if_neg hn, if_neg (by simp [hn])]
      have k0 := KsOk.of_filter (n := n) fun k => decide (k ∈ L)
      by_cases hn : n ∈ L
      · rw [if_pos hn] at e
        exact .inr ⟨_, lots_mem.mpr k0, e.symm⟩
      · rw [if_neg hn, List.append_nil] at e
        rw [e]
        exact .inl (lots_mem.mpr k0)
/-- how many lots are worth more -/
def muF (os : List Off) (b : Int) (r : Int × Int) : Nat := (lotsN os.length).countP fun L => decide (r.1 * (b + wgtF os L) < topF os L * r.2)
theorem count_lt {α : Type} {p q : α → Bool} : ∀ {l : List α}, (∀ x ∈ l, q x = true → p x = true) → (∃ x ∈ l, p x = true ∧ q x = false) → l.countP q < l.countP p
  | [], _, h => by obtain ⟨x, hx, _⟩ := h; cases hx
  | a :: l, h, e => by
    have mono : l.countP q ≤ l.countP p := List.countP_mono_left fun x hx hq => h x (List.mem_cons_of_mem _ hx) hq
    rw [List.countP_cons, List.countP_cons]
    obtain ⟨x, hx, h1, h2⟩ := e
    rcases List.mem_cons.mp hx with rfl | hx
    · rw [h1, h2]
      simp
      omega
    · have := count_lt (l := l) (fun y hy => h y (List.mem_cons_of_mem _ hy)) ⟨x, hx, h1, h2⟩
      have h3 := h a List.mem_cons_self
      cases e1 : q a with
      | false => cases p a <;> simp <;> omega
      | true => rw [h3 e1]; simp; omega
theorem mu_lt {os : List Off} {b : Int} (ok : OffsOk os) (l8 : os.length ≤ 8) (b1 : 1 ≤ b) {r : Int × Int} (p2 : 1 ≤ r.2) {M : List Nat} (kM : KsOk os.length M) (h : r.1 * (b + wgtF os M) < topF os M * r.2) : muF os b (meanF os b M) < muF os b r := by
  have t8 := top_bd ok l8 kM
  have w8 := wgt_bd ok l8 kM
  obtain ⟨g, g0, e1, e2, q2, q1, _⟩ := red_mul (a := topF os M) (b := b + wgtF os M) t8.1 (by omega)
  have hc := red_cross (a := topF os M) (b := b + wgtF os M) t8.1 (by omega)
  unfold muF meanF
  have h' : r.1 * (red (topF os M) (b + wgtF os M)).2 < (red (topF os M) (b + wgtF os M)).1 * r.2 := by
    refine Int.not_le.mp fun z => ?_
    have := (red_le' (c := r.1) (d := r.2) t8.1 (by omega)).mp z
    omega
  generalize red (topF os M) (b + wgtF os M) = s at *
  refine count_lt (fun L hL hq => ?_) ⟨M, lots_mem.mpr kM, decide_eq_true h, decide_eq_false (by omega)⟩
  have hq := of_decide_eq_true hq
  have wL := wgt_bd ok l8 (lots_mem.mp hL)
  refine decide_eq_true ?_
  have bp : 0 < b + wgtF os L := by omega
  generalize b + wgtF os L = B at *
  generalize topF os L = A at *
  have c1 : r.1 * s.2 * B < s.1 * r.2 * B := Int.mul_lt_mul_of_pos_right h' bp
  have c2 : s.1 * B * r.2 < A * s.2 * r.2 := Int.mul_lt_mul_of_pos_right hq (by omega)
  have c3 : r.1 * B * s.2 < A * r.2 * s.2 := by
    have e1 : r.1 * s.2 * B = r.1 * B * s.2 := by simp only [Int.mul_assoc, Int.mul_comm, Int.mul_left_comm]
    have e2 : s.1 * r.2 * B = s.1 * B * r.2 := by simp only [Int.mul_assoc, Int.mul_comm, Int.mul_left_comm]
    have e3 : A * s.2 * r.2 = A * r.2 * s.2 := by simp only [Int.mul_assoc, Int.mul_comm, Int.mul_left_comm]
    rw [← e1, ← e3]
    omega
  exact Int.lt_of_mul_lt_mul_right c3 (by omega)
end TK

namespace TK
open PySem PySem.Spec PyProof.Rows L2
abbrev s_Guests_picked : Stmt := inClass (topS 12) 7
theorem sc_Guests_picked : FnScope ["self", "rate", "most", "top", "bottom", "pairs", "wanted", "number", "charge", "weight", "loss"] ["self", "rate", "most"] (defScope s_Guests_picked) := ⟨rfl, rfl, rfl, by decide +kernel, rfl, by decide +kernel, by decide +kernel⟩
/-! an end of a slice that may be None -/
section
variable {X : Cx} {e : Expr} {te : TE}
theorem po_opt (h : PE X e te) : PO X (some e) (fun σ H Q => te σ H fun x H1 => (∃ i, x = .int i ∧ Q (some i) H1) ∨ (x = .non ∧ Q none H1)) := by
  refine ⟨fun pins s σ H Q I hw => ?_⟩
  rw [evalPart_some]
  refine thn (h.run pins s σ H _ I hw) fun u s1 ⟨x, H1, I1, r1, q1⟩ => ?_
  rcases q1 with ⟨i, rfl, q⟩ | ⟨rfl, q⟩
  · obtain ⟨t, rfl⟩ := r1
    exact ⟨some i, H1, I1, .int i t, q⟩
  · cases (show u = Value.none from r1)
    exact ⟨none, H1, I1, .none, q⟩
end
theorem gTup2 {K : PySem.W.Frag} {i j : Nat} {e : Addr} {x y : V} {σ : L2.St} {H : Hp} {Q : L2.St → Hp → Prop} (he : H e = some (.tup [x, y])) (σ' : L2.St) (hσ : (σ.set i (some x)).set j (some y) = σ') (h : Q σ' H) :
    gTup K 2 (gCons (gName i) (gCons (gName j) gNil)) (.ref e) σ H Q := by
  subst hσ
  exact ⟨_, _, rfl, tupAt he, rfl, _, _, rfl, _, _, rfl, rfl, h⟩
theorem gTupN {K : PySem.W.Frag} {i j k : Nat} {e t : Addr} {x y z : V} {σ : L2.St} {H : Hp} {Q : L2.St → Hp → Prop} (he : H e = some (.tup [x, .ref t])) (ht : H t = some (.tup [y, z])) (σ' : L2.St) (hσ : ((σ.set i (some x)).set j (some y)).set k (some z) = σ') (h : Q σ' H) :
    gTup K 2 (gCons (gName i) (gCons (gTup K 2 (gCons (gName j) (gCons (gName k) gNil))) gNil)) (.ref e) σ H Q := by
  subst hσ
  refine ⟨_, _, rfl, tupAt he, rfl, _, _, rfl, _, _, rfl, ?_⟩
  exact ⟨_, _, rfl, tupAt ht, rfl, _, _, rfl, _, _, rfl, rfl, rfl, h⟩
def capC : Option Int → V
  | none => .non
  | some c => .int c
theorem cut_cap (xs : List Nat) {cap : Option Int} (hc : capN cap) : cutV (xs.map kI) none cap = (capT cap xs).map kI := by
  unfold cutV
  rw [HT.sIx_none, List.drop_zero, Nat.sub_zero]
  cases cap with
  | none =>
    rw [HT.sIx_none, List.take_length]
    rfl
  | some c =>
    have c0 := hc c rfl
    obtain ⟨k, rfl⟩ : ∃ k : Nat, c = (k : Int) := ⟨c.toNat, by omega⟩
    rw [HT.sIx_nat]
    show _ = ((xs.take (k : Int).toNat).map kI)
    rw [Int.toNat_natCast, List.map_take, List.length_map]
    by_cases h : k ≤ xs.length
    · rw [Nat.min_eq_left h]
    · rw [Nat.min_eq_right (by omega), List.take_of_length_le (by rw [List.length_map]; exact Nat.le_refl _), List.take_of_length_le (by rw [List.length_map]; omega)]
theorem capT_len (xs : List Nat) (cap : Option Int) : (capT cap xs).length ≤ xs.length := by
  cases cap with
  | none => exact Nat.le_refl _
  | some c =>
    show (xs.take c.toNat).length ≤ _
    rw [List.length_take]
    omega
/-- two numbers of a pair -/
noncomputable def kOf (H : Hp) (x : V) : Int × Int := by
  classical
  exact if h : ∃ p : Int × Int, ∃ t, x = .ref t ∧ H t = some (.tup [.int p.1, .int p.2]) then h.choose else (0, 0)
theorem kOf_at {H : Hp} {t : Addr} {i j : Int} (h : H t = some (.tup [.int i, .int j])) : kOf H (.ref t) = (i, j) := by
  have e : ∃ p : Int × Int, ∃ t', (V.ref t) = .ref t' ∧ H t' = some (.tup [.int p.1, .int p.2]) := ⟨(i, j), t, rfl, h⟩
  unfold kOf
  rw [dif_pos e]
  obtain ⟨t', e1, e2⟩ := e.choose_spec
  cases e1
  rw [h] at e2
  injection e2 with e3
  injection e3 with e4
  injection e4 with e5 e6
  injection e6 with e7
  injection e5 with e8
  injection e7 with e9
  exact Prod.ext e8.symm e9.symm
theorem sorted_eq : ∀ {xs ys : List Int}, xs.Perm ys → xs.Pairwise (· ≤ ·) → ys.Pairwise (· ≤ ·) → xs = ys
  | [], ys, p, _, _ => (List.Perm.nil_eq p)
  | x :: xs, [], p, _, _ => absurd p.length_eq (by simp)
  | x :: xs, y :: ys, p, h, k => by
    obtain ⟨h1, h2⟩ := List.pairwise_cons.mp h
    obtain ⟨k1, k2⟩ := List.pairwise_cons.mp k
    have e : x = y := by
      have mx : x ∈ y :: ys := p.subset List.mem_cons_self
      have my : y ∈ x :: xs := p.symm.subset List.mem_cons_self
      rcases List.mem_cons.mp mx with e | mx
      · exact e
      rcases List.mem_cons.mp my with e | my
      · exact e.symm
      exact Int.le_antisymm (h1 y my) (k1 x mx)
    subst e
    rw [sorted_eq (List.perm_cons x |>.mp p) h2 k2]
theorem pickL_pw {n : Nat} {v : Nat → Int} {cap : Option Int} : ((pickL n v cap).map fun (k : Nat) => (k : Int)).Pairwise (· ≤ ·) := by
  rw [List.pairwise_map]
  refine List.Pairwise.imp (fun h => ?_) (List.Pairwise.sublist List.filter_sublist List.pairwise_lt_range)
  omega
/-- pairs of a loss and a number, at a row of addresses -/
def PairsAt (H : Hp) (us : List Addr) (v : Nat → Int) : Prop := ∀ (i : Nat) (u : Addr), us[i]? = some u → H u = some (.tup [.int (-(v i)), .int (i : Int)])
/-- the sorted pairs, as numbers -/
theorem sorted_pairs {H : Hp} {us : List Addr} {v : Nat → Int} {ys : List V} (hp : PairsAt H us v) (h1 : SrtO.Srtd (ltP (kOf H)) ys) (h2 : ys.Perm (us.map V.ref)) : ∃ S, Ordd us.length v S ∧ S.length = ys.length ∧ ∀ (i : Nat) (x : V), ys[i]? = some x → ∃ j u, S[i]? = some j ∧ x = .ref u ∧ H u = some (.tup [.int (-(v j)), .int (j : Int)]) := by
  have at1 : ∀ x ∈ ys, ∃ (j : Nat) (u : Addr), x = .ref u ∧ H u = some (.tup [.int (-(v j)), .int (j : Int)]) ∧ kOf H x = (-(v j), (j : Int)) := fun x hx => by
    have := h2.mem_iff.mp hx
    obtain ⟨u, hu, rfl⟩ := List.mem_map.mp this
    obtain ⟨j, hj⟩ := List.getElem?_of_mem hu
    exact ⟨j, u, rfl, hp j u hj, kOf_at (hp j u hj)⟩
  have pm : (ys.map fun x => (kOf H x).2.toNat).Perm (List.range us.length) := by
    refine (h2.map _).trans ?_
    rw [List.map_map]
    refine List.Perm.of_eq (List.ext_getElem (by simp) fun i a b => ?_)
    rw [List.getElem_map, List.getElem_range]
    have hi : i < us.length := by simpa using a
    show (kOf H (.ref us[i])).2.toNat = i
    rw [kOf_at (hp i _ (List.getElem?_eq_getElem hi))]
    exact Int.toNat_natCast i
  have nd : (ys.map fun x => (kOf H x).2.toNat).Nodup := pm.nodup_iff.mpr List.nodup_range
  refine ⟨ys.map fun x => (kOf H x).2.toNat, ⟨pm, ?_⟩, List.length_map .., fun i x hx => ?_⟩
  · rw [List.pairwise_map]
    have nd2 : ys.Pairwise fun x y => (kOf H x).2.toNat ≠ (kOf H y).2.toNat := List.pairwise_map.mp (List.nodup_iff_pairwise_ne.mp nd)
    refine List.Pairwise.imp_of_mem (fun {x y} hx hy h => ?_) (List.Pairwise.and h1 nd2)
    obtain ⟨j, u, _, _, e1⟩ := at1 x hx
    obtain ⟨k, w, _, _, e2⟩ := at1 y hy
    obtain ⟨g1, g2⟩ := h
    have g1 := SrtO.lexB_no.mp g1
    have a1 : (kOf H x).2.toNat = j := by rw [e1]; exact Int.toNat_natCast j
    have a2 : (kOf H y).2.toNat = k := by rw [e2]; exact Int.toNat_natCast k
    rw [a1, a2] at g2 ⊢
    rw [e1, e2] at g1
    simp only at g1
    unfold bef
    omega
  · obtain ⟨j, u, rfl, e1, e2⟩ := at1 x (List.mem_of_getElem? hx)
    refine ⟨j, u, ?_, rfl, e1⟩
    rw [List.getElem?_map, hx]
    show some (kOf H (.ref u)).2.toNat = some j
    rw [e2]
    exact congrArg some (Int.toNat_natCast j)
section
variable {P : Program} {w : World} {K : PySem.W.Frag} {mg : Str → Option Value} {base : Heap}
/-! Guests._picked -/
def spPicked (K : PySem.W.Frag) (C : Addr) : Sp := fun vs H Q _ => ∃ (p rt : Addr) (os : List Off) (b : Int) (r : Int × Int) (cap : Option Int), vs = [.ref p, .ref rt, capC cap] ∧ GuAt C H p os b ∧ OffsOk os ∧ os.length ≤ 8 ∧ H rt = some (.tup [.int r.1, .int r.2]) ∧ 0 ≤ r.2 ∧ r.2 ≤ 1000000 ∧ capN cap ∧
  ∀ H' t, Same H H' → (∃ S, Ordd os.length (overF os r) S) → H' t = some (.tup ((pickL os.length (overF os r) cap).map kI)) → Q (.ref t) H'
theorem ok_Guests_picked {f C : Addr} {fd : FuncData} (F : Fun K "_picked" "Guests._picked" s_Guests_picked f fd) (T : TxtG K C) (m_enumerate : mg "enumerate" = none) (m_sorted : mg "sorted" = none) (m_tuple : mg "tuple" = none) :
    FnOk P w K mg base CX0 1 f fd ["self", "rate", "most"] (spPicked K C) := by
  refine F.ok sc_Guests_picked (fun vs H Q E h => ?_) (fun cdv A outer s H vs Q E hr h => ?_)
  · obtain ⟨p, rt, os, b, r, cap, rfl, _⟩ := h
    rfl
  · obtain ⟨p, rt, os, b, r, cap, rfl, ⟨dx, a, ts, hp, hA, hT⟩, ok, l8, hr2, r20, r21, hc, q⟩ := h
    have tl : (ts.map V.ref).length = os.length := by rw [List.length_map, hT.1]
    refine ⟨_, (pss_cons (ps_asg (pv 1) (pg_tup (by rfl) (pgs_cons (pg_name (i := 3) sc_Guests_picked.nd rfl (.inr rfl)) (pgs_cons (pg_name (i := 4) sc_Guests_picked.nd rfl (.inr rfl)) pgs_nil))))
  (pss_cons (ps_setLc (i := 5) (own := [("number", 7), ("charge", 8), ("weight", 9)]) (by rfl) sc_Guests_picked.nd rfl rfl (sw_true rfl rfl rfl (by decide +kernel)) (pi_enumT (by rfl) m_enumerate (pa_cons (pe_fld (pv 0) rfl) pa_nil)) (blkOk_by (N := ["self", "rate", "most", "top", "bottom", "pairs", "wanted", "number", "charge", "weight", "loss"]) (sc := defScope s_Guests_picked) (by decide +kernel)) (fun _ _ _ _ _ => (pg_tupK (K := K) (n := 2) rfl (by rfl) (pgs_cons (pg_name (i := 7) sc_Guests_picked.nd rfl (.inl rfl)) (pgs_cons (pg_tupK (K := K) (n := 2) rfl (by rfl) (pgs_cons (pg_name (i := 8) sc_Guests_picked.nd rfl (.inl rfl)) (pgs_cons (pg_name (i := 9) sc_Guests_picked.nd rfl (.inl rfl)) pgs_nil))) pgs_nil)))) (fun _ _ _ _ _ => pts_nil) (fun _ _ _ _ _ => (pe_tup (pa_cons (pe_op op_mul (pv 9) (pe_op op_sub (pv 3) (pe_op op_mul (pv 8) (pv 4)))) (pa_cons (pv 7) pa_nil)))))
  (pss_cons (ps_setLc (i := 6) (own := [("loss", 10), ("number", 7)]) (by rfl) sc_Guests_picked.nd rfl rfl (sw_true rfl rfl rfl (by decide +kernel)) (pi_list (pe_callB cr_sortedPO (by rfl) m_sorted (by decide +kernel) (pa_cons (pv 5) pa_nil))) (blkOk_by (N := ["self", "rate", "most", "top", "bottom", "pairs", "wanted", "number", "charge", "weight", "loss"]) (sc := defScope s_Guests_picked) (by decide +kernel)) (fun _ _ _ _ _ => (pg_tupK (K := K) (n := 2) rfl (by rfl) (pgs_cons (pg_name (i := 10) sc_Guests_picked.nd rfl (.inl rfl)) (pgs_cons (pg_name (i := 7) sc_Guests_picked.nd rfl (.inl rfl)) pgs_nil)))) (fun _ _ _ _ _ => (pts_one (pt_cmpR op_lt (pv 10) pe_int (nomark _)))) (fun _ _ _ _ _ => (pv 7)))
  (pss_one (ps_ret (pe_callTy call_tuple_of (by rfl) m_tuple (by decide +kernel) (pa_cons (pe_callB cr_sorted (by rfl) m_sorted (by decide +kernel) (pa_cons (pe_slice sl_list (pv 6) po_none (po_opt (pv 2))) pa_nil)) pa_nil))))))), ?_⟩
    refine ⟨_, rfl, ?_⟩
    refine gTup2 hr2 [some (.ref p), some (.ref rt), some (capC cap), some (.int r.1), some (.int r.2), none, none, none, none, none, none] rfl ?_
    -- the pairs
    refine ⟨_, rfl, p, C, dx, _, _, rfl, hp, T.cl, T.nO, fldsG_offers _ _, a, _, rfl, tupAt hA, fun D nD => ?_⟩
    refine lc_it walk_enumT (fun i H' => ∃ us : List Addr, Same H H' ∧ H' D = some (.lst (us.map V.ref)) ∧ PairsAt H' us (overF os r) ∧ us.length = i) ⟨[], same_upd nD, upd_same, (fun _ _ h => nomatch h), rfl⟩ (fun i H' _ hq => same_tup hq.choose_spec.1 (tupAt hA)) (fun i x H1 H2 hi hq hy => ?_) (fun H' hq => ?_)
    · obtain ⟨us, s1, eD, hP, ul⟩ := hq
      obtain ⟨T0, x0, y0, rfl, nT, rfl, e1, e2⟩ := hy
      cases Option.some.inj e1
      obtain ⟨t, o, rfl, e3, e4, e5⟩ := hT.get e2
      have hi8 : i < 8 := by rw [tl] at hi; omega
      have sT := same_upd (o := .tup [.int (i : Nat), V.ref t]) nT
      have s2 := s1.trans sT
      have oo := ok o (List.mem_of_getElem? e4)
      have m1 := oo.c0
      have m2 := oo.c1
      have m3 := oo.w0
      have m4 := oo.w1
      refine gTupN upd_same (s2 _ _ e5) [some (.ref p), some (.ref rt), some (capC cap), some (.int r.1), some (.int r.2), none, none, some (.int (i : Nat)), some (.int o.1), some (.int o.2), none] (by simp [wipe]) ?_
      refine ⟨by simp [wipe], yesT ?_⟩
      refine ⟨_, rfl, _, rfl, _, rfl, _, rfl, _, _, rfl, rfl, .inl ⟨by omega, by omega⟩, _, _, rfl, rfl, _, _, rfl, rfl, .inl ⟨by omega, by omega⟩, ?_⟩
      refine ⟨_, rfl, (show (2 : Nat) ≤ sizeLine by decide), fun u nu => ?_⟩
      have su := same_upd (o := .tup [.int (o.2 * (r.1 - o.1 * r.2)), .int (i : Nat)]) nu
      have eD2 := su _ _ (sT _ _ eD)
      refine ⟨_, eD2, by rw [List.length_map, ul]; exact small1000 (by omega), us ++ [u], same_at (s2.trans su) nD, by rw [List.map_append]; exact upd_same, fun j u2 hj => ?_, by rw [List.length_append, ul]; rfl⟩
      by_cases hjl : j < us.length
      · rw [List.getElem?_append_left hjl] at hj
        have h3 := su _ _ (sT _ _ (hP j u2 hj))
        rw [upd_ne (ne_of h3 eD2 (by intro z; cases z))]
        exact h3
      · have hj3 := (List.getElem?_eq_some_iff.mp hj).1
        rw [List.length_append, List.length_singleton] at hj3
        obtain rfl : j = us.length := by omega
        rw [List.getElem?_append_right (Nat.le_refl _), Nat.sub_self] at hj
        cases Option.some.inj hj
        have uD : u ≠ D := (ne_of_none (sT _ _ eD) nu).symm
        rw [upd_ne uD, upd_same]
        have ev : overF os r us.length = -(o.2 * (r.1 - o.1 * r.2)) := by
          unfold overF
          rw [ul, List.getD_eq_getElem?_getD, e4]
          show o.2 * (o.1 * r.2 - r.1) = _
          rw [← Int.mul_neg, Int.neg_sub]
        rw [ev, Int.neg_neg, ul]
    obtain ⟨us, s1, eD, hP, ul⟩ := hq
    rw [tl] at ul
    -- the sorted pairs
    refine ⟨_, rfl, D, us.map V.ref, kOf H', rfl, lstAt eD, fun x hx => ?_, fun ys Y h1 h2 nY => ?_⟩
    · obtain ⟨u, hu, rfl⟩ := List.mem_map.mp hx
      obtain ⟨j, hj⟩ := List.getElem?_of_mem hu
      refine ⟨u, rfl, ?_⟩
      rw [kOf_at (hP j u hj)]
      exact hP j u hj
    have h3 : ys.Perm (us.map V.ref) := h2.perm
    obtain ⟨S, oS, lS, at2⟩ := sorted_pairs hP h1 h3
    rw [ul] at oS
    have yl : ys.length = os.length := by rw [h3.length_eq, List.length_map, ul]
    have sY := same_upd (o := .lst ys) nY
    have s2 := s1.trans sY
    refine ⟨Y, rfl, ⟨_, lstAt upd_same⟩, fun D2 nD2 => ?_⟩
    refine lc_list (K := K) (a := Y) (xs := ys) (fun i H3 => H3 = upd (upd H' Y (.lst ys)) D2 (.lst (((S.take i).filter fun k => decide (0 < overF os r k)).map kI))) rfl (fun i H3 _ hq => by subst hq; exact lstAt ((same_upd nD2) _ _ upd_same)) (fun i x H3 hx hq => ?_) (fun H3 hq => ?_)
    · subst hq
      obtain ⟨j, u, ej, rfl, eu⟩ := at2 i x hx
      have hi8 : i < 8 := by have := (List.getElem?_eq_some_iff.mp hx).1; omega
      have s3 := sY.trans (same_upd (o := .lst (((S.take i).filter fun k => decide (0 < overF os r k)).map kI)) nD2)
      have hz : (((S.take i).filter fun k => decide (0 < overF os r k)).map kI).length < sizeLine := by
        rw [List.length_map]
        have h4 := List.length_filter_le (fun k => decide (0 < overF os r k)) (S.take i)
        rw [List.length_take] at h4
        exact small1000 (by omega)
      refine gTup2 (s3 _ _ eu) [some (.ref p), some (.ref rt), some (capC cap), some (.int r.1), some (.int r.2), some (.ref D), none, some (.int (j : Int)), none, none, some (.int (-(overF os r j)))] (by simp [wipe]) ?_
      refine ⟨by simp [wipe], ?_⟩
      refine ⟨_, rfl, _, _, rfl, rfl, _, rfl, ?_⟩
      by_cases hv : 0 < overF os r j
      · rw [decide_eq_true (show -(overF os r j) < 0 by omega)]
        refine iteT ⟨_, rfl, _, upd_same, hz, ?_⟩
        rw [upd_twice, List.take_add_one, ej, List.filter_append, List.map_append]
        show _ = upd _ _ (.lst (_ ++ ([j].filter fun k => decide (0 < overF os r k)).map kI))
        rw [List.filter_cons, if_pos (decide_eq_true hv)]
        rfl
      · rw [decide_eq_false (show ¬ -(overF os r j) < 0 by omega)]
        refine iteF ?_
        rw [List.take_add_one, ej, List.filter_append]
        show _ = upd _ _ (.lst ((_ ++ ([j].filter fun k => decide (0 < overF os r k))).map kI))
        rw [List.filter_cons, if_neg (by simp [hv]), List.filter_nil, List.append_nil]
    subst hq
    rw [show ys.length = S.length from lS.symm, List.take_length]
    have s3 := s2.trans (same_upd (o := .lst ((S.filter fun k => decide (0 < overF os r k)).map kI)) nD2)
    have e3 : (upd (upd H' Y (.lst ys)) D2 (.lst ((S.filter fun k => decide (0 < overF os r k)).map kI))) D2 = some (.lst ((S.filter fun k => decide (0 < overF os r k)).map kI)) := upd_same
    generalize upd (upd H' Y (.lst ys)) D2 (.lst ((S.filter fun k => decide (0 < overF os r k)).map kI)) = H4 at s3 e3 ⊢
    have wl : (S.filter fun k => decide (0 < overF os r k)).length ≤ 8 := by
      have := List.length_filter_le (fun k => decide (0 < overF os r k)) S
      omega
    -- the first ones
    have pm := pick_perm oS hc
    have ml := capT_len (S.filter fun k => decide (0 < overF os r k)) cap
    have key : ∀ ns' : List Int, ns'.Perm ((capT cap (S.filter fun k => decide (0 < overF os r k))).map fun (k : Nat) => (k : Int)) → ns'.Pairwise (· ≤ ·) → ns'.map V.int = (pickL os.length (overF os r) cap).map kI := fun ns' h5 h6 => by
      rw [sorted_eq (h5.trans (pm.map _)) h6 pickL_pw, List.map_map]
      rfl
    have cc := cut_cap (S.filter fun k => decide (0 < overF os r k)) hc
    refine ⟨_, rfl, _, rfl, ?_⟩
    cases cap with
    | none =>
      refine .inr ⟨rfl, D2, _, rfl, lstAt e3, fun l nl => ?_⟩
      rw [cc]
      have sl := same_upd (o := .lst ((capT none (S.filter fun k => decide (0 < overF os r k))).map kI)) nl
      refine ⟨l, (capT none (S.filter fun k => decide (0 < overF os r k))).map fun (k : Nat) => (k : Int), rfl, by rw [List.map_map]; exact lstAt upd_same, by rw [List.length_map]; omega, fun ns' p2 pp pw np => ?_⟩
      rw [key ns' pp pw]
      have s4 := sl.trans (same_upd (o := .lst ((pickL os.length (overF os r) none).map kI)) np)
      exact ⟨p2, _, rfl, .inl ⟨lstAt upd_same, fun t nt => q _ t (s3.trans (s4.trans (same_upd nt))) ⟨S, oS⟩ upd_same⟩⟩
    | some c =>
      refine .inl ⟨c, rfl, D2, _, rfl, lstAt e3, fun l nl => ?_⟩
      rw [cc]
      have sl := same_upd (o := .lst ((capT (some c) (S.filter fun k => decide (0 < overF os r k))).map kI)) nl
      refine ⟨l, (capT (some c) (S.filter fun k => decide (0 < overF os r k))).map fun (k : Nat) => (k : Int), rfl, by rw [List.map_map]; exact lstAt upd_same, by rw [List.length_map]; omega, fun ns' p2 pp pw np => ?_⟩
      rw [key ns' pp pw]
      have s4 := sl.trans (same_upd (o := .lst ((pickL os.length (overF os r) (some c)).map kI)) np)
      exact ⟨p2, _, rfl, .inl ⟨lstAt upd_same, fun t nt => q _ t (s3.trans (s4.trans (same_upd nt))) ⟨S, oS⟩ upd_same⟩⟩
end
end TK

namespace TK
open PySem PySem.Spec PyProof.Rows L2
abbrev s_Guests_climbed : Stmt := inClass (topS 12) 6
theorem sc_Guests_climbed : FnScope ["self", "most", "rate", "lot", "pairs"] ["self", "most"] (defScope s_Guests_climbed) := ⟨rfl, rfl, rfl, by decide +kernel, rfl, by decide +kernel, by decide +kernel⟩
abbrev s_Guests_best : Stmt := inClass (topS 12) 3
theorem sc_Guests_best : FnScope ["self", "most", "rate", "lot"] ["self", "most"] (defScope s_Guests_best) := ⟨rfl, rfl, rfl, by decide +kernel, rfl, by decide +kernel, by decide +kernel⟩
theorem fldsG_off {m : Str} (a : Addr) (b : Int) (h1 : ¬ m = ("offers" : Str)) (h2 : ¬ m = ("aside" : Str)) : (fldsG a b).lookup m = none := by
  unfold fldsG
  rw [lookup_putF, if_neg h2, lookup_putF, if_neg h1]
  rfl
theorem fldsG_picked (a : Addr) (b : Int) : (fldsG a b).lookup ("_picked" : Str) = none := fldsG_off a b (by decide +kernel) (by decide +kernel)
theorem fldsG_climbed (a : Addr) (b : Int) : (fldsG a b).lookup ("_climbed" : Str) = none := fldsG_off a b (by decide +kernel) (by decide +kernel)
theorem fldsG_best (a : Addr) (b : Int) : (fldsG a b).lookup ("best" : Str) = none := fldsG_off a b (by decide +kernel) (by decide +kernel)
/-- pairs of ints as data -/
def dP (r : Int × Int) : PyData := .tuple [.int r.1, .int r.2]
theorem dP_shape (r : Int × Int) : SeqAt.shaped (dP r) = true := by
  show ((dP r).canLay0 && decide ((dP r).depth ≤ 64)) = true
  simp [dP, PyData.canLay0, PyData.canLayAll0, PyData.depth, PyData.depthAll]
theorem dP_eqv (r s : Int × Int) : PyData.eqv (dP r) (dP s) = decide (r = s) := by
  obtain ⟨a, b⟩ := r
  obtain ⟨c, d⟩ := s
  simp only [dP, PyData.eqv, PyData.eqvAll, Bool.and_true]
  by_cases h1 : a = c <;> by_cases h2 : b = d <;> simp [h1, h2]
theorem dP_at {K : PySem.W.Frag} {H : Hp} {a : Addr} {r : Int × Int} (h : H a = some (.tup [.int r.1, .int r.2])) : Dp K H (.ref a) (dP r) := .tup (tupAt h) (.cons (.int _) (.cons (.int _) .nil))
/-- the rate that no lot beats, and the lot that has it -/
structure Best (os : List Off) (b : Int) (cap : Option Int) (r : Int × Int) : Prop where
  rate : Rate os b cap r
  ord : ∃ S, Ordd os.length (overF os r) S
  has : meanF os b (pickL os.length (overF os r) cap) = r
theorem ex_pick {os : List Off} {r : Int × Int} {cap : Option Int} {S : List Nat} (oS : Ordd os.length (overF os r) S) (hc : capN cap) : exF os r (pickL os.length (overF os r) cap) = exF os r (pickS (overF os r) cap S) := (perm_sum ((pick_perm oS hc).map _)).symm
theorem capT_cap (xs : List Nat) {cap : Option Int} (hc : capN cap) : capO cap (capT cap xs).length := by
  cases cap with
  | none => exact trivial
  | some c =>
    have := hc c rfl
    show (((xs.take c.toNat).length : Nat) : Int) ≤ c
    rw [List.length_take]
    omega
theorem pickL_allow {os : List Off} {r : Int × Int} {cap : Option Int} {S : List Nat} (oS : Ordd os.length (overF os r) S) (hc : capN cap) : Allow os.length cap (pickL os.length (overF os r) cap) :=
  ⟨pickL_ok, by rw [← (pick_perm oS hc).length_eq]; exact capT_cap _ hc⟩
theorem Best.top {os : List Off} {b : Int} {cap : Option Int} {r : Int × Int} (ok : OffsOk os) (l8 : os.length ≤ 8) (b1 : 1 ≤ b) (hc : capN cap) (h : Best os b cap r) {L : List Nat} (aL : Allow os.length cap L) : exF os r L ≤ r.1 * b := by
  obtain ⟨S, oS⟩ := h.ord
  exact rate_top ok l8 b1 oS (ex_pick oS hc) pickL_ok h.has aL
theorem mean2 {os : List Off} {b : Int} (ok : OffsOk os) (l8 : os.length ≤ 8) (b0 : 1 ≤ b) (b1 : b ≤ 1000) {L : List Nat} (kL : KsOk os.length L) : (meanF os b L).2 ≤ 9000 := by
  have t8 := top_bd ok l8 kL
  have w8 := wgt_bd ok l8 kL
  have : (b + wgtF os L) / gcdI (topF os L) (b + wgtF os L) ≤ b + wgtF os L := Int.ediv_le_self _ (by omega)
  show (b + wgtF os L) / gcdI (topF os L) (b + wgtF os L) ≤ 9000
  omega
section
variable {P : Program} {w : World} {K : PySem.W.Frag} {mg : Str → Option Value} {base : Heap}
/-! Guests._climbed -/
def spClimbed (K : PySem.W.Frag) (C : Addr) : Sp := fun vs H Q _ => ∃ (p : Addr) (os : List Off) (b : Int) (cap : Option Int), vs = [.ref p, capC cap] ∧ GuAt C H p os b ∧ OffsOk os ∧ os.length ≤ 8 ∧ 1 ≤ b ∧ b ≤ 1000 ∧ capN cap ∧
  ∀ (H' : Hp) (q : Addr) (xs : List V) (t rt lt : Addr) (r : Int × Int), Same H H' → H' q = some (.lst (xs ++ [.ref t])) → H' t = some (.tup [.ref rt, .ref lt]) → H' rt = some (.tup [.int r.1, .int r.2]) → H' lt = some (.tup ((pickL os.length (overF os r) cap).map kI)) → Best os b cap r → Q (.ref q) H'
theorem ok_Guests_climbed {f C gP gM : Addr} {fd fdP fdM : FuncData} (F : Fun K "_climbed" "Guests._climbed" s_Guests_climbed f fd) (T : TxtG K C)
    (Me__picked : Meth K C "_picked" gP) (G__picked : FnOk P w K mg base CX0 1 gP fdP ["self", "rate", "most"] (spPicked K C)) (b__picked : Binds K fdP ["self", "rate", "most"] [])
    (Me_mean : Meth K C "mean" gM) (G_mean : FnOk P w K mg base CX0 1 gM fdM ["self", "lot"] (spMeanG K C)) (b_mean : Binds K fdM ["self", "lot"] []) : FnOk P w K mg base CX0 3 f fd ["self", "most"] (spClimbed K C) := by
  refine F.ok sc_Guests_climbed (fun vs H Q E h => ?_) (fun cdv A outer s H vs Q E hr h => ?_)
  · obtain ⟨p, os, b, cap, rfl, _⟩ := h
    rfl
  · obtain ⟨p, os, b, cap, rfl, gu, ok, l8, b0, b1, hc, q⟩ := h
    have ins : ∀ {H'}, Same H H' → ∃ dx a, H' p = some (.ins C dx (fldsG a b)) := fun s => by
      obtain ⟨dx, a, ts, h1, _⟩ := gu
      exact ⟨dx, a, s _ _ h1⟩
    refine ⟨_, (pss_cons (ps_cut (ps_if (PW.pt (pw_and (pt_cmpR op_notN (pv 1) pe_non (nomark _)) (pw_and1 (pt_cmpR op_lt (pv 1) pe_int (nomark _))))) (pss_one ps_never) pss_nil))
  (pss_cons (ps_set (i := 2) sc_Guests_climbed.nd rfl (.inl rfl) (pe_tup (pa_cons pe_int (pa_cons pe_int pa_nil))))
  (pss_cons (ps_set (i := 3) sc_Guests_climbed.nd rfl (.inl rfl) (pe_meth (pv 0) T.cl Me__picked G__picked (hr.mono (by decide)) b__picked .nil pass0 (pa_cons (pv 2) (pa_cons (pv 1) pa_nil))))
  (pss_cons (ps_set (i := 4) sc_Guests_climbed.nd rfl (.inl rfl) (pe_lst (pa_cons (pe_tup (pa_cons (pv 2) (pa_cons (pv 3) pa_nil))) pa_nil)))
  (pss_cons (ps_while PassesOwn.never (pt_cmpR (op_neD hr.units) (pe_meth (pv 0) T.cl Me_mean G_mean (hr.mono (by decide)) b_mean .nil pass0 (pa_cons (pv 3) pa_nil)) (pv 2) (nomark _)) (pss_cons (ps_set (i := 2) sc_Guests_climbed.nd rfl (.inl rfl) (pe_meth (pv 0) T.cl Me_mean G_mean (hr.mono (by decide)) b_mean .nil pass0 (pa_cons (pv 3) pa_nil)))
  (pss_cons (ps_set (i := 3) sc_Guests_climbed.nd rfl (.inl rfl) (pe_meth (pv 0) T.cl Me__picked G__picked (hr.mono (by decide)) b__picked .nil pass0 (pa_cons (pv 2) (pa_cons (pv 1) pa_nil))))
  (pss_one (ps_expr (pe_bm PySem.F.plainAttrs_list PySem.F.slot_list_append PySem.F.type_list_append mt_append (pv 4) (pa_cons (pe_tup (pa_cons (pv 2) (pa_cons (pv 3) pa_nil))) pa_nil)))))))
  (pss_one (ps_ret (pv 4)))))))), ?_⟩
    refine ⟨fun σ H' => H' = H ∧ σ = [some (.ref p), some (capC cap), none, none, none], ?_, ?_⟩
    · cases cap with
      | none => exact ⟨_, rfl, rfl, _, rfl, iteF (iteF ⟨rfl, rfl⟩)⟩
      | some c =>
        have c0 := hc c rfl
        refine ⟨_, rfl, rfl, _, rfl, iteT ⟨_, rfl, _, _, rfl, rfl, _, rfl, ?_⟩⟩
        rw [decide_eq_false (show ¬ c < 0 by omega)]
        exact iteF ⟨rfl, rfl⟩
    rintro σ H0 ⟨rfl, rfl⟩
    refine ⟨(show (2 : Nat) ≤ sizeLine by decide), fun rt0 nrt => ?_⟩
    have s1 := same_upd (o := .tup [V.int 0, .int 1]) nrt
    obtain ⟨dx1, a1, i1⟩ := ins s1
    refine ⟨_, rfl, p, dx1, _, rfl, i1, fldsG_picked _ _, _, rfl, _, rfl, p, rt0, os, b, (0, 1), cap, rfl, gu.same s1, ok, l8, upd_same, by decide, by decide, hc, fun H2 lt0 s2 oS0 e2 => ?_⟩
    have s12 := s1.trans s2
    refine ⟨_, rfl, _, rfl, (show (2 : Nat) ≤ sizeLine by decide), fun t0 nt0 => ?_⟩
    have s3 := same_upd (o := .tup [V.ref rt0, .ref lt0]) nt0
    refine ⟨(show (1 : Nat) ≤ sizeLine by decide), fun PL nPL => ?_⟩
    have s4 := same_upd (o := .lst [V.ref t0]) nPL
    have nPL0 : H0 PL = none := by
      cases z : H0 PL with
      | none => rfl
      | some o => rw [(s12.trans s3) _ _ z] at nPL; cases nPL
    have mu0 : muF os b (0, 1) ≤ 256 := by
      unfold muF
      refine Nat.le_trans List.countP_le_length ?_
      rw [lots_len]
      exact Nat.pow_le_pow_right (by decide) l8
    refine ⟨fun m σ H' => ∃ (rt lt t : Addr) (r : Int × Int) (xs : List V), σ = [some (.ref p), some (capC cap), some (.ref rt), some (.ref lt), some (.ref PL)] ∧ Same H0 H' ∧ H' PL = some (.lst (xs ++ [.ref t])) ∧ H' t = some (.tup [.ref rt, .ref lt]) ∧ H' rt = some (.tup [.int r.1, .int r.2]) ∧ H' lt = some (.tup ((pickL os.length (overF os r) cap).map kI)) ∧ Rate os b cap r ∧ (∃ S, Ordd os.length (overF os r) S) ∧ r.2 ≤ 9000 ∧ muF os b r = m ∧ xs.length + m ≤ 256,
      ⟨_, rt0, lt0, t0, (0, 1), [], rfl, s12.trans (s3.trans s4), upd_same, s4 _ _ upd_same, s4 _ _ (s3 _ _ (s2 _ _ upd_same)), s4 _ _ (s3 _ _ e2), .zero hc, oS0, by decide, rfl, by simpa using mu0⟩, ?_⟩
    rintro m σ H3 ⟨rt, lt, t, r, xs, rfl, s5, ePL, et, ert, elt, hR, ⟨S, oS⟩, r29, em, xl⟩
    have r20 := hR.p2
    obtain ⟨dx3, a3, i3⟩ := ins s5
    refine ⟨_, rfl, p, dx3, _, rfl, i3, fldsG_mean _ _, _, rfl, p, lt, os, b, _, rfl, gu.same s5, ok, l8, b0, b1, tupAt elt, pickL_ok, fun H4 mt s6 emt => ?_⟩
    have hm : H4 mt = some (.tup [.int (meanF os b (pickL os.length (overF os r) cap)).1, .int (meanF os b (pickL os.length (overF os r) cap)).2]) := emt
    have eM : exF os r (pickL os.length (overF os r) cap) = exF os r (pickS (overF os r) cap S) := ex_pick oS hc
    have aM : Allow os.length cap (pickL os.length (overF os r) cap) := pickL_allow oS hc
    generalize eP : pickL os.length (overF os r) cap = M at *
    refine ⟨_, rfl, dP (meanF os b M), dP r, dP_at hm, dP_at (s6 _ _ ert), dP_shape _, dP_shape _, _, rfl, ?_⟩
    rw [dP_eqv]
    have s56 := s5.trans s6
    by_cases e : meanF os b M = r
    · rw [decide_eq_true e]
      refine iteF ⟨_, rfl, q _ PL xs t rt lt r s56 (s6 _ _ ePL) (s6 _ _ et) (s6 _ _ ert) (by rw [eP]; exact s6 _ _ elt) ⟨hR, ⟨S, oS⟩, by rw [eP]; exact e⟩⟩
    · rw [decide_eq_false e]
      have lt1 := rate_lt ok l8 b0 hR aM.1 (rate_le ok l8 b0 hR oS eM) e
      have mu1 := mu_lt ok l8 b0 r20 aM.1 lt1
      have hR2 : Rate os b cap (meanF os b M) := mean_rate ok l8 b0 aM
      have r92 := mean2 ok l8 b0 b1 aM.1
      refine iteT ⟨fun σ H' => ∃ (rt lt t : Addr) (xs : List V), σ = [some (.ref p), some (capC cap), some (.ref rt), some (.ref lt), some (.ref PL)] ∧ Same H0 H' ∧ H' PL = some (.lst (xs ++ [.ref t])) ∧ H' t = some (.tup [.ref rt, .ref lt]) ∧ H' rt = some (.tup [.int (meanF os b M).1, .int (meanF os b M).2]) ∧ H' lt = some (.tup ((pickL os.length (overF os (meanF os b M)) cap).map kI)) ∧ (∃ S, Ordd os.length (overF os (meanF os b M)) S) ∧ xs.length + muF os b (meanF os b M) ≤ 256, ?_, ?_⟩
      · rintro σ' H' ⟨rt', lt', t', xs', h1, h2, h3, h4, h5, h6, h7, h8⟩
        exact ⟨muF os b (meanF os b M), by omega, rt', lt', t', meanF os b M, xs', h1, h2, h3, h4, h5, h6, hR2, h7, r92, rfl, h8⟩
      · obtain ⟨dx4, a4, i4⟩ := ins s56
        refine ⟨_, rfl, p, dx4, _, rfl, i4, fldsG_mean _ _, _, rfl, p, lt, os, b, M, rfl, gu.same s56, ok, l8, b0, b1, tupAt (s6 _ _ elt), aM.1, fun H5 rt2 s7 ert2 => ?_⟩
        have s57 := s56.trans s7
        obtain ⟨dx5, a5, i5⟩ := ins s57
        have hr2 : H5 rt2 = some (.tup [.int (meanF os b M).1, .int (meanF os b M).2]) := ert2
        refine ⟨_, rfl, p, dx5, _, rfl, i5, fldsG_picked _ _, _, rfl, _, rfl, p, rt2, os, b, meanF os b M, cap, rfl, gu.same s57, ok, l8, hr2, by have := hR2.p2; omega, by omega, hc, fun H6 lt2 s8 oS2 elt2 => ?_⟩
        have s58 := s57.trans s8
        have ePL6 := s8 _ _ (s7 _ _ (s6 _ _ ePL))
        refine ⟨_, rfl, .inl ⟨rfl, _, lstAt ePL6⟩, _, rfl, _, rfl, (show (2 : Nat) ≤ sizeLine by decide), fun t2 nt2 => ?_⟩
        have st2 := same_upd (o := .tup [V.ref rt2, .ref lt2]) nt2
        have ePL7 := st2 _ _ ePL6
        have Pt : t2 ≠ PL := (ne_of_none ePL6 nt2).symm
        refine ⟨_, _, _, rfl, rfl, ePL7, by rw [List.length_append]; exact small1000 (by simp only [List.length_singleton]; omega), ?_⟩
        have keep : ∀ c o, H6 c = some o → (∀ ys, o ≠ .lst ys) → (upd (upd H6 t2 (.tup [V.ref rt2, .ref lt2])) PL (.lst (xs ++ [V.ref t] ++ [.ref t2]))) c = some o := fun c o e n => by
          rw [upd_ne (fun z => by subst z; rw [ePL6] at e; exact n _ (Option.some.inj e).symm)]
          exact st2 _ _ e
        refine ⟨rt2, lt2, t2, xs ++ [.ref t], rfl, same_at (s58.trans st2) nPL0, upd_same, ?_, keep _ _ (s8 _ _ hr2) (by intro _ z; cases z), keep _ _ elt2 (by intro _ z; cases z), oS2, by rw [List.length_append, List.length_singleton]; omega⟩
        rw [upd_ne Pt]
        exact upd_same
/-! Guests.best -/
def spBest (K : PySem.W.Frag) (C : Addr) : Sp := fun vs H Q _ => ∃ (p : Addr) (os : List Off) (b : Int) (cap : Option Int), vs = [.ref p, capC cap] ∧ GuAt C H p os b ∧ OffsOk os ∧ os.length ≤ 8 ∧ 1 ≤ b ∧ b ≤ 1000 ∧ capN cap ∧
  ∀ (H' : Hp) (t rt lt : Addr) (r : Int × Int), Same H H' → H' t = some (.tup [.ref lt, .ref rt]) → H' rt = some (.tup [.int r.1, .int r.2]) → H' lt = some (.tup ((pickL os.length (overF os r) cap).map kI)) → Best os b cap r → Q (.ref t) H'
theorem at_last {xs : List V} {y : V} : atI (xs ++ [y]) (-1) = some y := by
  unfold atI ixN
  rw [if_neg (by decide), if_pos (by rw [List.length_append, List.length_singleton]; omega)]
  show (xs ++ [y])[((-1 : Int) + ((xs ++ [y]).length : Nat)).toNat]? = _
  rw [List.length_append, List.length_singleton, show ((-1 : Int) + ((xs.length + 1 : Nat) : Int)).toNat = xs.length by omega, List.getElem?_append_right (Nat.le_refl _), Nat.sub_self]
  rfl
theorem ok_Guests_best {f C gC : Addr} {fd fdC : FuncData} {dvs : List V} {kws : List (Str × V)} (F : FunD K "best" "Guests.best" (defArgs s_Guests_best) (defBody s_Guests_best) (defScope s_Guests_best) dvs kws f fd) (T : TxtG K C)
    (Me__climbed : Meth K C "_climbed" gC) (G__climbed : FnOk P w K mg base CX0 3 gC fdC ["self", "most"] (spClimbed K C)) (b__climbed : Binds K fdC ["self", "most"] []) : FnOk P w K mg base CX0 4 f fd ["self", "most"] (spBest K C) := by
  refine F.ok (CX := CX0) sc_Guests_best (fun vs H Q E h => ?_) (fun cdv A outer s H vs Q E hr h => ?_)
  · obtain ⟨p, os, b, cap, rfl, _⟩ := h
    rfl
  · obtain ⟨p, os, b, cap, rfl, gu, ok, l8, b0, b1, hc, q⟩ := h
    obtain ⟨dx, a, ts, hp, _⟩ := id gu
    refine ⟨_, PSs.nox (pss_cons (ps_asg (pe_ix ix_list (pe_meth (pv 0) T.cl Me__climbed G__climbed (hr.mono (by decide)) b__climbed .nil pass0 (pa_cons (pv 1) pa_nil)) (pe_un un_neg pe_int) (fun _ _ => rfl)) (pg_tup (by rfl) (pgs_cons (pg_name (i := 2) sc_Guests_best.nd rfl (.inl rfl)) (pgs_cons (pg_name (i := 3) sc_Guests_best.nd rfl (.inl rfl)) pgs_nil))))
  (pss_one (ps_ret (pe_tup (pa_cons (pv 3) (pa_cons (pv 2) pa_nil)))))), ?_⟩
    refine ⟨_, rfl, p, dx, _, rfl, hp, fldsG_climbed _ _, _, rfl, p, os, b, cap, rfl, gu, ok, l8, b0, b1, hc, fun H2 l xs t rt lt r s2 el et ert elt hb => ?_⟩
    refine ⟨_, rfl, _, _, _, _, rfl, rfl, lstAt el, at_last, ?_⟩
    refine ⟨_, _, rfl, tupAt et, rfl, _, _, rfl, _, _, rfl, rfl, ?_⟩
    refine ⟨_, rfl, _, rfl, (show (2 : Nat) ≤ sizeLine by decide), fun t2 nt2 => ?_⟩
    have s3 := same_upd (o := .tup [V.ref lt, .ref rt]) nt2
    exact q _ t2 rt lt r (s2.trans s3) upd_same (s3 _ _ ert) (s3 _ _ elt) hb
end
end TK

namespace TK
open PySem PySem.Spec PyProof.Rows L2
/-! the greatest mean -/
structure Gr (os : List Off) (b : Int) (cap : Option Int) (r : Int × Int) : Prop where
  low : ∃ x y : Int, 0 ≤ x ∧ 1 ≤ y ∧ r = red x y
  has : ∃ L, Allow os.length cap L ∧ r.1 * (b + wgtF os L) = topF os L * r.2
  top : ∀ L, Allow os.length cap L → topF os L * r.2 ≤ r.1 * (b + wgtF os L)
theorem red_one {x y c d : Int} (h0 : 0 ≤ x) (hb : 1 ≤ y) (h1 : 0 ≤ c) (hd : 1 ≤ d) (e1 : c * (red x y).2 ≤ (red x y).1 * d) (e2 : (red x y).1 * d ≤ c * (red x y).2) : red x y = red c d := by
  have h1' := (red_le (c := c) (d := d) h0 hb).mp e1
  have h2' := (red_le' (c := c) (d := d) h0 hb).mp e2
  exact red_uniq h0 hb h1 hd (by omega)
/-- two rates of lots that no lot beats are the same -/
theorem Gr.uniq {os os' : List Off} {b : Int} {cap : Option Int} {r s : Int × Int} (h : Gr os b cap r) (k : Gr os' b cap s) (ok : OffsOk os) (l8 : os.length ≤ 8) (b1 : 1 ≤ b) (ok' : OffsOk os') (l8' : os'.length ≤ 8)
    (m : ∀ L, Allow os.length cap L → ∃ M, Allow os'.length cap M ∧ topF os' M = topF os L ∧ wgtF os' M = wgtF os L)
    (m' : ∀ L, Allow os'.length cap L → ∃ M, Allow os.length cap M ∧ topF os M = topF os' L ∧ wgtF os M = wgtF os' L) : r = s := by
  obtain ⟨⟨x, y, hx, hy, er⟩, ⟨L, aL, eL⟩, tp⟩ := h
  obtain ⟨⟨x', y', hx', hy', es⟩, ⟨L', aL', eL'⟩, tp'⟩ := k
  obtain ⟨M, aM, M1, M2⟩ := m L aL
  obtain ⟨M', aM', M1', M2'⟩ := m' L' aL'
  have t1 := top_bd ok l8 aL.1
  have w1 := wgt_bd ok l8 aL.1
  have t2 := top_bd ok' l8' aL'.1
  have w2 := wgt_bd ok' l8' aL'.1
  have q1 := tp' M aM
  have q2 := tp M' aM'
  rw [M1, M2] at q1
  rw [M1', M2'] at q2
  -- r = mean of L, s = mean of L'
  have e1 : r = red (topF os L) (b + wgtF os L) := by
    rw [er] at eL ⊢
    exact red_one hx hy t1.1 (by omega) (by rw [eL]; exact Int.le_refl _) (by rw [eL]; exact Int.le_refl _)
  have e2 : s = red (topF os' L') (b + wgtF os' L') := by
    rw [es] at eL' ⊢
    exact red_one hx' hy' t2.1 (by omega) (by rw [eL']; exact Int.le_refl _) (by rw [eL']; exact Int.le_refl _)
  rw [e2] at q1
  rw [e1] at q2
  have q1 := (red_le (c := topF os L) (d := b + wgtF os L) t2.1 (by omega)).mp q1
  have q2 := (red_le (c := topF os' L') (d := b + wgtF os' L') t1.1 (by omega)).mp q2
  rw [e1, e2]
  exact red_uniq t1.1 (by omega) t2.1 (by omega) (by omega)
theorem Gr.one {os : List Off} {b : Int} {cap : Option Int} {r s : Int × Int} (h : Gr os b cap r) (k : Gr os b cap s) (ok : OffsOk os) (l8 : os.length ≤ 8) (b1 : 1 ≤ b) : r = s :=
  h.uniq k ok l8 b1 ok l8 (fun L a => ⟨L, a, rfl, rfl⟩) (fun L a => ⟨L, a, rfl, rfl⟩)
theorem Best.gr {os : List Off} {b : Int} {cap : Option Int} {r : Int × Int} (ok : OffsOk os) (l8 : os.length ≤ 8) (b1 : 1 ≤ b) (hc : capN cap) (h : Best os b cap r) : Gr os b cap r := by
  obtain ⟨L, aL, e⟩ := h.rate.lot
  refine ⟨h.rate.low, ⟨L, aL, ?_⟩, fun L aL => rate_top' ok l8 b1 (h.top ok l8 b1 hc aL)⟩
  rw [ex_eq] at e
  rw [Int.mul_add, Int.mul_comm (topF os L)]
  omega
/-! turned about -/
def backL (n : Nat) (L : List Nat) : List Nat := (List.range n).filter fun j => decide (n - 1 - j ∈ L)
theorem range_back (n : Nat) : (List.range n).reverse = (List.range n).map (fun j => n - 1 - j) := by
  refine List.ext_getElem (by simp) fun i h1 h2 => ?_
  simp [List.getElem_reverse, List.getElem_map, List.getElem_range]
theorem back_sum {n : Nat} {L : List Nat} (kL : KsOk n L) (g : Nat → Int) : (L.map g).sum = ((backL n L).map fun j => g (n - 1 - j)).sum := by
  have e1 := sum_if L g (List.range n)
  rw [kL] at e1
  rw [← e1]
  have e2 := perm_sum ((List.reverse_perm (List.range n)).map fun k => if k ∈ L then g k else 0)
  rw [← e2, range_back, List.map_map]
  have e3 := sum_if (backL n L) (fun j => g (n - 1 - j)) (List.range n)
  have e4 : (List.range n).filter (fun k => decide (k ∈ backL n L)) = backL n L := KsOk.of_filter _
  rw [e4] at e3
  rw [← e3]
  refine sum_cong fun k hk => ?_
  have hk := List.mem_range.mp hk
  show (if n - 1 - k ∈ L then g (n - 1 - k) else 0) = _
  by_cases h : n - 1 - k ∈ L
  · rw [if_pos h, if_pos (by unfold backL; exact List.mem_filter.mpr ⟨List.mem_range.mpr hk, decide_eq_true h⟩)]
  · rw [if_neg h, if_neg (fun z => h (by unfold backL at z; exact of_decide_eq_true (List.mem_filter.mp z).2))]
theorem sum_ones : ∀ L : List Nat, (L.map fun _ => (1 : Int)).sum = (L.length : Int)
  | [] => rfl
  | _ :: L => by
    rw [List.map_cons, List.sum_cons, sum_ones L, List.length_cons]
    omega
theorem back_len {n : Nat} {L : List Nat} (kL : KsOk n L) : (backL n L).length = L.length := by
  have := back_sum kL fun _ => 1
  rw [sum_ones, sum_ones] at this
  omega
theorem back_get {os : List Off} {j : Nat} (h : j < os.length) : os.reverse.getD j (0, 1) = os.getD (os.length - 1 - j) (0, 1) := by
  rw [List.getD_eq_getElem?_getD, List.getD_eq_getElem?_getD, List.getElem?_reverse h]
theorem back_get' {os : List Off} {j : Nat} (h : j < os.length) : os.reverse.getD (os.length - 1 - j) (0, 1) = os.getD j (0, 1) := by
  rw [back_get (by omega)]
  congr 1
  omega
theorem back_lot {os : List Off} {cap : Option Int} {L : List Nat} (aL : Allow os.length cap L) : ∃ M, Allow os.reverse.length cap M ∧ topF os.reverse M = topF os L ∧ wgtF os.reverse M = wgtF os L := by
  have kM : KsOk os.length (backL os.length L) := KsOk.of_filter _
  refine ⟨backL os.length L, ⟨by rw [List.length_reverse]; exact kM, by rw [back_len aL.1]; exact aL.2⟩, ?_, ?_⟩
  · unfold topF
    rw [back_sum aL.1]
    exact sum_cong fun j hj => by rw [back_get (kM.lt j hj)]
  · unfold wgtF
    rw [back_sum aL.1]
    exact sum_cong fun j hj => by rw [back_get (kM.lt j hj)]
theorem Gr.back {os : List Off} {b : Int} {cap : Option Int} {r s : Int × Int} (h : Gr os b cap r) (k : Gr os.reverse b cap s) (ok : OffsOk os) (l8 : os.length ≤ 8) (b1 : 1 ≤ b) : r = s := by
  refine h.uniq k ok l8 b1 (fun o ho => ok o (List.mem_reverse.mp ho)) (by rw [List.length_reverse]; exact l8) (fun L a => back_lot a) fun L a => ?_
  obtain ⟨M, h1, h2, h3⟩ := back_lot a
  rw [List.reverse_reverse] at h1 h2 h3
  exact ⟨M, h1, h2, h3⟩
end TK

namespace TK
open PySem PySem.Spec PyProof.Rows L2
theorem op_catAK {X : Cx} {K : PySem.W.Frag} (h : X.K = K) : OpR X (binaryOp .Add) (rCatA K) := h ▸ op_catA
/-- tuples of the lots, at a row of addresses -/
def LotsAt (H : Hp) (us : List Addr) (Ls : List (List Nat)) : Prop := us.length = Ls.length ∧ ∀ (i : Nat) (u : Addr), us[i]? = some u → ∃ L, Ls[i]? = some L ∧ H u = some (.tup (L.map kI))
theorem LotsAt.same {H H' : Hp} {us : List Addr} {Ls : List (List Nat)} (h : LotsAt H us Ls) (s : Same H H') : LotsAt H' us Ls := ⟨h.1, fun i u e => by
  obtain ⟨L, e1, e2⟩ := h.2 i u e
  exact ⟨L, e1, s _ _ e2⟩⟩
theorem LotsAt.keep {H : Hp} {D : Addr} {xs : List V} {o : HO} {us : List Addr} {Ls : List (List Nat)} (h : LotsAt H us Ls) (e : H D = some (.lst xs)) : LotsAt (upd H D o) us Ls := ⟨h.1, fun i u e1 => by
  obtain ⟨L, e2, e3⟩ := h.2 i u e1
  refine ⟨L, e2, ?_⟩
  rw [upd_ne (fun z => by subst z; rw [e] at e3; cases e3)]
  exact e3⟩
theorem LotsAt.app {H : Hp} {us vs : List Addr} {Ls Ms : List (List Nat)} (h : LotsAt H us Ls) (k : LotsAt H vs Ms) : LotsAt H (us ++ vs) (Ls ++ Ms) := ⟨by rw [List.length_append, List.length_append, h.1, k.1], fun i u e => by
  by_cases hi : i < us.length
  · rw [List.getElem?_append_left hi] at e
    rw [List.getElem?_append_left (by rw [← h.1]; exact hi)]
    exact h.2 i u e
  · rw [List.getElem?_append_right (by omega)] at e
    rw [List.getElem?_append_right (by rw [← h.1]; omega), ← h.1]
    exact k.2 _ u e⟩
theorem LotsAt.get {H : Hp} {us : List Addr} {Ls : List (List Nat)} (h : LotsAt H us Ls) {i : Nat} {x : V} (e : (us.map V.ref)[i]? = some x) : ∃ u L, x = .ref u ∧ us[i]? = some u ∧ Ls[i]? = some L ∧ H u = some (.tup (L.map kI)) := by
  rw [List.getElem?_map] at e
  cases e1 : us[i]? with
  | none => rw [e1] at e; cases e
  | some u =>
    rw [e1] at e
    cases Option.some.inj e
    obtain ⟨L, e2, e3⟩ := h.2 i u e1
    exact ⟨u, L, rfl, rfl, e2, e3⟩
theorem lots_le {n : Nat} (h : n ≤ 8) : (lotsN n).length ≤ 256 := by
  rw [lots_len]
  exact Nat.pow_le_pow_right (by decide) h
section
variable {P : Program} {w : World} {K : PySem.W.Frag} {mg : Str → Option Value} {base : Heap}
/-! _law_few -/
def spFew (K : PySem.W.Frag) : Sp := fun vs H Q _ => ∃ (a : Addr) (ns : List Int) (s : Int), vs = [.ref a, .int s] ∧ SqL K H a (ns.map V.int) ∧ 0 ≤ s ∧ s < ns.length ∧ ∀ n : Nat, n ≤ 8 → Q (.int (n : Int)) H
theorem ok_L_few {f : Addr} {fd : FuncData} (F : Fun K "_law_few" "_law_few" s_L_few f fd) (d_L_part : Def P w K mg base "_law_part" 1 ["_law_pool_here", "_law_spot", "_law_under", "_law_size"] (spPart K)) : FnOk P w K mg base CX0 2 f fd ["_law_pool_here", "_law_spot"] (spFew K) := by
  refine F.ok sc_L_few (fun vs H Q E h => ?_) (fun cdv A outer s H vs Q E hr h => ?_)
  · obtain ⟨a, ns, s, rfl, _⟩ := h
    rfl
  · obtain ⟨a, ns, s, rfl, hS, h0, h1, q⟩ := h
    have q' : ∀ z : Int, 0 ≤ z → z ≤ 8 → Q (.int z) H := fun z z0 z8 => by
      have := q z.toNat (by omega)
      rwa [Int.toNat_of_nonneg z0] at this
    have u0 := part_lo (ns := ns) (s := s) (u := 1) (z := 6) (by decide)
    have u1 := part_hi (ns := ns) (s := s) (u := 1) (z := 6) (by decide)
    have w0 := part_lo (ns := ns) (s := s) (u := 48) (z := 3) (by decide)
    have w1 := part_hi (ns := ns) (s := s) (u := 48) (z := 3) (by decide)
    refine ⟨_, (pss_cons (ps_set (i := 2) sc_L_few.nd rfl (.inl rfl) (pe_callD d_L_part (hr.mono (by decide)) (by rfl) (pa_cons (pv 0) (pa_cons (pv 1) (pa_cons pe_int (pa_cons pe_int pa_nil))))))
  (pss_cons (ps_if (pt_cmpR op_eq (pe_callD d_L_part (hr.mono (by decide)) (by rfl) (pa_cons (pv 0) (pa_cons (pv 1) (pa_cons pe_int (pa_cons pe_int pa_nil))))) pe_int (nomark _)) (pss_one (ps_set (i := 2) sc_L_few.nd rfl (.inl rfl) (pe_op op_add pe_int (pe_callD d_L_part (hr.mono (by decide)) (by rfl) (pa_cons (pv 0) (pa_cons (pv 1) (pa_cons pe_int (pa_cons pe_int pa_nil)))))))) pss_nil)
  (pss_one (ps_ret (pv 2))))), ?_⟩
    refine ⟨_, rfl, _, rfl, a, ns, s, 1, 6, rfl, hS, h0, h1, by decide, by decide, by decide, ?_⟩
    refine ⟨_, rfl, _, rfl, a, ns, s, 6, 8, rfl, hS, h0, h1, by decide, by decide, by decide, rfl, _, rfl, ite2 (fun e => ?_) (fun e => ?_)⟩
    · exact ⟨_, rfl, _, rfl, a, ns, s, 48, 3, rfl, hS, h0, h1, by decide, by decide, by decide, _, _, rfl, rfl, _, rfl, q' _ (by omega) (by omega)⟩
    · exact ⟨_, rfl, q' _ (by omega) (by omega)⟩
/-! _law_cap -/
def spCap (K : PySem.W.Frag) : Sp := fun vs H Q _ => ∃ (a : Addr) (ns : List Int) (s : Int), vs = [.ref a, .int s] ∧ SqL K H a (ns.map V.int) ∧ 0 ≤ s ∧ s + 5 ≤ ns.length ∧ ∀ cap H', Same H H' → capN cap → Q (capC cap) H'
theorem cap_at {z : Int} (h0 : 0 ≤ z) (h1 : z < 10) : ∃ c : Int, 0 ≤ c ∧ atI [V.int 0, .int 1, .int 1, .int 1, .int 2, .int 2, .int 3, .int 4, .int 5, .int 8] z = some (.int c) := by
  have : z = 0 ∨ z = 1 ∨ z = 2 ∨ z = 3 ∨ z = 4 ∨ z = 5 ∨ z = 6 ∨ z = 7 ∨ z = 8 ∨ z = 9 := by omega
  rcases this with rfl | rfl | rfl | rfl | rfl | rfl | rfl | rfl | rfl | rfl <;> exact ⟨_, by decide, rfl⟩
theorem ok_L_cap {f : Addr} {fd : FuncData} (F : Fun K "_law_cap" "_law_cap" s_L_cap f fd) (d_L_part : Def P w K mg base "_law_part" 1 ["_law_pool_here", "_law_spot", "_law_under", "_law_size"] (spPart K)) (d_L_far : Def P w K mg base "_law_far" 1 ["_law_pool_here", "_law_spot", "_law_number"] (spFar K)) : FnOk P w K mg base CX0 2 f fd ["_law_pool_here", "_law_spot"] (spCap K) := by
  refine F.ok sc_L_cap (fun vs H Q E h => ?_) (fun cdv A outer s H vs Q E hr h => ?_)
  · obtain ⟨a, ns, s, rfl, _⟩ := h
    rfl
  · obtain ⟨a, ns, s, rfl, hS, h0, h1, q⟩ := h
    have qi : ∀ (c : Int) H', Same H H' → 0 ≤ c → Q (.int c) H' := fun c H' s c0 => q (some c) H' s fun x e => by cases e; exact c0
    have w0 := part_lo (ns := ns) (s := s) (u := 8) (z := 10) (by decide)
    have w1 := part_hi (ns := ns) (s := s) (u := 8) (z := 10) (by decide)
    refine ⟨_, (pss_cons (ps_set (i := 2) sc_L_cap.nd rfl (.inl rfl) (pe_callD d_L_part (hr.mono (by decide)) (by rfl) (pa_cons (pv 0) (pa_cons (pv 1) (pa_cons pe_int (pa_cons pe_int pa_nil))))))
  (pss_cons (ps_if (pt_cmpR op_lt (pv 2) pe_int (nomark _)) (pss_one (ps_ret pe_non)) pss_nil)
  (pss_cons (ps_if (pt_cmpR op_eq (pv 2) pe_int (nomark _)) (pss_one (ps_ret (pe_callD d_L_far (hr.mono (by decide)) (by rfl) (pa_cons (pv 0) (pa_cons (pe_op op_add (pv 1) pe_int) (pa_cons pe_int pa_nil)))))) pss_nil)
  (pss_one (ps_ret (pe_ix ix_list (pe_lst (pa_cons pe_int (pa_cons pe_int (pa_cons pe_int (pa_cons pe_int (pa_cons pe_int (pa_cons pe_int (pa_cons pe_int (pa_cons pe_int (pa_cons pe_int (pa_cons pe_int pa_nil))))))))))) (pe_callD d_L_part (hr.mono (by decide)) (by rfl) (pa_cons (pv 0) (pa_cons (pv 1) (pa_cons pe_int (pa_cons pe_int pa_nil))))) (fun _ _ => rfl))))))), ?_⟩
    refine ⟨_, rfl, _, rfl, a, ns, s, 1, 8, rfl, hS, h0, by omega, by decide, by decide, by decide, ?_⟩
    refine ⟨_, rfl, _, _, rfl, rfl, _, rfl, ite2 (fun e => ?_) (fun e => ?_)⟩
    · exact q none H (Same.refl _) fun x e => nomatch e
    · refine ⟨_, rfl, rfl, _, rfl, ite2 (fun e => ?_) (fun e => ?_)⟩
      · refine ⟨_, rfl, _, rfl, _, _, rfl, rfl, a, ns, s + 1, 4, rfl, hS, by omega, by decide, by decide, by omega, fun r r0 => qi r H (Same.refl _) r0⟩
      · refine ⟨(show (10 : Nat) ≤ sizeLine by decide), fun p np => ?_⟩
        have s1 := same_upd (o := .lst [V.int 0, .int 1, .int 1, .int 1, .int 2, .int 2, .int 3, .int 4, .int 5, .int 8]) np
        refine ⟨_, rfl, _, rfl, a, ns, s, 8, 10, rfl, s1.seq hS, h0, by omega, by decide, by decide, by decide, ?_⟩
        obtain ⟨c, c0, ec⟩ := cap_at w0 w1
        exact ⟨_, _, _, _, rfl, rfl, lstAt upd_same, ec, qi c _ s1 c0⟩
/-! _law_lots -/
def spLots : Sp := fun vs H Q _ => ∃ n : Nat, vs = [.int (n : Int)] ∧ n ≤ 8 ∧ ∀ (H' : Hp) (p : Addr) (us : List Addr), Same H H' → H' p = some (.lst (us.map V.ref)) → LotsAt H' us (lotsN n) → Q (.ref p) H'
theorem ok_L_lots {f : Addr} {fd : FuncData} (F : Fun K "_law_lots" "_law_lots" s_L_lots f fd) (m_range : mg "range" = none) : FnOk P w K mg base CX0 1 f fd ["_law_number"] spLots := by
  refine F.ok sc_L_lots (fun vs H Q E h => ?_) (fun cdv A outer s H vs Q E hr h => ?_)
  · obtain ⟨n, rfl, _⟩ := h
    rfl
  · obtain ⟨n, rfl, n8, q⟩ := h
    refine ⟨_, (pss_cons (ps_set (i := 1) sc_L_lots.nd rfl (.inl rfl) (pe_lst (pa_cons (pe_tup pa_nil) pa_nil)))
  (pss_cons (ps_for PassesOwn.never rfl (pi_range1 (by rfl) m_range (pa_cons (pv 0) pa_nil)) (pg_name (i := 2) sc_L_lots.nd rfl (.inr rfl))
    (pss_one (ps_set (i := 1) sc_L_lots.nd rfl (.inl rfl) (pe_op op_cat (pv 1) (pe_lc (own := [("_law_lot", 3)]) (by rfl) sc_L_lots.nd (pi_list (pv 1)) (blkOk_by (N := ["_law_number", "_law_lots_here", "_law_k", "_law_lot"]) (sc := defScope s_L_lots) (by decide +kernel)) (fun _ _ _ _ _ => (pg_name (i := 3) sc_L_lots.nd rfl (.inl rfl))) (fun _ _ _ _ _ => pts_nil) (fun _ _ _ _ _ => (pe_op (op_catAK (K := K) rfl) (pv 3) (pe_tup (pa_cons (pv 2) pa_nil)))))))))
  (pss_one (ps_ret (pv 1))))), ?_⟩
    refine ⟨Nat.zero_le _, fun t0 nt0 => ?_⟩
    have st0 := same_upd (o := .tup []) nt0
    refine ⟨(show (1 : Nat) ≤ sizeLine by decide), fun p0 np0 => ?_⟩
    have sp0 := same_upd (o := .lst [V.ref t0]) np0
    refine ⟨_, rfl, _, rfl, by omega, by omega, for_range (fun i σ H' => ∃ (p : Addr) (us : List Addr) (y2 y3 : Option V), σ = [some (.int (n : Int)), some (.ref p), y2, y3] ∧ Same H H' ∧ H' p = some (.lst (us.map V.ref)) ∧ LotsAt H' us (lotsN i)) ⟨p0, [t0], none, none, rfl, st0.trans sp0, upd_same, rfl, fun i u e => ?_⟩ ?_ ?_⟩
    · match i, e with
      | 0, e =>
        cases Option.some.inj e
        exact ⟨[], rfl, sp0 _ _ upd_same⟩
      | i + 1, e => simp at e
    · rintro i σ H1 hi ⟨p, us, y2, y3, rfl, s1, ep, hL⟩
      have i8 : i < 8 := by omega
      have ul : us.length ≤ 256 := by rw [hL.1]; exact lots_le (by omega)
      refine ⟨_, rfl, _, rfl, p, rfl, ⟨_, lstAt ep⟩, fun D nD => ?_⟩
      refine lc_list (K := K) (a := p) (xs := us.map V.ref) (fun j H' => ∃ ws : List Addr, Same H1 H' ∧ H' D = some (.lst (ws.map V.ref)) ∧ LotsAt H' ws (((lotsN i).take j).map (· ++ [i]))) ⟨[], same_upd nD, upd_same, rfl, fun _ _ e => nomatch e⟩ (fun j H' _ hq => lstAt (hq.choose_spec.1 _ _ ep)) (fun j x H2 hx hq => ?_) (fun H2 hq => ?_)
      · obtain ⟨ws, s2, eD, hW⟩ := hq
        obtain ⟨u, L, rfl, e1, e2, e3⟩ := (hL.same s2).get hx
        have hj := (List.getElem?_eq_some_iff.mp e1).1
        have wl : ws.length ≤ 256 := by
          rw [hW.1, List.length_map, List.length_take]
          have := hL.1
          omega
        have kL : KsOk i L := lots_mem.mp (List.mem_of_getElem? e2)
        have Ll : L.length ≤ 8 := by have := kL.len; omega
        have fin : ∀ (H3 : Hp) (z : Addr), Same H2 H3 → H3 z = some (.tup ((L ++ [i]).map kI)) → ∃ ys, H3 D = some (.lst ys) ∧ ys.length < sizeLine ∧ ∃ ws : List Addr, Same H1 (upd H3 D (.lst (ys ++ [V.ref z]))) ∧ (upd H3 D (.lst (ys ++ [V.ref z]))) D = some (.lst (ws.map V.ref)) ∧ LotsAt (upd H3 D (.lst (ys ++ [V.ref z]))) ws (((lotsN i).take (j + 1)).map (· ++ [i])) := fun H3 z s3 ez => by
          refine ⟨_, s3 _ _ eD, by rw [List.length_map]; exact small1000 (by omega), ws ++ [z], same_at (s2.trans s3) nD, by rw [List.map_append]; exact upd_same, ?_⟩
          rw [List.take_add_one, e2, List.map_append]
          refine LotsAt.app ((hW.same s3).keep (s3 _ _ eD)) ⟨rfl, fun k u e => ?_⟩
          match k, e with
          | 0, e =>
            cases Option.some.inj e
            refine ⟨_, rfl, ?_⟩
            rw [upd_ne (fun q => by subst q; rw [s3 _ _ eD] at ez; cases ez)]
            exact ez
          | k + 1, e => simp at e
        refine ⟨rfl, yesT ⟨_, rfl, _, rfl, (show (1 : Nat) ≤ sizeLine by decide), fun v nv => ?_⟩⟩
        have sv := same_upd (o := .tup [V.int (0 + (i : Int))]) nv
        have ei : V.int (0 + (i : Int)) = kI i := by rw [Int.zero_add]; rfl
        refine ⟨u, v, L.map kI, [V.int (0 + (i : Int))], rfl, rfl, tupAt (sv _ _ e3), tupAt upd_same, by rw [List.length_map]; exact Nat.le_of_lt (small1000 (show L.length + 1 ≤ 1000 by omega)), fun z => ?_, (fun _ z => nomatch z), fun _ _ z nz => ?_⟩
        · have : L = [] := List.map_eq_nil_iff.mp z
          subst this
          exact fin _ v sv (by rw [upd_same, ei]; rfl)
        · exact fin _ z (sv.trans (same_upd nz)) (by rw [upd_same, ei, List.map_append]; rfl)
      obtain ⟨ws, s2, eD, hW⟩ := hq
      rw [List.length_map, hL.1, List.take_length] at hW
      have wl : ws.length ≤ 256 := by rw [hW.1, List.length_map, ← hL.1]; exact ul
      refine ⟨p, D, _, _, rfl, rfl, s2 _ _ ep, eD, by rw [List.length_map, List.length_map]; exact Nat.le_of_lt (small1000 (by omega)), fun p2 np2 => ?_⟩
      have s3 := same_upd (o := .lst (us.map V.ref ++ ws.map V.ref)) np2
      exact ⟨p2, us ++ ws, _, _, rfl, s1.trans (s2.trans s3), by rw [List.map_append]; exact upd_same, ((hL.same s2).app hW).same s3⟩
    · rintro σ H1 ⟨p, us, y2, y3, rfl, s1, ep, hL⟩
      refine ⟨_, rfl, q H1 p us s1 ep ?_⟩
      have : ((n : Int) - 0).toNat = n := by omega
      simpa using hL
/-! _law_excess -/
def spExc (K : PySem.W.Frag) : Sp := fun vs H Q _ => ∃ (g rt l : Addr) (ts : List Addr) (os : List Off) (r : Int × Int) (ks : List Nat), vs = [.ref g, .ref rt, .ref l] ∧ SqL K H g (ts.map V.ref) ∧ OffsAt H ts os ∧ OffsOk os ∧ os.length ≤ 8 ∧ H rt = some (.tup [.int r.1, .int r.2]) ∧ 0 ≤ r.2 ∧ r.2 ≤ 1000000 ∧ H l = some (.tup (ks.map kI)) ∧ KsOk os.length ks ∧
  ∀ H', Same H H' → Q (.int (exF os r ks)) H'
theorem ok_L_excess {f : Addr} {fd : FuncData} (F : Fun K "_law_excess" "_law_excess" s_L_excess f fd) (m_sum : mg "sum" = none) : FnOk P w K mg base CX0 1 f fd ["_law_goods_here", "_law_rate", "_law_lot"] (spExc K) := by
  refine F.ok sc_L_excess (fun vs H Q E h => ?_) (fun cdv A outer s H vs Q E hr h => ?_)
  · obtain ⟨g, rt, l, ts, os, r, ks, rfl, _⟩ := h
    rfl
  · obtain ⟨g, rt, l, ts, os, r, ks, rfl, hg, hT, ok, l8, hr2, r0, r1, hl, kok, q⟩ := h
    have kl := kok.len
    refine ⟨_, (pss_one (ps_ret (pe_callB (cr_sum rfl) (by rfl) m_sum (by decide +kernel) (pa_cons (pe_lc (own := [("_law_k", 3)]) (by rfl) sc_L_excess.nd (pi_tup (pv 2)) (blkOk_by (N := ["_law_goods_here", "_law_rate", "_law_lot", "_law_k"]) (sc := defScope s_L_excess) (by decide +kernel)) (fun _ _ _ _ _ => (pg_name (i := 3) sc_L_excess.nd rfl (.inl rfl))) (fun _ _ _ _ _ => pts_nil) (fun _ _ _ _ _ => (pe_op op_mul (pe_ix (ix_tupK (K := K) rfl) (pe_ix (ix_listK (K := K) rfl) (pv 0) (pv 3) (fun _ _ => rfl)) pe_int (fun _ _ => rfl)) (pe_op op_sub (pe_op op_mul (pe_ix (ix_tupK (K := K) rfl) (pe_ix (ix_listK (K := K) rfl) (pv 0) (pv 3) (fun _ _ => rfl)) pe_int (fun _ _ => rfl)) (pe_ix (ix_tupK (K := K) rfl) (pv 1) pe_int (fun _ _ => rfl))) (pe_ix (ix_tupK (K := K) rfl) (pv 1) pe_int (fun _ _ => rfl)))))) pa_nil)))), ?_⟩
    refine ⟨_, rfl, l, rfl, ⟨_, tupAt hl⟩, fun D nD => ?_⟩
    refine lc_tup (K := K) (a := l) (xs := ks.map kI) (fun i H' => H' = upd H D (.lst (((ks.map (overF os r)).map V.int).take i))) rfl (fun i H' _ hq => by subst hq; exact tupAt ((same_upd nD) _ _ hl)) (fun i x H' hx hq => ?_) (fun H' hq => ?_)
    · subst hq
      obtain ⟨k, ek, rfl⟩ := kI_at hx
      have hi8 : i < 8 := by have := (List.getElem?_eq_some_iff.mp ek).1; omega
      have s1 := same_upd (o := .lst (((ks.map (overF os r)).map V.int).take i)) nD
      obtain ⟨t, t1, t2, t3⟩ := offs_at (hT.same s1) (kok.lt k (List.mem_of_getElem? ek))
      have oo := getD_ok ok (kok.lt k (List.mem_of_getElem? ek))
      have m1 := oo.c0
      have m2 := oo.c1
      have m3 := oo.w0
      have m4 := oo.w1
      refine ⟨rfl, yesT ⟨_, rfl, _, rfl, _, _, _, _, rfl, rfl, s1.seq hg, t2, _, _, _, _, rfl, rfl, tupAt t3, rfl, ?_⟩⟩
      refine ⟨_, rfl, _, rfl, _, _, _, _, rfl, rfl, s1.seq hg, t2, _, _, _, _, rfl, rfl, tupAt t3, rfl, _, rfl, _, _, _, _, rfl, rfl, tupAt (s1 _ _ hr2), rfl, ?_⟩
      refine ⟨_, _, rfl, rfl, .inl ⟨by omega, by omega⟩, _, rfl, _, _, _, _, rfl, rfl, tupAt (s1 _ _ hr2), rfl, _, _, rfl, rfl, _, _, rfl, rfl, .inl ⟨by omega, by omega⟩, _, upd_same, by rw [List.length_take]; exact small1000 (by omega), ?_⟩
      rw [upd_twice, List.take_add_one, List.getElem?_map, List.getElem?_map, ek]
      rfl
    subst hq
    rw [List.take_of_length_le (by rw [List.length_map, List.length_map, List.length_map]; omega)]
    have s1 := same_upd (o := .lst ((ks.map (overF os r)).map V.int)) nD
    exact ⟨D, _, rfl, lstAt upd_same, q _ s1⟩
end
end TK

namespace TK
open PySem PySem.Spec PyProof.Rows L2
/-- the greatest of the first lots -/
structure Gm (os : List Off) (b : Int) (cap : Option Int) (Ls : List (List Nat)) (x y : Int) : Prop where
  x0 : 0 ≤ x
  x1 : x ≤ 8000000000
  y0 : 1 ≤ y
  y1 : y ≤ 9000
  has : ∃ L, Allow os.length cap L ∧ x * (b + wgtF os L) = topF os L * y
  top : ∀ L ∈ Ls, capO cap L.length → topF os L * y ≤ x * (b + wgtF os L)
theorem Gm.zero {os : List Off} {b : Int} {cap : Option Int} (hc : capN cap) : Gm os b cap [] 0 1 := by
  refine ⟨by decide, by decide, by decide, by decide, ⟨[], ⟨.nil, ?_⟩, by simp [topF]⟩, fun _ h => nomatch h⟩
  cases cap with
  | none => exact trivial
  | some c => exact hc c rfl
theorem Gm.gr {os : List Off} {b : Int} {cap : Option Int} {x y : Int} (h : Gm os b cap (lotsN os.length) x y) : Gr os b cap (red x y) := by
  obtain ⟨L, aL, e⟩ := h.has
  refine ⟨⟨x, y, h.x0, h.y0, rfl⟩, ⟨L, aL, ?_⟩, fun L aL => ?_⟩
  · have h1 := (red_le' (c := topF os L) (d := b + wgtF os L) h.x0 h.y0).mpr (Int.le_of_eq e)
    have h2 := (red_le (c := topF os L) (d := b + wgtF os L) h.x0 h.y0).mpr (Int.le_of_eq e.symm)
    omega
  · exact (red_le h.x0 h.y0).mpr (h.top L (lots_mem.mpr aL.1) aL.2)
theorem Gm.stay {os : List Off} {b : Int} {cap : Option Int} {Ls : List (List Nat)} {x y : Int} {L : List Nat} (h : Gm os b cap Ls x y) (k : capO cap L.length → topF os L * y ≤ x * (b + wgtF os L)) : Gm os b cap (Ls ++ [L]) x y :=
  ⟨h.x0, h.x1, h.y0, h.y1, h.has, fun M hM => (List.mem_append.mp hM).elim (h.top M) fun e => by rw [List.mem_singleton.mp e]; exact k⟩
theorem Gm.move {os : List Off} {b : Int} {cap : Option Int} {Ls : List (List Nat)} {x y : Int} {L : List Nat} (h : Gm os b cap Ls x y) (ok : OffsOk os) (l8 : os.length ≤ 8) (b0 : 1 ≤ b) (b1 : b ≤ 1000) (kLs : ∀ M ∈ Ls, KsOk os.length M) (aL : Allow os.length cap L) (k : x * (b + wgtF os L) < topF os L * y) : Gm os b cap (Ls ++ [L]) (topF os L) (b + wgtF os L) := by
  have t8 := top_bd ok l8 aL.1
  have w8 := wgt_bd ok l8 aL.1
  refine ⟨t8.1, t8.2, by omega, by omega, ⟨L, aL, rfl⟩, fun M hM c => ?_⟩
  rcases List.mem_append.mp hM with hM | hM
  · have h1 := h.top M hM c
    have wM := wgt_bd ok l8 (kLs M hM)
    have y0 := h.y0
    have bp : 0 < b + wgtF os M := by omega
    have bq : 0 < b + wgtF os L := by omega
    generalize b + wgtF os M = B at *
    generalize b + wgtF os L = B' at *
    generalize topF os M = A at *
    generalize topF os L = A' at *
    -- A * y ≤ x * B, x * B' < A' * y; so A * B' ≤ A' * B
    have c1 : A * y * B' ≤ x * B * B' := Int.mul_le_mul_of_nonneg_right h1 (by omega)
    have c2 : x * B' * B ≤ A' * y * B := Int.mul_le_mul_of_nonneg_right (Int.le_of_lt k) (by omega)
    have e1 : x * B * B' = x * B' * B := by simp only [Int.mul_assoc, Int.mul_comm, Int.mul_left_comm]
    have e2 : A * y * B' = A * B' * y := by simp only [Int.mul_assoc, Int.mul_comm, Int.mul_left_comm]
    have e3 : A' * y * B = A' * B * y := by simp only [Int.mul_assoc, Int.mul_comm, Int.mul_left_comm]
    exact Int.le_of_mul_le_mul_right (a := y) (by omega) (by omega)
  · rw [List.mem_singleton.mp hM]
    exact Int.le_refl _
section
variable {P : Program} {w : World} {K : PySem.W.Frag} {mg : Str → Option Value} {base : Heap}
/-! _law_greatest_mean -/
def spGm (K : PySem.W.Frag) : Sp := fun vs H Q _ => ∃ (g : Addr) (ts : List Addr) (os : List Off) (b : Int) (cap : Option Int), vs = [.ref g, .int b, capC cap] ∧ SqL K H g (ts.map V.ref) ∧ OffsAt H ts os ∧ OffsOk os ∧ os.length ≤ 8 ∧ 1 ≤ b ∧ b ≤ 1000 ∧ capN cap ∧
  ∀ H' t (r : Int × Int), Same H H' → H' t = some (.tup [.int r.1, .int r.2]) → Gr os b cap r → r.2 ≤ 9000 → 0 ≤ r.2 → Q (.ref t) H'
theorem ok_L_greatest_mean {f : Addr} {fd : FuncData} (F : Fun K "_law_greatest_mean" "_law_greatest_mean" s_L_greatest_mean f fd) (m_sum : mg "sum" = none) (m_len : mg "len" = none) (d_L_lots : Def P w K mg base "_law_lots" 1 ["_law_number"] spLots) (d_L_lowest : Def P w K mg base "_law_lowest" 1 ["_law_above", "_law_below"] spLowest) :
    FnOk P w K mg base CX0 2 f fd ["_law_goods_here", "_law_beside_here", "_law_cap_here"] (spGm K) := by
  refine F.ok sc_L_greatest_mean (fun vs H Q E h => ?_) (fun cdv A outer s H vs Q E hr h => ?_)
  · obtain ⟨g, ts, os, b, cap, rfl, _⟩ := h
    rfl
  · obtain ⟨g, ts, os, b, cap, rfl, hg, hT, ok, l8, b0, b1, hc, q⟩ := h
    have tl : (ts.map V.ref).length = os.length := by rw [List.length_map, hT.1]
    refine ⟨_, (pss_cons (ps_asg (pe_tup (pa_cons pe_int (pa_cons pe_int pa_nil))) (pg_tup (by rfl) (pgs_cons (pg_name (i := 3) sc_L_greatest_mean.nd rfl (.inl rfl)) (pgs_cons (pg_name (i := 4) sc_L_greatest_mean.nd rfl (.inl rfl)) pgs_nil))))
  (pss_cons (ps_for PassesOwn.never rfl (pi_list (pe_callD d_L_lots (hr.mono (by decide)) (by rfl) (pa_cons (pe_callB call_len_seq (by rfl) m_len (by decide +kernel) (pa_cons (pv 0) pa_nil)) pa_nil))) (pg_name (i := 5) sc_L_greatest_mean.nd rfl (.inl rfl))
    (pss_cons (ps_set (i := 6) sc_L_greatest_mean.nd rfl (.inl rfl) (pe_callB (cr_sum rfl) (by rfl) m_sum (by decide +kernel) (pa_cons (pe_lc (own := [("_law_k", 8)]) (by rfl) sc_L_greatest_mean.nd (pi_tup (pv 5)) (blkOk_by (N := ["_law_goods_here", "_law_beside_here", "_law_cap_here", "_law_above", "_law_below", "_law_lot", "_law_one", "_law_two", "_law_k"]) (sc := defScope s_L_greatest_mean) (by decide +kernel)) (fun _ _ _ _ _ => (pg_name (i := 8) sc_L_greatest_mean.nd rfl (.inl rfl))) (fun _ _ _ _ _ => pts_nil) (fun _ _ _ _ _ => (pe_op op_mul (pe_ix (ix_tupK (K := K) rfl) (pe_ix (ix_listK (K := K) rfl) (pv 0) (pv 8) (fun _ _ => rfl)) pe_int (fun _ _ => rfl)) (pe_ix (ix_tupK (K := K) rfl) (pe_ix (ix_listK (K := K) rfl) (pv 0) (pv 8) (fun _ _ => rfl)) pe_int (fun _ _ => rfl))))) pa_nil)))
  (pss_cons (ps_set (i := 7) sc_L_greatest_mean.nd rfl (.inl rfl) (pe_op op_add (pv 1) (pe_callB (cr_sum rfl) (by rfl) m_sum (by decide +kernel) (pa_cons (pe_lc (own := [("_law_k", 8)]) (by rfl) sc_L_greatest_mean.nd (pi_tup (pv 5)) (blkOk_by (N := ["_law_goods_here", "_law_beside_here", "_law_cap_here", "_law_above", "_law_below", "_law_lot", "_law_one", "_law_two", "_law_k"]) (sc := defScope s_L_greatest_mean) (by decide +kernel)) (fun _ _ _ _ _ => (pg_name (i := 8) sc_L_greatest_mean.nd rfl (.inl rfl))) (fun _ _ _ _ _ => pts_nil) (fun _ _ _ _ _ => (pe_ix (ix_tupK (K := K) rfl) (pe_ix (ix_listK (K := K) rfl) (pv 0) (pv 8) (fun _ _ => rfl)) pe_int (fun _ _ => rfl)))) pa_nil))))
  (pss_one (ps_if (PW.pt (pw_and (PW.pt (pw_or (pt_cmpR op_isN (pv 2) pe_non (nomark _)) (pw_or1 (pt_cmpR op_le (pe_callB call_len_seq (by rfl) m_len (by decide +kernel) (pa_cons (pv 5) pa_nil)) (pv 2) (nomark _))))) (pw_and1 (pt_cmpR op_gt (pe_op op_mul (pv 6) (pv 4)) (pe_op op_mul (pv 3) (pv 7)) (nomark _))))) (pss_one (ps_par (i := 3) (j := 4) rfl sc_L_greatest_mean.nd rfl rfl (by decide) rfl rfl (pa_cons (pv 6) (pa_cons (pv 7) pa_nil)) rfl)) pss_nil)))))
  (pss_one (ps_ret (pe_callD d_L_lowest (hr.mono (by decide)) (by rfl) (pa_cons (pv 3) (pa_cons (pv 4) pa_nil))))))), ?_⟩
    refine ⟨(show (2 : Nat) ≤ sizeLine by decide), fun z0 nz0 => ?_⟩
    have sz0 := same_upd (o := .tup [V.int 0, .int 1]) nz0
    refine gTup2 upd_same [some (.ref g), some (.int b), some (capC cap), some (.int 0), some (.int 1), none, none, none, none] rfl ?_
    refine ⟨_, rfl, g, _, rfl, .inl (sz0.seq hg), os.length, by rw [tl]; rfl, l8, fun H1 lp us s1' elp hL => ?_⟩
    have s1 := sz0.trans s1'
    refine ⟨lp, rfl, ⟨_, lstAt elp⟩, ?_⟩
    refine for_list (K := K) (a := lp) (xs := us.map V.ref) (fun i σ H' => ∃ (x y : Int) (y5 y6 y7 : Option V), σ = [some (.ref g), some (.int b), some (capC cap), some (.int x), some (.int y), y5, y6, y7, none] ∧ Same H1 H' ∧ Gm os b cap ((lotsN os.length).take i) x y) ⟨0, 1, none, none, none, rfl, Same.refl _, .zero hc⟩ (fun i σ H' _ hq => ?_) (fun i x σ H2 hx hq => ?_) (fun σ H2 hq => ?_)
    · obtain ⟨_, _, _, _, _, _, s2, _⟩ := hq
      exact lstAt (s2 _ _ elp)
    · obtain ⟨x0, y0, y5, y6, y7, rfl, s2, hG⟩ := hq
      obtain ⟨l, ks, rfl, e1, e2, hl⟩ := (hL.same s2).get hx
      have kok : KsOk os.length ks := lots_mem.mp (List.mem_of_getElem? e2)
      have kl := kok.len
      have w8 := wgt_bd ok l8 kok
      have t8 := top_bd ok l8 kok
      have s12 := s1.trans s2
      have eT : (lotsN os.length).take (i + 1) = (lotsN os.length).take i ++ [ks] := by rw [List.take_add_one, e2]; rfl
      have kLs : ∀ M ∈ (lotsN os.length).take i, KsOk os.length M := fun M hM => lots_mem.mp (List.mem_of_mem_take hM)
      refine ⟨_, rfl, l, rfl, ⟨_, tupAt hl⟩, fun D nD => ?_⟩
      refine lc_tup (K := K) (a := l) (xs := ks.map kI) (fun i H' => H' = upd H2 D (.lst (((ks.map fun k => (os.getD k (0, 1)).1 * (os.getD k (0, 1)).2).map V.int).take i))) rfl (fun i H' _ hq => by subst hq; exact tupAt ((same_upd nD) _ _ hl)) (fun i x H' hx hq => ?_) (fun H' hq => ?_)
      · subst hq
        obtain ⟨k, ek, rfl⟩ := kI_at hx
        have hi8 : i < 8 := by have := (List.getElem?_eq_some_iff.mp ek).1; omega
        have s3 := s12.trans (same_upd (o := .lst (((ks.map fun k => (os.getD k (0, 1)).1 * (os.getD k (0, 1)).2).map V.int).take i)) nD)
        obtain ⟨t, t1, t2, t3⟩ := offs_at (hT.same s3) (kok.lt k (List.mem_of_getElem? ek))
        have oo := getD_ok ok (kok.lt k (List.mem_of_getElem? ek))
        have m1 := oo.c0
        have m2 := oo.c1
        refine ⟨rfl, yesT ⟨_, rfl, _, rfl, _, _, _, _, rfl, rfl, s3.seq hg, t2, _, _, _, _, rfl, rfl, tupAt t3, rfl, _, rfl, _, rfl, _, _, _, _, rfl, rfl, s3.seq hg, t2, _, _, _, _, rfl, rfl, tupAt t3, rfl, _, _, rfl, rfl, .inl ⟨by omega, by omega⟩, _, upd_same, by rw [List.length_take]; exact small1000 (by omega), ?_⟩⟩
        rw [upd_twice, List.take_add_one, List.getElem?_map, List.getElem?_map, ek]
        rfl
      subst hq
      rw [List.take_of_length_le (by rw [List.length_map, List.length_map, List.length_map]; omega)]
      have s3 := same_upd (o := .lst ((ks.map fun k => (os.getD k (0, 1)).1 * (os.getD k (0, 1)).2).map V.int)) nD
      refine ⟨D, _, rfl, lstAt upd_same, ?_⟩
      generalize upd H2 D (.lst ((ks.map fun k => (os.getD k (0, 1)).1 * (os.getD k (0, 1)).2).map V.int)) = H3 at s3 ⊢
      have s13 := s12.trans s3
      refine ⟨_, rfl, _, rfl, l, rfl, ⟨_, tupAt (s3 _ _ hl)⟩, fun D2 nD2 => ?_⟩
      refine lc_tup (K := K) (a := l) (xs := ks.map kI) (fun i H' => H' = upd H3 D2 (.lst (((ks.map fun k => (os.getD k (0, 1)).2).map V.int).take i))) rfl (fun i H' _ hq => by subst hq; exact tupAt ((same_upd nD2) _ _ (s3 _ _ hl))) (fun i x H' hx hq => ?_) (fun H' hq => ?_)
      · subst hq
        obtain ⟨k, ek, rfl⟩ := kI_at hx
        have hi8 : i < 8 := by have := (List.getElem?_eq_some_iff.mp ek).1; omega
        have s4 := s13.trans (same_upd (o := .lst (((ks.map fun k => (os.getD k (0, 1)).2).map V.int).take i)) nD2)
        obtain ⟨t, t1, t2, t3⟩ := offs_at (hT.same s4) (kok.lt k (List.mem_of_getElem? ek))
        refine ⟨rfl, yesT ⟨_, rfl, _, rfl, _, _, _, _, rfl, rfl, s4.seq hg, t2, _, _, _, _, rfl, rfl, tupAt t3, rfl, _, upd_same, by rw [List.length_take]; exact small1000 (by omega), ?_⟩⟩
        rw [upd_twice, List.take_add_one, List.getElem?_map, List.getElem?_map, ek]
        rfl
      subst hq
      rw [List.take_of_length_le (by rw [List.length_map, List.length_map, List.length_map]; omega)]
      have s4 := s3.trans (same_upd (o := .lst ((ks.map fun k => (os.getD k (0, 1)).2).map V.int)) nD2)
      refine ⟨D2, _, rfl, lstAt upd_same, _, _, rfl, rfl, ?_⟩
      generalize upd H3 D2 (.lst ((ks.map fun k => (os.getD k (0, 1)).2).map V.int)) = H4 at s4 ⊢
      have s24 := s2.trans s4
      have x1 := hG.x0
      have x2 := hG.x1
      have y1 := hG.y0
      have y2 := hG.y1
      have yes : Allow os.length cap ks → ∃ v1 v2, v1 = V.int (topF os ks) ∧ v2 = V.int (b + wgtF os ks) ∧ (topF os ks * y0 ≤ x0 * (b + wgtF os ks) → Gm os b cap ((lotsN os.length).take (i + 1)) x0 y0) ∧ (x0 * (b + wgtF os ks) < topF os ks * y0 → Gm os b cap ((lotsN os.length).take (i + 1)) (topF os ks) (b + wgtF os ks)) := fun aL => ⟨_, _, rfl, rfl, fun h => by rw [eT]; exact hG.stay fun _ => h, fun h => by rw [eT]; exact hG.move ok l8 b0 b1 kLs aL h⟩
      cases cap with
      | none =>
        obtain ⟨_, _, _, _, g1, g2⟩ := yes ⟨kok, trivial⟩
        refine ⟨_, rfl, rfl, _, rfl, iteT (iteT ?_)⟩
        refine ⟨_, rfl, _, rfl, _, _, rfl, rfl, .inl ⟨by have := t8.1; show _ < topF os ks; omega, by have := t8.2; show topF os ks < _; omega⟩, _, rfl, _, rfl, _, _, rfl, rfl, .inl ⟨by omega, by omega⟩, _, _, rfl, rfl, _, rfl, ite2 (fun e => ?_) (fun e => ?_)⟩
        · exact ⟨_, rfl, _, rfl, _, _, rfl, topF os ks, b + wgtF os ks, _, _, _, rfl, s24, g2 (of_decide_eq_true e)⟩
        · exact ⟨x0, y0, _, _, _, rfl, s24, g1 (Int.not_lt.mp fun z => e (decide_eq_true z))⟩
      | some c =>
        refine ⟨_, rfl, rfl, _, rfl, iteF ⟨_, rfl, l, _, rfl, .inr (tupAt (s4 _ _ hl)), _, rfl, _, _, rfl, rfl, _, rfl, ?_⟩⟩
        by_cases hk : ((ks.length : Nat) : Int) ≤ c
        · obtain ⟨_, _, _, _, g1, g2⟩ := yes ⟨kok, hk⟩
          rw [decide_eq_true (show (((ks.map kI).length : Nat) : Int) ≤ c by rw [List.length_map]; exact hk)]
          refine iteT ?_
          refine ⟨_, rfl, _, rfl, _, _, rfl, rfl, .inl ⟨by have := t8.1; show _ < topF os ks; omega, by have := t8.2; show topF os ks < _; omega⟩, _, rfl, _, rfl, _, _, rfl, rfl, .inl ⟨by omega, by omega⟩, _, _, rfl, rfl, _, rfl, ite2 (fun e => ?_) (fun e => ?_)⟩
          · exact ⟨_, rfl, _, rfl, _, _, rfl, topF os ks, b + wgtF os ks, _, _, _, rfl, s24, g2 (of_decide_eq_true e)⟩
          · exact ⟨x0, y0, _, _, _, rfl, s24, g1 (Int.not_lt.mp fun z => e (decide_eq_true z))⟩
        · rw [decide_eq_false (show ¬ (((ks.map kI).length : Nat) : Int) ≤ c by rw [List.length_map]; exact hk)]
          refine iteF (iteF ?_)
          exact ⟨x0, y0, _, _, _, rfl, s24, by rw [eT]; exact hG.stay fun z => absurd z hk⟩
    · obtain ⟨x0, y0, y5, y6, y7, rfl, s2, hG⟩ := hq
      rw [List.length_map, hL.1, List.take_length] at hG
      refine ⟨_, rfl, _, rfl, x0, y0, rfl, hG.x0, hG.x1, hG.y0, hG.y1, fun H' t s3 e => q H' t (red x0 y0) (s1.trans (s2.trans s3)) e hG.gr ?_ ?_⟩
      · have := hG.y0
        have := hG.y1
        have h1 : y0 / gcdI x0 y0 ≤ y0 := Int.ediv_le_self _ (by omega)
        show y0 / gcdI x0 y0 ≤ 9000
        omega
      · obtain ⟨_, _, _, _, h1, _⟩ := red_mul hG.x0 hG.y0
        omega
end
end TK

namespace TK
open PySem PySem.Spec PyProof.Rows L2
theorem at_v {n k : Nat} {v : Nat → Int} (h : k < n) : atI (((List.range n).map v).map V.int) (0 + (k : Int)) = some (.int (v k)) := by
  rw [Int.zero_add]
  refine atI_in (Int.natCast_nonneg k) ?_
  rw [Int.toNat_natCast, List.getElem?_map, List.getElem?_map, List.getElem?_range h]
  rfl
section
variable {P : Program} {w : World} {K : PySem.W.Frag} {mg : Str → Option Value} {base : Heap}
/-! _law_picks -/
def spPicks (K : PySem.W.Frag) : Sp := fun vs H Q _ => ∃ (g rt : Addr) (ts : List Addr) (os : List Off) (r : Int × Int) (cap : Option Int), vs = [.ref g, .ref rt, capC cap] ∧ SqL K H g (ts.map V.ref) ∧ OffsAt H ts os ∧ OffsOk os ∧ os.length ≤ 8 ∧ H rt = some (.tup [.int r.1, .int r.2]) ∧ 0 ≤ r.2 ∧ r.2 ≤ 1000000 ∧
  ∀ H' t, Same H H' → H' t = some (.tup ((pickL os.length (overF os r) cap).map kI)) → Q (.ref t) H'
theorem ok_L_picks {f : Addr} {fd : FuncData} (F : Fun K "_law_picks" "_law_picks" s_L_picks f fd) (m_len : mg "len" = none) (m_range : mg "range" = none) (m_tuple : mg "tuple" = none) :
    FnOk P w K mg base CX0 1 f fd ["_law_goods_here", "_law_rate", "_law_cap_here"] (spPicks K) := by
  refine F.ok sc_L_picks (fun vs H Q E h => ?_) (fun cdv A outer s H vs Q E hr h => ?_)
  · obtain ⟨g, rt, ts, os, r, cap, rfl, _⟩ := h
    rfl
  · obtain ⟨g, rt, ts, os, r, cap, rfl, hg, hT, ok, l8, hr2, r20, r21, q⟩ := h
    have tl : (ts.map V.ref).length = os.length := by rw [List.length_map, hT.1]
    refine ⟨_, (pss_cons (ps_set (i := 3) sc_L_picks.nd rfl (.inr rfl) (pe_lc (own := [("_law_charge", 7), ("_law_weight", 8)]) (by rfl) sc_L_picks.nd (pi_list (pv 0)) (blkOk_by (N := ["_law_goods_here", "_law_rate", "_law_cap_here", "_law_over", "_law_lot", "_law_k", "_law_ahead", "_law_charge", "_law_weight", "_law_j"]) (sc := defScope s_L_picks) (by decide +kernel)) (fun _ _ _ _ _ => (pg_tupK (K := K) (n := 2) rfl (by rfl) (pgs_cons (pg_name (i := 7) sc_L_picks.nd rfl (.inl rfl)) (pgs_cons (pg_name (i := 8) sc_L_picks.nd rfl (.inl rfl)) pgs_nil)))) (fun _ _ _ _ _ => pts_nil) (fun _ _ _ _ _ => (pe_op op_mul (pv 8) (pe_op op_sub (pe_op op_mul (pv 7) (pe_ix (ix_tupK (K := K) rfl) (pv 1) pe_int (fun _ _ => rfl))) (pe_ix (ix_tupK (K := K) rfl) (pv 1) pe_int (fun _ _ => rfl)))))))
  (pss_cons (ps_set (i := 4) sc_L_picks.nd rfl (.inl rfl) (pe_lst pa_nil))
  (pss_cons (ps_for PassesOwn.never rfl (pi_range1 (by rfl) m_range (pa_cons (pe_callB call_len_seq (by rfl) m_len (by decide +kernel) (pa_cons (pv 0) pa_nil)) pa_nil)) (pg_name (i := 5) sc_L_picks.nd rfl (.inr rfl))
    (pss_cons (ps_setLc (i := 6) (own := [("_law_j", 9)]) (by rfl) sc_L_picks.nd rfl rfl (sw_true rfl rfl rfl (by decide +kernel)) (pi_range1 (by rfl) m_range (pa_cons (pe_callB call_len_seq (by rfl) m_len (by decide +kernel) (pa_cons (pv 0) pa_nil)) pa_nil)) (blkOk_by (N := ["_law_goods_here", "_law_rate", "_law_cap_here", "_law_over", "_law_lot", "_law_k", "_law_ahead", "_law_charge", "_law_weight", "_law_j"]) (sc := defScope s_L_picks) (by decide +kernel)) (fun _ _ _ _ _ => (pg_name (i := 9) sc_L_picks.nd rfl (.inl rfl))) (fun _ _ _ _ _ => (pts_one (PW.pt (pw_or (pt_cmpR op_gt (pe_ix (ix_listK (K := K) rfl) (pv 3) (pv 9) (fun _ _ => rfl)) (pe_ix (ix_listK (K := K) rfl) (pv 3) (pv 5) (fun _ _ => rfl)) (nomark _)) (pw_or1 (PW.pt (pw_and (pt_cmpR op_eq (pe_ix (ix_listK (K := K) rfl) (pv 3) (pv 9) (fun _ _ => rfl)) (pe_ix (ix_listK (K := K) rfl) (pv 3) (pv 5) (fun _ _ => rfl)) (nomark _)) (pw_and1 (pt_cmpR op_lt (pv 9) (pv 5) (nomark _)))))))))) (fun _ _ _ _ _ => (pv 9)))
  (pss_one (ps_if (PW.pt (pw_and (pt_cmpR op_gt (pe_ix ix_list (pv 3) (pv 5) (fun _ _ => rfl)) pe_int (nomark _)) (pw_and1 (PW.pt (pw_or (pt_cmpR op_isN (pv 2) pe_non (nomark _)) (pw_or1 (pt_cmpR op_lt (pe_callB call_len_seq (by rfl) m_len (by decide +kernel) (pa_cons (pv 6) pa_nil)) (pv 2) (nomark _)))))))) (pss_one (ps_expr (pe_bm PySem.F.plainAttrs_list PySem.F.slot_list_append PySem.F.type_list_append mt_append (pv 4) (pa_cons (pv 5) pa_nil)))) pss_nil))))
  (pss_one (ps_ret (pe_callTy call_tuple_of (by rfl) m_tuple (by decide +kernel) (pa_cons (pv 4) pa_nil))))))), ?_⟩
    refine ⟨_, rfl, g, rfl, ⟨_, hg⟩, fun O nO => ?_⟩
    refine lc_list (K := K) (a := g) (xs := ts.map V.ref) (fun i H' => H' = upd H O (.lst ((((List.range os.length).map (overF os r)).map V.int).take i))) rfl (fun i H' _ hq => by subst hq; exact (same_upd nO).seq hg) (fun i x H' hx hq => ?_) (fun H' hq => ?_)
    · subst hq
      obtain ⟨t, o, rfl, e3, e4, e5⟩ := hT.get hx
      have hi : i < os.length := (List.getElem?_eq_some_iff.mp e4).1
      have s1 := same_upd (o := .lst ((((List.range os.length).map (overF os r)).map V.int).take i)) nO
      have oo := ok o (List.mem_of_getElem? e4)
      have m1 := oo.c0
      have m2 := oo.c1
      have m3 := oo.w0
      have m4 := oo.w1
      refine gTup2 (s1 _ _ e5) [some (.ref g), some (.ref rt), some (capC cap), none, none, none, none, some (.int o.1), some (.int o.2), none] (by simp [wipe, L2.start]) ?_
      refine ⟨by simp [wipe, L2.start], yesT ?_⟩
      refine ⟨_, rfl, _, rfl, _, rfl, _, _, _, _, rfl, rfl, tupAt (s1 _ _ hr2), rfl, _, _, rfl, rfl, .inl ⟨by omega, by omega⟩, _, rfl, _, _, _, _, rfl, rfl, tupAt (s1 _ _ hr2), rfl, _, _, rfl, rfl, _, _, rfl, rfl, .inl ⟨by omega, by omega⟩, _, upd_same, by rw [List.length_take]; exact small1000 (by omega), ?_⟩
      rw [upd_twice, List.take_add_one, List.getElem?_map, List.getElem?_map, List.getElem?_range hi]
      have ev : overF os r i = o.2 * (o.1 * r.2 - r.1) := by
        unfold overF
        rw [List.getD_eq_getElem?_getD, e4]
        rfl
      show _ = upd H O (.lst (_ ++ [V.int (overF os r i)]))
      rw [ev]
    subst hq
    rw [List.take_of_length_le (by rw [List.length_map, List.length_map, List.length_range, tl]; exact Nat.le_refl _)]
    have s1 := same_upd (o := .lst (((List.range os.length).map (overF os r)).map V.int)) nO
    have eO1 := upd_same (H := H) (a := O) (o := .lst (((List.range os.length).map (overF os r)).map V.int))
    generalize upd H O (.lst (((List.range os.length).map (overF os r)).map V.int)) = H1 at s1 eO1 ⊢
    refine ⟨Nat.zero_le _, fun Lp nLp => ?_⟩
    have s2 := same_upd (o := .lst []) nLp
    refine ⟨_, rfl, g, _, rfl, .inl ((s1.trans s2).seq hg), _, rfl, by rw [tl]; omega, by rw [tl]; omega, for_range (fun i σ H' => ∃ (y5 y6 : Option V), σ = [some (.ref g), some (.ref rt), some (capC cap), some (.ref O), some (.ref Lp), y5, y6, none, none, none] ∧ Same H1 H' ∧ H' Lp = some (.lst (((List.range i).filter fun k => decide (0 < overF os r k) && decide (capL cap (aheadN os.length (overF os r) k))).map kI))) ⟨none, none, rfl, s2, upd_same⟩ ?_ ?_⟩
    · rintro k σ H2 hk ⟨y5, y6, rfl, s3, eL⟩
      have hk : k < os.length := by rw [tl] at hk; omega
      have s13 := s1.trans s3
      refine ⟨_, rfl, g, _, rfl, .inl (s13.seq hg), _, rfl, by rw [tl]; omega, by rw [tl]; omega, fun D nD => ?_⟩
      refine lc_range (fun j H' => H' = upd H2 D (.lst (((List.range j).filter fun j => decide (bef (overF os r) j k)).map kI))) rfl (fun j H' hj hq => ?_) (fun H' hq => ?_)
      · subst hq
        have hj : j < os.length := by rw [tl] at hj; omega
        have s4 := same_upd (o := .lst (((List.range j).filter fun j => decide (bef (overF os r) j k)).map kI)) nD
        have eO := s4 _ _ (s3 _ _ eO1)
        have hz : (((List.range j).filter fun j => decide (bef (overF os r) j k)).map kI).length < sizeLine := by
          rw [List.length_map]
          have := List.length_filter_le (fun j => decide (bef (overF os r) j k)) (List.range j)
          rw [List.length_range] at this
          exact small1000 (by omega)
        have yes : bef (overF os r) j k → ∃ acc, upd H2 D (.lst (((List.range j).filter fun j => decide (bef (overF os r) j k)).map kI)) D = some (.lst acc) ∧ acc.length < sizeLine ∧ upd (upd H2 D (.lst (((List.range j).filter fun j => decide (bef (overF os r) j k)).map kI))) D (.lst (acc ++ [V.int (0 + (j : Int))])) = upd H2 D (.lst (((List.range (j + 1)).filter fun j => decide (bef (overF os r) j k)).map kI)) := fun h => by
          refine ⟨_, upd_same, hz, ?_⟩
          rw [upd_twice, List.range_succ, List.filter_append, List.map_append, List.filter_cons, if_pos (decide_eq_true h), Int.zero_add]
          rfl
        have no : ¬ bef (overF os r) j k → upd H2 D (.lst (((List.range j).filter fun j => decide (bef (overF os r) j k)).map kI)) = upd H2 D (.lst (((List.range (j + 1)).filter fun j => decide (bef (overF os r) j k)).map kI)) := fun h => by
          rw [List.range_succ, List.filter_append, List.filter_cons, if_neg (by simp [h]), List.filter_nil, List.append_nil]
        refine ⟨rfl, _, rfl, _, rfl, _, _, _, _, rfl, rfl, lstAt eO, at_v hj, _, rfl, _, rfl, _, _, _, _, rfl, rfl, lstAt eO, at_v hk, _, _, rfl, rfl, _, rfl, ite2 (fun e => ?_) (fun e => ?_)⟩
        · exact iteT ⟨_, rfl, yes (.inl (of_decide_eq_true e))⟩
        · have n1 : ¬ overF os r k < overF os r j := fun z => e (decide_eq_true z)
          refine ⟨_, rfl, _, rfl, _, _, _, _, rfl, rfl, lstAt eO, at_v hj, _, rfl, _, rfl, _, _, _, _, rfl, rfl, lstAt eO, at_v hk, rfl, _, rfl, ite2 (fun e2 => ?_) (fun e2 => ?_)⟩
          · have e3 : overF os r j = overF os r k := V.int.inj (of_decide_eq_true e2)
            refine ⟨_, rfl, _, rfl, _, _, rfl, rfl, _, rfl, ite2 (fun e4 => ?_) (fun e4 => ?_)⟩
            · have := of_decide_eq_true e4
              exact ⟨_, rfl, yes (.inr ⟨e3, by omega⟩)⟩
            · exact no fun z => z.elim n1 fun z => e4 (decide_eq_true (by have := z.2; omega))
          · exact iteF (no fun z => z.elim n1 fun z => e2 (decide_eq_true (congrArg V.int z.1)))
      subst hq
      rw [tl, Int.toNat_natCast]
      have la : (((List.range os.length).filter fun j => decide (bef (overF os r) j k)).map kI).length = aheadN os.length (overF os r) k := List.length_map ..
      generalize ((List.range os.length).filter fun j => decide (bef (overF os r) j k)).map kI = Z at la ⊢
      have s4 := same_upd (o := .lst Z) nD
      have eZ := upd_same (H := H2) (a := D) (o := .lst Z)
      generalize upd H2 D (.lst Z) = H3 at s4 eZ ⊢
      have eO := s4 _ _ (s3 _ _ eO1)
      have eL3 := s4 _ _ eL
      have s34 := s3.trans s4
      have nLp1 : H1 Lp = none := nLp
      have ll : (((List.range k).filter fun k => decide (0 < overF os r k) && decide (capL cap (aheadN os.length (overF os r) k))).map kI).length < sizeLine := by
        rw [List.length_map]
        have := List.length_filter_le (fun k => decide (0 < overF os r k) && decide (capL cap (aheadN os.length (overF os r) k))) (List.range k)
        rw [List.length_range] at this
        exact small1000 (by omega)
      have no : ¬ (0 < overF os r k ∧ capL cap (aheadN os.length (overF os r) k)) → ∃ (y5 y6 : Option V), [some (V.ref g), some (.ref rt), some (capC cap), some (.ref O), some (.ref Lp), some (.int (0 + (k : Int))), some (.ref D), none, none, none] = [some (V.ref g), some (.ref rt), some (capC cap), some (.ref O), some (.ref Lp), y5, y6, none, none, none] ∧ Same H1 H3 ∧ H3 Lp = some (.lst (((List.range (k + 1)).filter fun k => decide (0 < overF os r k) && decide (capL cap (aheadN os.length (overF os r) k))).map kI)) := fun h => by
        refine ⟨_, _, rfl, s34, ?_⟩
        rw [List.range_succ, List.filter_append, List.filter_cons, if_neg (by simpa using h), List.filter_nil, List.append_nil]
        exact eL3
      have yes : (0 < overF os r k ∧ capL cap (aheadN os.length (overF os r) k)) → ∃ (y5 y6 : Option V), [some (V.ref g), some (.ref rt), some (capC cap), some (.ref O), some (.ref Lp), some (.int (0 + (k : Int))), some (.ref D), none, none, none] = [some (V.ref g), some (.ref rt), some (capC cap), some (.ref O), some (.ref Lp), y5, y6, none, none, none] ∧ Same H1 (upd H3 Lp (.lst (((List.range k).filter fun k => decide (0 < overF os r k) && decide (capL cap (aheadN os.length (overF os r) k))).map kI ++ [V.int (0 + (k : Int))]))) ∧ (upd H3 Lp (.lst (((List.range k).filter fun k => decide (0 < overF os r k) && decide (capL cap (aheadN os.length (overF os r) k))).map kI ++ [V.int (0 + (k : Int))]))) Lp = some (.lst (((List.range (k + 1)).filter fun k => decide (0 < overF os r k) && decide (capL cap (aheadN os.length (overF os r) k))).map kI)) := fun h => by
        refine ⟨_, _, rfl, same_at s34 nLp1, ?_⟩
        rw [upd_same, List.range_succ, List.filter_append, List.map_append, List.filter_cons, if_pos (by simpa using h), Int.zero_add]
        rfl
      refine ⟨_, rfl, _, rfl, _, _, _, _, rfl, rfl, lstAt eO, at_v hk, _, _, rfl, rfl, _, rfl, ite2 (fun e => ?_) (fun e => iteF (no fun z => e (decide_eq_true z.1)))⟩
      have e1 := of_decide_eq_true e
      cases cap with
      | none =>
        refine ⟨_, rfl, rfl, _, rfl, iteT (iteT ?_)⟩
        exact ⟨_, rfl, .inl ⟨rfl, _, lstAt eL3⟩, _, rfl, _, _, _, rfl, rfl, eL3, ll, yes ⟨e1, trivial⟩⟩
      | some c =>
        refine ⟨_, rfl, rfl, _, rfl, iteF ⟨_, rfl, D, _, rfl, .inl (lstAt eZ), _, rfl, _, _, rfl, rfl, _, rfl, ?_⟩⟩
        rw [la]
        by_cases hc : capL (some c) (aheadN os.length (overF os r) k)
        · rw [decide_eq_true (show ((aheadN os.length (overF os r) k : Nat) : Int) < c from hc)]
          refine iteT ?_
          exact ⟨_, rfl, .inl ⟨rfl, _, lstAt eL3⟩, _, rfl, _, _, _, rfl, rfl, eL3, ll, yes ⟨e1, hc⟩⟩
        · rw [decide_eq_false (show ¬ ((aheadN os.length (overF os r) k : Nat) : Int) < c from hc)]
          exact iteF (no fun z => hc z.2)
    · rintro σ H2 ⟨y5, y6, rfl, s3, eL⟩
      rw [tl] at eL
      refine ⟨_, rfl, Lp, _, rfl, .inl ⟨lstAt eL, fun t nt => ?_⟩⟩
      exact q _ t (s1.trans (s3.trans (same_upd nt))) (by rw [upd_same]; simp [pickL])
end
end TK

namespace TK
open PySem PySem.Spec PyProof.Rows L2
/-- a lot and its rate, the same -/
theorem eq_bw {H : Hp} {t u lt lt' rt rt' : Addr} {ks : List Nat} {r : Int × Int} (h1 : H t = some (.tup [.ref lt, .ref rt])) (h2 : H u = some (.tup [.ref lt', .ref rt'])) (e1 : H lt = some (.tup (ks.map kI))) (e2 : H lt' = some (.tup (ks.map kI))) (kl : ks.length ≤ 8) (g1 : H rt = some (.tup [.int r.1, .int r.2])) (g2 : H rt' = some (.tup [.int r.1, .int r.2])) : Eq2 H 3 (.ref t) (.ref u) := by
  refine .inr ⟨t, u, _, _, rfl, rfl, .inr ⟨.inl h1, .inl h2⟩, rfl, (show (2 : Nat) < 2 ^ 40 by decide), fun i x y hx hy => ?_⟩
  match i, hx, hy with
  | 0, hx, hy =>
    cases Option.some.inj hx; cases Option.some.inj hy
    refine eq_flat (.inl e1) (.inl e2) (by rw [List.length_map]; omega) (fun z hz => ?_) 1
    obtain ⟨k, _, rfl⟩ := List.mem_map.mp hz
    rfl
  | 1, hx, hy =>
    cases Option.some.inj hx; cases Option.some.inj hy
    exact eq_two g1 g2 rfl rfl 1
  | i + 2, hx, _ => simp at hx
theorem pickL_8 {n : Nat} {v : Nat → Int} {cap : Option Int} (h : n ≤ 8) : (pickL n v cap).length ≤ 8 := Nat.le_trans (pickL_ok (v := v) (cap := cap)).len h
section
variable {P : Program} {w : World} {K : PySem.W.Frag} {mg : Str → Option Value} {base : Heap}
def spLaw (K : PySem.W.Frag) : Sp := fun vs H Q _ => ∃ (a : Addr) (ns : List Int), vs = [.ref a] ∧ SqL K H a (ns.map V.int) ∧ ns.length ≤ 63 ∧ ∀ H', Q (.bl true) H'
theorem ok_law {f C fI gM gB : Addr} {fd fdI fdM fdB : FuncData} (F : Fun K "law" "law" s_law f fd) (T : TxtG K C) (m_list : mg "list" = none) (m_len : mg "len" = none)
    (M_Guests : Mk K C fI) (G_Guests : FnOk P w K mg base CX0 3 fI fdI ["self", "offers", "aside"] (spInitG K C)) (mg_Guests : mg "Guests" = some (.ref C)) (b_Guests : Binds K fdI ["self", "offers", "aside"] [])
    (Me_mean : Meth K C "mean" gM) (G_mean : FnOk P w K mg base CX0 1 gM fdM ["self", "lot"] (spMeanG K C)) (b_mean : Binds K fdM ["self", "lot"] [])
    (Me_best : Meth K C "best" gB) (G_best : FnOk P w K mg base CX0 4 gB fdB ["self", "most"] (spBest K C)) {ds : List Value} (v_best : Vals [V.non] ds) (b_best : Binds K fdB ["self", "most"] ds) {g1 : List Value → List Value → List Value} (kb_best : KBn K fdB ["self", "most"] 1 ["most"] g1 (fun vs zs => vs ++ zs))
    (d_L_cell : Def P w K mg base "_law_cell" 1 ["_law_script", "_law_k"] (spCellA K)) (d_L_pool : Def P w K mg base "_law_pool" 2 ["_law_cell_here", "_law_number"] spPool)
    (d_L_part : Def P w K mg base "_law_part" 1 ["_law_pool_here", "_law_spot", "_law_under", "_law_size"] (spPart K)) (d_L_goods : Def P w K mg base "_law_goods" 3 ["_law_pool_here", "_law_spot", "_law_number", "_law_calm"] (spGoods K))
    (d_L_beside : Def P w K mg base "_law_beside" 3 ["_law_pool_here", "_law_spot"] (spBeside K)) (d_L_few : Def P w K mg base "_law_few" 2 ["_law_pool_here", "_law_spot"] (spFew K)) (d_L_cap : Def P w K mg base "_law_cap" 2 ["_law_pool_here", "_law_spot"] (spCap K))
    (d_L_lots : Def P w K mg base "_law_lots" 1 ["_law_number"] spLots) (d_L_greatest_mean : Def P w K mg base "_law_greatest_mean" 2 ["_law_goods_here", "_law_beside_here", "_law_cap_here"] (spGm K))
    (d_L_picks : Def P w K mg base "_law_picks" 1 ["_law_goods_here", "_law_rate", "_law_cap_here"] (spPicks K)) (d_L_excess : Def P w K mg base "_law_excess" 1 ["_law_goods_here", "_law_rate", "_law_lot"] (spExc K))
    (d_L_same : Def P w K mg base "_law_same" 5 ["_law_got", "_law_wanted"] (spSame 3)) : FnOk P w K mg base CX0 6 f fd ["_law_script"] (spLaw K) := by
  refine F.ok sc_law (fun vs H Q E h => ?_) (fun cdv A outer s H vs Q E hr h => ?_)
  · obtain ⟨a, ns, rfl, _⟩ := h
    rfl
  · obtain ⟨a, ns, rfl, hS, hlen, q⟩ := h
    refine ⟨_, (pss_cons (ps_set (i := 1) sc_law.nd rfl (.inl rfl) (pe_callD d_L_pool (hr.mono (by decide)) (by rfl) (pa_cons (pe_callD d_L_cell (hr.mono (by decide)) (by rfl) (pa_cons (pv 0) (pa_cons pe_int pa_nil))) (pa_cons pe_int pa_nil))))
  (pss_cons (ps_set (i := 2) sc_law.nd rfl (.inl rfl) (pe_callD d_L_goods (hr.mono (by decide)) (by rfl) (pa_cons (pe_callD d_L_pool (hr.mono (by decide)) (by rfl) (pa_cons (pe_callD d_L_cell (hr.mono (by decide)) (by rfl) (pa_cons (pv 0) (pa_cons pe_int pa_nil))) (pa_cons pe_int pa_nil))) (pa_cons pe_int (pa_cons (pe_callD d_L_few (hr.mono (by decide)) (by rfl) (pa_cons (pv 1) (pa_cons pe_int pa_nil))) (pa_cons (pe_cmpR op_eq (pe_callD d_L_part (hr.mono (by decide)) (by rfl) (pa_cons (pv 1) (pa_cons pe_int (pa_cons pe_int (pa_cons pe_int pa_nil))))) pe_int (nomark _)) pa_nil))))))
  (pss_cons (ps_set (i := 3) sc_law.nd rfl (.inl rfl) (pe_callD d_L_beside (hr.mono (by decide)) (by rfl) (pa_cons (pv 1) (pa_cons pe_int pa_nil))))
  (pss_cons (ps_set (i := 4) sc_law.nd rfl (.inl rfl) (pe_callD d_L_cap (hr.mono (by decide)) (by rfl) (pa_cons (pv 1) (pa_cons pe_int pa_nil))))
  (pss_cons (ps_set (i := 5) sc_law.nd rfl (.inl rfl) (pe_callTy call_list_of (by rfl) m_list (by decide +kernel) (pa_cons (pv 2) pa_nil)))
  (pss_cons (ps_set (i := 6) sc_law.nd rfl (.inl rfl) (pe_make M_Guests G_Guests (hr.mono (by decide)) (by rfl) mg_Guests b_Guests .nil pass0 (pa_cons (pv 5) (pa_cons (pv 3) pa_nil))))
  (pss_cons (ps_set (i := 7) sc_law.nd rfl (.inl rfl) (pe_callD d_L_greatest_mean (hr.mono (by decide)) (by rfl) (pa_cons (pv 2) (pa_cons (pv 3) (pa_cons (pv 4) pa_nil)))))
  (pss_cons (ps_set (i := 8) sc_law.nd rfl (.inl rfl) (pe_tup (pa_cons (pe_callD d_L_picks (hr.mono (by decide)) (by rfl) (pa_cons (pv 2) (pa_cons (pv 7) (pa_cons (pv 4) pa_nil)))) (pa_cons (pv 7) pa_nil))))
  (pss_cons (ps_set (i := 9) sc_law.nd rfl (.inl rfl) (pe_methK0 (pv 6) T.cl Me_best G_best (hr.mono (by decide)) kb_best pass0 (pk_cons (pv 4) pk_nil)))
  (pss_cons (ps_if (PW.pt (pw_or (pt_not (pt_val (pe_callD d_L_same (hr.mono (by decide)) (by rfl) (pa_cons (pv 9) (pa_cons (pv 8) pa_nil))))) (pw_or1 (pt_not (pt_val (pe_callD d_L_same (hr.mono (by decide)) (by rfl) (pa_cons (pv 5) (pa_cons (pv 2) pa_nil)))))))) (pss_one (ps_ret pe_bl)) pss_nil)
  (pss_cons (ps_if (PW.pt (pw_or (pt_cmpR op_ne (pe_callD d_L_excess (hr.mono (by decide)) (by rfl) (pa_cons (pv 2) (pa_cons (pe_ix ix_tup (pv 9) pe_int (fun _ _ => rfl)) (pa_cons (pe_ix ix_tup (pv 9) pe_int (fun _ _ => rfl)) pa_nil)))) (pe_op op_mul (pv 3) (pe_ix ix_tup (pe_ix ix_tup (pv 9) pe_int (fun _ _ => rfl)) pe_int (fun _ _ => rfl))) (nomark _)) (pw_or1 (pt_not (pt_val (pe_callD d_L_same (hr.mono (by decide)) (by rfl) (pa_cons (pe_meth (pv 6) T.cl Me_mean G_mean (hr.mono (by decide)) b_mean .nil pass0 (pa_cons (pe_ix ix_tup (pv 9) pe_int (fun _ _ => rfl)) pa_nil)) (pa_cons (pe_ix ix_tup (pv 9) pe_int (fun _ _ => rfl)) pa_nil)))))))) (pss_one (ps_ret pe_bl)) pss_nil)
  (pss_cons (ps_for PassesOwn.never rfl (pi_list (pe_callD d_L_lots (hr.mono (by decide)) (by rfl) (pa_cons (pe_callB call_len_seq (by rfl) m_len (by decide +kernel) (pa_cons (pv 2) pa_nil)) pa_nil))) (pg_name (i := 10) sc_law.nd rfl (.inl rfl))
    (pss_one (ps_if (PW.pt (pw_and (PW.pt (pw_or (pt_cmpR op_isN (pv 4) pe_non (nomark _)) (pw_or1 (pt_cmpR op_le (pe_callB call_len_seq (by rfl) m_len (by decide +kernel) (pa_cons (pv 10) pa_nil)) (pv 4) (nomark _))))) (pw_and1 (pt_cmpR op_gt (pe_callD d_L_excess (hr.mono (by decide)) (by rfl) (pa_cons (pv 2) (pa_cons (pe_ix ix_tup (pv 9) pe_int (fun _ _ => rfl)) (pa_cons (pv 10) pa_nil)))) (pe_op op_mul (pv 3) (pe_ix ix_tup (pe_ix ix_tup (pv 9) pe_int (fun _ _ => rfl)) pe_int (fun _ _ => rfl))) (nomark _))))) (pss_one (ps_ret pe_bl)) pss_nil)))
  (pss_cons (ps_set (i := 11) sc_law.nd rfl (.inl rfl) (pe_make M_Guests G_Guests (hr.mono (by decide)) (by rfl) mg_Guests b_Guests .nil pass0 (pa_cons (pe_revL (pv 2)) (pa_cons (pv 3) pa_nil))))
  (pss_cons (ps_if (pt_not (pt_val (pe_callD d_L_same (hr.mono (by decide)) (by rfl) (pa_cons (pe_methK0 (pv 11) T.cl Me_best G_best (hr.mono (by decide)) kb_best pass0 (pk_cons (pv 4) pk_nil)) (pa_cons (pe_tup (pa_cons (pe_callD d_L_picks (hr.mono (by decide)) (by rfl) (pa_cons (pe_revL (pv 2)) (pa_cons (pv 7) (pa_cons (pv 4) pa_nil)))) (pa_cons (pv 7) pa_nil))) pa_nil))))) (pss_one (ps_ret pe_bl)) pss_nil)
  (pss_cons (ps_set (i := 12) sc_law.nd rfl (.inl rfl) (pe_callD d_L_greatest_mean (hr.mono (by decide)) (by rfl) (pa_cons (pv 2) (pa_cons (pv 3) (pa_cons pe_non pa_nil)))))
  (pss_cons (ps_if (pt_not (pt_val (pe_callD d_L_same (hr.mono (by decide)) (by rfl) (pa_cons (pe_meth0 (pv 6) T.cl Me_best G_best (hr.mono (by decide)) b_best v_best pass0) (pa_cons (pe_tup (pa_cons (pe_callD d_L_picks (hr.mono (by decide)) (by rfl) (pa_cons (pv 2) (pa_cons (pv 12) (pa_cons pe_non pa_nil)))) (pa_cons (pv 12) pa_nil))) pa_nil))))) (pss_one (ps_ret pe_bl)) pss_nil)
  (pss_one (ps_ret (pe_callD d_L_same (hr.mono (by decide)) (by rfl) (pa_cons (pe_methK0 (pv 6) T.cl Me_best G_best (hr.mono (by decide)) kb_best pass0 (pk_cons (pv 4) pk_nil)) (pa_cons (pv 8) pa_nil))))))))))))))))))))), ?_⟩
    refine ⟨_, rfl, a, ns, 1, rfl, hS, by decide, by decide, by omega, fun c1 => ⟨c1, 8, rfl, by decide, by decide, fun p1 ns1 np1 l1 o1 => ?_⟩⟩
    have s1 : Same H (upd H p1 (.lst (ns1.map V.int))) := same_upd np1
    refine ⟨_, rfl, a, ns, 0, rfl, s1.seq hS, by decide, by decide, by omega, fun c2 => ⟨c2, 32, rfl, by decide, by decide, fun p2 ns2 np2 l2 o2 => ?_⟩⟩
    have e12 := (same_upd (o := .lst (ns2.map V.int)) np2) _ _ (upd_same (H := H) (a := p1) (o := .lst (ns1.map V.int)))
    refine ⟨_, rfl, p1, ns1, 0, rfl, lstAt e12, by decide, by omega, fun nn n8 => ?_⟩
    refine ⟨_, rfl, p1, ns1, 0, 144, 2, rfl, lstAt e12, by decide, by omega, by decide, by decide, by decide, rfl, p2, ns2, 0, nn, _, rfl, lstAt upd_same, by decide, by omega, by omega, by omega, fun H3 g ts os ng s3 eg hT ok ol => ?_⟩
    have e13 := s3 _ _ e12
    clear s1 s3 e12
    have l8 : os.length ≤ 8 := by omega
    have tl : (ts.map V.ref).length = os.length := by rw [List.length_map, hT.1]
    have okr : OffsOk os.reverse := fun x hx => ok x (List.mem_reverse.mp hx)
    have l8r : os.reverse.length ≤ 8 := by rw [List.length_reverse]; exact l8
    refine ⟨_, rfl, p1, ns1, 1, rfl, lstAt e13, by decide, by omega, fun b b0 b1 => ?_⟩
    refine ⟨_, rfl, p1, ns1, 3, rfl, lstAt e13, by decide, by omega, fun cap H4 s4 hc => ?_⟩
    -- the guests
    refine ⟨_, rfl, g, _, rfl, .inl (lstAt (s4 _ _ eg)), fun G nG => ?_⟩
    have sG := same_upd (o := .lst (ts.map V.ref)) nG
    refine ⟨_, rfl, _, rfl, ?_⟩
    intro c d n1 n2 ne
    refine make_goG n1 n2 ne (.inl (lstAt upd_same)) ((hT.same s4).same sG) ok l8 b0 b1 fun H6 k6 s6 => ?_
    have eG6 := s6 _ _ (upd_same (H := H4) (a := G) (o := .lst (ts.map V.ref)))
    have eg6 := s6 _ _ (sG _ _ (s4 _ _ eg))
    have hT6 := ((hT.same s4).same sG).same s6
    obtain ⟨dx, aa, us0, hcx, _⟩ := id k6
    clear s4 sG s6 hT eg
    -- the rate and what is wanted
    refine ⟨_, rfl, _, rfl, _, rfl, g, ts, os, b, cap, rfl, lstAt eg6, hT6, ok, l8, b0, b1, hc, fun H7 rt r s7 ert gr r9 r0 => ?_⟩
    refine ⟨_, rfl, _, rfl, _, rfl, g, rt, ts, os, r, cap, rfl, lstAt (s7 _ _ eg6), hT6.same s7, ok, l8, ert, r0, by omega, fun H8 pk s8 epk => ?_⟩
    refine ⟨_, rfl, (show (2 : Nat) ≤ sizeLine by decide), fun W nW => ?_⟩
    have sW := same_upd (o := .tup [V.ref pk, .ref rt]) nW
    have eW : (upd H8 W (.tup [V.ref pk, .ref rt])) W = some (.tup [V.ref pk, .ref rt]) := upd_same
    generalize upd H8 W (.tup [V.ref pk, .ref rt]) = H9 at sW eW ⊢
    have s69 := s7.trans (s8.trans sW)
    have ert9 := (s8.trans sW) _ _ ert
    have epk9 := sW _ _ epk
    have hT9 := hT6.same s69
    have eg9 := s69 _ _ eg6
    have eG9 := s69 _ _ eG6
    have k9 := k6.same s69
    have hc9 := s69 _ _ hcx
    have pl8 := pickL_8 (v := overF os r) (cap := cap) l8
    clear s69 s7 s8 sW hT6 eg6 eG6 k6 hcx
    -- what is got
    refine ⟨_, rfl, c, dx, _, rfl, hc9, fldsG_best _ _, _, rfl, rfl, c, os, b, cap, rfl, k9, ok, l8, b0, b1, hc, fun H10 t rt1 lt1 r1 s10 et ert1 elt hb => ?_⟩
    obtain rfl : r1 = r := (hb.gr ok l8 b0 hc).one gr ok l8 b0
    have eg10 := s10 _ _ eg9
    have hT10 := hT9.same s10
    refine ⟨_, rfl, _, rfl, _, _, rfl, eq_bw et (s10 _ _ eW) elt (s10 _ _ epk9) pl8 ert1 (s10 _ _ ert9), _, rfl, iteF ?_⟩
    refine ⟨_, rfl, _, rfl, _, _, rfl, eq_offsL (s10 _ _ eG9) eg10 hT10 hT10 l8 1, _, rfl, iteF ?_⟩
    have mx := mean_ex ok l8 b0 (pickL_ok (n := os.length) (v := overF os r1) (cap := cap))
    rw [hb.has] at mx
    refine ⟨_, rfl, _, rfl, _, _, _, _, rfl, rfl, tupAt et, rfl, _, rfl, _, _, _, _, rfl, rfl, tupAt et, rfl, g, rt1, lt1, ts, os, r1, _, rfl, lstAt eg10, hT10, ok, l8, ert1, r0, by omega, elt, pickL_ok, fun H11 s11 => ?_⟩
    have s911 := s10.trans s11
    refine ⟨_, rfl, _, rfl, _, _, _, _, rfl, rfl, tupAt (s11 _ _ et), rfl, _, _, _, _, rfl, rfl, tupAt (s11 _ _ ert1), rfl, _, _, rfl, rfl, .inl ⟨by omega, by omega⟩, rfl, _, rfl, ?_⟩
    rw [decide_eq_true (show V.int (exF os r1 (pickL os.length (overF os r1) cap)) = V.int (b * r1.1) by rw [mx, Int.mul_comm])]
    refine iteF ?_
    refine ⟨_, rfl, c, dx, _, rfl, s911 _ _ hc9, fldsG_mean _ _, _, rfl, _, _, _, _, rfl, rfl, tupAt (s11 _ _ et), rfl, c, lt1, os, b, _, rfl, k9.same s911, ok, l8, b0, b1, tupAt (s11 _ _ elt), pickL_ok, fun H12 mt s12 emt => ?_⟩
    have s912 := s911.trans s12
    have s1012 := s11.trans s12
    have emt' : H12 mt = some (.tup [.int (meanF os b (pickL os.length (overF os r1) cap)).1, .int (meanF os b (pickL os.length (overF os r1) cap)).2]) := emt
    rw [hb.has] at emt'
    refine ⟨_, rfl, _, _, _, _, rfl, rfl, tupAt (s1012 _ _ et), rfl, _, _, rfl, eq_two emt' (s1012 _ _ ert1) rfl rfl 2, _, rfl, iteF ?_⟩
    -- no lot is worth more
    have et12 := s1012 _ _ et
    have ert12 := s1012 _ _ ert1
    have eg12 := s912 _ _ eg9
    have hT12 := hT9.same s912
    refine ⟨_, rfl, g, _, rfl, .inl (lstAt eg12), os.length, by rw [tl]; rfl, l8, fun H13 lp us s13 elp hL => ?_⟩
    refine ⟨lp, rfl, ⟨_, lstAt elp⟩, ?_⟩
    refine for_list (K := K) (a := lp) (xs := us.map V.ref) (fun i σ H' => ∃ y10 : Option V, σ = [some (.ref a), some (.ref p1), some (.ref g), some (.int b), some (capC cap), some (.ref G), some (.ref c), some (.ref rt), some (.ref W), some (.ref t), y10, none, none] ∧ Same H13 H') ⟨none, rfl, Same.refl _⟩ (fun i σ H' _ hq => lstAt (hq.choose_spec.2 _ _ elp)) (fun i x σ H' hx hq => ?_) (fun σ H' hq => ?_)
    · obtain ⟨y10, rfl, s14⟩ := hq
      obtain ⟨l, L, rfl, e1, e2, hl⟩ := (hL.same s14).get hx
      have kok : KsOk os.length L := lots_mem.mp (List.mem_of_getElem? e2)
      have s1214 := s13.trans s14
      have fin : ∀ H15, Same H' H15 → ∃ y10 : Option V, [some (V.ref a), some (.ref p1), some (.ref g), some (.int b), some (capC cap), some (.ref G), some (.ref c), some (.ref rt), some (.ref W), some (.ref t), some (.ref l), none, none] = [some (V.ref a), some (.ref p1), some (.ref g), some (.int b), some (capC cap), some (.ref G), some (.ref c), some (.ref rt), some (.ref W), some (.ref t), y10, none, none] ∧ Same H13 H15 := fun H15 s => ⟨_, rfl, s14.trans s⟩
      have top : Allow os.length cap L → ¬ (b * r1.1 < exF os r1 L) := fun aL => by
        have := hb.top ok l8 b0 hc aL
        rw [Int.mul_comm] at this
        omega
      cases cap with
      | none =>
        refine ⟨_, rfl, rfl, _, rfl, iteT (iteT ?_)⟩
        refine ⟨_, rfl, _, rfl, _, _, _, _, rfl, rfl, tupAt (s1214 _ _ et12), rfl, _, rfl, g, rt1, l, ts, os, r1, L, rfl, lstAt (s1214 _ _ eg12), hT12.same s1214, ok, l8, s1214 _ _ ert12, r0, by omega, hl, kok, fun H15 s15 => ?_⟩
        refine ⟨_, rfl, _, rfl, _, _, _, _, rfl, rfl, tupAt (s15 _ _ (s1214 _ _ et12)), rfl, _, _, _, _, rfl, rfl, tupAt (s15 _ _ (s1214 _ _ ert12)), rfl, _, _, rfl, rfl, .inl ⟨by omega, by omega⟩, _, _, rfl, rfl, _, rfl, ?_⟩
        rw [decide_eq_false (top ⟨kok, trivial⟩)]
        exact iteF (fin _ s15)
      | some cc =>
        refine ⟨_, rfl, rfl, _, rfl, iteF ⟨_, rfl, l, _, rfl, .inr (tupAt hl), _, rfl, _, _, rfl, rfl, _, rfl, ?_⟩⟩
        by_cases hk : ((L.length : Nat) : Int) ≤ cc
        · rw [decide_eq_true (show (((L.map kI).length : Nat) : Int) ≤ cc by rw [List.length_map]; exact hk)]
          refine iteT ?_
          refine ⟨_, rfl, _, rfl, _, _, _, _, rfl, rfl, tupAt (s1214 _ _ et12), rfl, _, rfl, g, rt1, l, ts, os, r1, L, rfl, lstAt (s1214 _ _ eg12), hT12.same s1214, ok, l8, s1214 _ _ ert12, r0, by omega, hl, kok, fun H15 s15 => ?_⟩
          refine ⟨_, rfl, _, rfl, _, _, _, _, rfl, rfl, tupAt (s15 _ _ (s1214 _ _ et12)), rfl, _, _, _, _, rfl, rfl, tupAt (s15 _ _ (s1214 _ _ ert12)), rfl, _, _, rfl, rfl, .inl ⟨by omega, by omega⟩, _, _, rfl, rfl, _, rfl, ?_⟩
          rw [decide_eq_false (top ⟨kok, hk⟩)]
          exact iteF (fin _ s15)
        · rw [decide_eq_false (show ¬ (((L.map kI).length : Nat) : Int) ≤ cc by rw [List.length_map]; exact hk)]
          exact iteF (iteF (fin _ (Same.refl _)))
    obtain ⟨y10, rfl, s14⟩ := hq
    have s914 := s912.trans (s13.trans s14)
    -- turned about
    refine ⟨_, rfl, g, _, rfl, lstAt (s914 _ _ eg9), fun rv nrv => ?_⟩
    rw [← List.map_reverse]
    have sr := same_upd (o := .lst (ts.reverse.map V.ref)) nrv
    refine ⟨_, rfl, ?_⟩
    intro u d2 n3 n4 ne2
    refine make_goG n3 n4 ne2 (.inl (lstAt upd_same)) (((hT9.same s914).same sr).rev) okr l8r b0 b1 fun H16 k16 s16 => ?_
    have s916 := s914.trans (sr.trans s16)
    obtain ⟨dx2, aa2, us2, hu, _⟩ := id k16
    refine ⟨_, rfl, u, dx2, _, rfl, hu, fldsG_best _ _, _, rfl, rfl, u, os.reverse, b, cap, rfl, k16, okr, l8r, b0, b1, hc, fun H17 t2 rt2 lt2 r2 s17 et2 ert2 elt2 hb2 => ?_⟩
    obtain rfl : r1 = r2 := gr.back (hb2.gr okr l8r b0 hc) ok l8 b0
    have s917 := s916.trans s17
    refine ⟨_, rfl, g, _, rfl, lstAt (s917 _ _ eg9), fun rv2 nrv2 => ?_⟩
    rw [← List.map_reverse]
    have sr2 := same_upd (o := .lst (ts.reverse.map V.ref)) nrv2
    refine ⟨_, rfl, _, rfl, rv2, rt, ts.reverse, os.reverse, r1, cap, rfl, lstAt upd_same, ((hT9.same s917).same sr2).rev, okr, l8r, sr2 _ _ (s917 _ _ ert9), r0, by omega, fun H18 pk2 s18 epk2 => ?_⟩
    refine ⟨_, rfl, (show (2 : Nat) ≤ sizeLine by decide), fun W2 nW2 => ?_⟩
    have sW2 := same_upd (o := .tup [V.ref pk2, .ref rt]) nW2
    have s1719 := sr2.trans (s18.trans sW2)
    have s919 := s917.trans s1719
    refine ⟨_, _, rfl, eq_bw (s1719 _ _ et2) upd_same (s1719 _ _ elt2) (sW2 _ _ epk2) (pickL_8 l8r) (s1719 _ _ ert2) (s919 _ _ ert9), _, rfl, iteF ?_⟩
    generalize upd H18 W2 (.tup [V.ref pk2, .ref rt]) = H19 at s919 ⊢
    -- with no bound
    refine ⟨_, rfl, _, rfl, g, ts, os, b, none, rfl, lstAt (s919 _ _ eg9), hT9.same s919, ok, l8, b0, b1, (fun _ z => nomatch z), fun H20 rt3 r3 s20 ert3 gr3 r93 r03 => ?_⟩
    have s920 := s919.trans s20
    refine ⟨_, rfl, c, dx, _, rfl, s920 _ _ hc9, fldsG_best _ _, c, os, b, none, rfl, k9.same s920, ok, l8, b0, b1, (fun _ z => nomatch z), fun H21 t4 rt4 lt4 r4 s21 et4 ert4 elt4 hb4 => ?_⟩
    obtain rfl : r4 = r3 := (hb4.gr ok l8 b0 (show capN none from fun _ z => nomatch z)).one gr3 ok l8 b0
    have s921 := s920.trans s21
    refine ⟨_, rfl, _, rfl, g, rt3, ts, os, r4, none, rfl, lstAt (s921 _ _ eg9), hT9.same s921, ok, l8, s21 _ _ ert3, r03, by omega, fun H22 pk4 s22 epk4 => ?_⟩
    refine ⟨_, rfl, (show (2 : Nat) ≤ sizeLine by decide), fun W4 nW4 => ?_⟩
    have sW4 := same_upd (o := .tup [V.ref pk4, .ref rt3]) nW4
    have s2123 := s22.trans sW4
    have s923 := s921.trans s2123
    refine ⟨_, _, rfl, eq_bw (s2123 _ _ et4) upd_same (s2123 _ _ elt4) (sW4 _ _ epk4) (pickL_8 l8) (s2123 _ _ ert4) (s2123 _ _ (s21 _ _ ert3)), _, rfl, iteF ?_⟩
    generalize upd H22 W4 (.tup [V.ref pk4, .ref rt3]) = H23 at s923 ⊢
    -- once more
    refine ⟨_, rfl, c, dx, _, rfl, s923 _ _ hc9, fldsG_best _ _, _, rfl, rfl, c, os, b, cap, rfl, k9.same s923, ok, l8, b0, b1, hc, fun H24 t5 rt5 lt5 r5 s24 et5 ert5 elt5 hb5 => ?_⟩
    obtain rfl : r5 = r1 := (hb5.gr ok l8 b0 hc).one gr ok l8 b0
    have s924 := s923.trans s24
    exact ⟨_, rfl, _, _, rfl, eq_bw et5 (s924 _ _ eW) elt5 (s924 _ _ epk9) pl8 ert5 (s924 _ _ ert9), q _⟩
end
end TK

namespace TK
open PySem PySem.Spec PyProof.Rows L2
/-- how best binds: with most by its name, and with nothing -/
theorem best_kb {K : PySem.W.Frag} {f : Addr} {fd : FuncData} (F : FunD K "best" "Guests.best" (defArgs s_Guests_best) (defBody s_Guests_best) (defScope s_Guests_best) [] [("most", V.non)] f fd) :
    (∃ g, KBn K fd ["self", "most"] 1 ["most"] g (fun vs zs => vs ++ zs)) ∧ ∃ ds, Vals [V.non] ds ∧ Binds K fd ["self", "most"] ds := by
  refine ⟨?_, ?_⟩
  · obtain ⟨mv, h⟩ := F.kbinds0 (ps := ["self", "most"]) 1 ["most"] [] (fun us _ ws => us ++ ws) (by decide) (fun q hq => nomatch hq) (fun a _ b => a.append b) fun D doc pm an cdv ct us mv ws h1 h2 h3 => match us, h1, mv, h2, ws, h3 with | [_], _, [], _, [_], _ => rfl
    exact ⟨_, h⟩
  · exact F.binds0 (ps := ["self", "most"]) 1 (by simp) rfl fun D doc pm an cdv ct us ks h1 h2 => match us, h1, ks, h2 with | [_], _, [_], _ => ⟨_, _, _, _, _, _, rfl, rfl, rfl⟩

theorem all_mk {l : PySem.W.OpenLaw} {w : World} {K : PySem.W.Frag} {h : Heap} {mg : Str → Option Value} {fa f0 f1 f2 f3 f4 f5 f6 f7 f8 f9 f10 f11 f12 f13 f14 f15 f16 f17 f18 f19 f20 f21 : Addr} (X : K.In h) (G : h.Ns mainGlobals mg) (hfa : mg "law" = some (.ref fa))
    {C DLB : Addr}
    {fI : Addr} {odI anI : Option Addr} {slI : Array (Option Value)} {ocI kVI dcI pmI cdI ctI : Value}
    {fM : Addr} {odM anM : Option Addr} {slM : Array (Option Value)} {ocM kVM dcM pmM cdM ctM : Value}
    {fW : Addr} {odW anW : Option Addr} {slW : Array (Option Value)} {ocW kVW dcW pmW cdW ctW : Value}
    {fZ : Addr} {odZ anZ : Option Addr} {slZ : Array (Option Value)} {ocZ kVZ dcZ pmZ cdZ ctZ : Value}
    {fB : Addr} {odB anB : Option Addr} {slB : Array (Option Value)} {ocB  dcB pmB cdB ctB : Value}
    {od0 an0 : Option Addr} {sl0 : Array (Option Value)} {oc0 kV0 dc0 pm0 cd0 ct0 : Value}
    (a0 : PySem.W.nsIn K mainGlobals "_wall" = some (some (.ref f0))) (l0 : K.lookup f0 = some ⟨oc0, od0, .func (PySem.W.fnOf "_wall" "_wall" (defArgs s_wall) (defBody s_wall) (defScope s_wall) .none kV0 dc0 pm0 an0 cd0 ct0), sl0⟩) (c0 : PySem.W.codeIn K cd0 "_wall" = true) (k0 : PySem.W.keepIn K (.ref f0) = true)
    {od1 an1 : Option Addr} {sl1 : Array (Option Value)} {oc1 kV1 dc1 pm1 cd1 ct1 : Value}
    (a1 : PySem.W.nsIn K mainGlobals "check_size" = some (some (.ref f1))) (l1 : K.lookup f1 = some ⟨oc1, od1, .func (PySem.W.fnOf "check_size" "check_size" (defArgs s_check_size) (defBody s_check_size) (defScope s_check_size) .none kV1 dc1 pm1 an1 cd1 ct1), sl1⟩) (c1 : PySem.W.codeIn K cd1 "check_size" = true) (k1 : PySem.W.keepIn K (.ref f1) = true)
    {od2 an2 : Option Addr} {sl2 : Array (Option Value)} {oc2 kV2 dc2 pm2 cd2 ct2 : Value}
    (a2 : PySem.W.nsIn K mainGlobals "check_range" = some (some (.ref f2))) (l2 : K.lookup f2 = some ⟨oc2, od2, .func (PySem.W.fnOf "check_range" "check_range" (defArgs s_check_range) (defBody s_check_range) (defScope s_check_range) .none kV2 dc2 pm2 an2 cd2 ct2), sl2⟩) (c2 : PySem.W.codeIn K cd2 "check_range" = true) (k2 : PySem.W.keepIn K (.ref f2) = true)
    {od3 an3 : Option Addr} {sl3 : Array (Option Value)} {oc3 kV3 dc3 pm3 cd3 ct3 : Value}
    (a3 : PySem.W.nsIn K mainGlobals "_check_offers" = some (some (.ref f3))) (l3 : K.lookup f3 = some ⟨oc3, od3, .func (PySem.W.fnOf "_check_offers" "_check_offers" (defArgs s_check_offers) (defBody s_check_offers) (defScope s_check_offers) .none kV3 dc3 pm3 an3 cd3 ct3), sl3⟩) (c3 : PySem.W.codeIn K cd3 "_check_offers" = true) (k3 : PySem.W.keepIn K (.ref f3) = true)
    {od4 an4 : Option Addr} {sl4 : Array (Option Value)} {oc4 kV4 dc4 pm4 cd4 ct4 : Value}
    (a4 : PySem.W.nsIn K mainGlobals "_law_cell" = some (some (.ref f4))) (l4 : K.lookup f4 = some ⟨oc4, od4, .func (PySem.W.fnOf "_law_cell" "_law_cell" (defArgs s_L_cell) (defBody s_L_cell) (defScope s_L_cell) .none kV4 dc4 pm4 an4 cd4 ct4), sl4⟩) (c4 : PySem.W.codeIn K cd4 "_law_cell" = true) (k4 : PySem.W.keepIn K (.ref f4) = true)
    {od5 an5 : Option Addr} {sl5 : Array (Option Value)} {oc5 kV5 dc5 pm5 cd5 ct5 : Value}
    (a5 : PySem.W.nsIn K mainGlobals "_law_mixed" = some (some (.ref f5))) (l5 : K.lookup f5 = some ⟨oc5, od5, .func (PySem.W.fnOf "_law_mixed" "_law_mixed" (defArgs s_L_mixed) (defBody s_L_mixed) (defScope s_L_mixed) .none kV5 dc5 pm5 an5 cd5 ct5), sl5⟩) (c5 : PySem.W.codeIn K cd5 "_law_mixed" = true) (k5 : PySem.W.keepIn K (.ref f5) = true)
    {od6 an6 : Option Addr} {sl6 : Array (Option Value)} {oc6 kV6 dc6 pm6 cd6 ct6 : Value}
    (a6 : PySem.W.nsIn K mainGlobals "_law_pool" = some (some (.ref f6))) (l6 : K.lookup f6 = some ⟨oc6, od6, .func (PySem.W.fnOf "_law_pool" "_law_pool" (defArgs s_L_pool) (defBody s_L_pool) (defScope s_L_pool) .none kV6 dc6 pm6 an6 cd6 ct6), sl6⟩) (c6 : PySem.W.codeIn K cd6 "_law_pool" = true) (k6 : PySem.W.keepIn K (.ref f6) = true)
    {od7 an7 : Option Addr} {sl7 : Array (Option Value)} {oc7 kV7 dc7 pm7 cd7 ct7 : Value}
    (a7 : PySem.W.nsIn K mainGlobals "_law_part" = some (some (.ref f7))) (l7 : K.lookup f7 = some ⟨oc7, od7, .func (PySem.W.fnOf "_law_part" "_law_part" (defArgs s_L_part) (defBody s_L_part) (defScope s_L_part) .none kV7 dc7 pm7 an7 cd7 ct7), sl7⟩) (c7 : PySem.W.codeIn K cd7 "_law_part" = true) (k7 : PySem.W.keepIn K (.ref f7) = true)
    {od8 an8 : Option Addr} {sl8 : Array (Option Value)} {oc8 kV8 dc8 pm8 cd8 ct8 : Value}
    (a8 : PySem.W.nsIn K mainGlobals "_law_far" = some (some (.ref f8))) (l8 : K.lookup f8 = some ⟨oc8, od8, .func (PySem.W.fnOf "_law_far" "_law_far" (defArgs s_L_far) (defBody s_L_far) (defScope s_L_far) .none kV8 dc8 pm8 an8 cd8 ct8), sl8⟩) (c8 : PySem.W.codeIn K cd8 "_law_far" = true) (k8 : PySem.W.keepIn K (.ref f8) = true)
    {od9 an9 : Option Addr} {sl9 : Array (Option Value)} {oc9 kV9 dc9 pm9 cd9 ct9 : Value}
    (a9 : PySem.W.nsIn K mainGlobals "_law_chosen" = some (some (.ref f9))) (l9 : K.lookup f9 = some ⟨oc9, od9, .func (PySem.W.fnOf "_law_chosen" "_law_chosen" (defArgs s_L_chosen) (defBody s_L_chosen) (defScope s_L_chosen) .none kV9 dc9 pm9 an9 cd9 ct9), sl9⟩) (c9 : PySem.W.codeIn K cd9 "_law_chosen" = true) (k9 : PySem.W.keepIn K (.ref f9) = true)
    {od10 an10 : Option Addr} {sl10 : Array (Option Value)} {oc10 kV10 dc10 pm10 cd10 ct10 : Value}
    (a10 : PySem.W.nsIn K mainGlobals "_law_goods" = some (some (.ref f10))) (l10 : K.lookup f10 = some ⟨oc10, od10, .func (PySem.W.fnOf "_law_goods" "_law_goods" (defArgs s_L_goods) (defBody s_L_goods) (defScope s_L_goods) .none kV10 dc10 pm10 an10 cd10 ct10), sl10⟩) (c10 : PySem.W.codeIn K cd10 "_law_goods" = true) (k10 : PySem.W.keepIn K (.ref f10) = true)
    {od11 an11 : Option Addr} {sl11 : Array (Option Value)} {oc11 kV11 dc11 pm11 cd11 ct11 : Value}
    (a11 : PySem.W.nsIn K mainGlobals "_law_beside" = some (some (.ref f11))) (l11 : K.lookup f11 = some ⟨oc11, od11, .func (PySem.W.fnOf "_law_beside" "_law_beside" (defArgs s_L_beside) (defBody s_L_beside) (defScope s_L_beside) .none kV11 dc11 pm11 an11 cd11 ct11), sl11⟩) (c11 : PySem.W.codeIn K cd11 "_law_beside" = true) (k11 : PySem.W.keepIn K (.ref f11) = true)
    {od12 an12 : Option Addr} {sl12 : Array (Option Value)} {oc12 kV12 dc12 pm12 cd12 ct12 : Value}
    (a12 : PySem.W.nsIn K mainGlobals "_law_few" = some (some (.ref f12))) (l12 : K.lookup f12 = some ⟨oc12, od12, .func (PySem.W.fnOf "_law_few" "_law_few" (defArgs s_L_few) (defBody s_L_few) (defScope s_L_few) .none kV12 dc12 pm12 an12 cd12 ct12), sl12⟩) (c12 : PySem.W.codeIn K cd12 "_law_few" = true) (k12 : PySem.W.keepIn K (.ref f12) = true)
    {od13 an13 : Option Addr} {sl13 : Array (Option Value)} {oc13 kV13 dc13 pm13 cd13 ct13 : Value}
    (a13 : PySem.W.nsIn K mainGlobals "_law_cap" = some (some (.ref f13))) (l13 : K.lookup f13 = some ⟨oc13, od13, .func (PySem.W.fnOf "_law_cap" "_law_cap" (defArgs s_L_cap) (defBody s_L_cap) (defScope s_L_cap) .none kV13 dc13 pm13 an13 cd13 ct13), sl13⟩) (c13 : PySem.W.codeIn K cd13 "_law_cap" = true) (k13 : PySem.W.keepIn K (.ref f13) = true)
    {od14 an14 : Option Addr} {sl14 : Array (Option Value)} {oc14 kV14 dc14 pm14 cd14 ct14 : Value}
    (a14 : PySem.W.nsIn K mainGlobals "_law_lowest" = some (some (.ref f14))) (l14 : K.lookup f14 = some ⟨oc14, od14, .func (PySem.W.fnOf "_law_lowest" "_law_lowest" (defArgs s_L_lowest) (defBody s_L_lowest) (defScope s_L_lowest) .none kV14 dc14 pm14 an14 cd14 ct14), sl14⟩) (c14 : PySem.W.codeIn K cd14 "_law_lowest" = true) (k14 : PySem.W.keepIn K (.ref f14) = true)
    {od15 an15 : Option Addr} {sl15 : Array (Option Value)} {oc15 kV15 dc15 pm15 cd15 ct15 : Value}
    (a15 : PySem.W.nsIn K mainGlobals "_law_lots" = some (some (.ref f15))) (l15 : K.lookup f15 = some ⟨oc15, od15, .func (PySem.W.fnOf "_law_lots" "_law_lots" (defArgs s_L_lots) (defBody s_L_lots) (defScope s_L_lots) .none kV15 dc15 pm15 an15 cd15 ct15), sl15⟩) (c15 : PySem.W.codeIn K cd15 "_law_lots" = true) (k15 : PySem.W.keepIn K (.ref f15) = true)
    {od16 an16 : Option Addr} {sl16 : Array (Option Value)} {oc16 kV16 dc16 pm16 cd16 ct16 : Value}
    (a16 : PySem.W.nsIn K mainGlobals "_law_greatest_mean" = some (some (.ref f16))) (l16 : K.lookup f16 = some ⟨oc16, od16, .func (PySem.W.fnOf "_law_greatest_mean" "_law_greatest_mean" (defArgs s_L_greatest_mean) (defBody s_L_greatest_mean) (defScope s_L_greatest_mean) .none kV16 dc16 pm16 an16 cd16 ct16), sl16⟩) (c16 : PySem.W.codeIn K cd16 "_law_greatest_mean" = true) (k16 : PySem.W.keepIn K (.ref f16) = true)
    {od17 an17 : Option Addr} {sl17 : Array (Option Value)} {oc17 kV17 dc17 pm17 cd17 ct17 : Value}
    (a17 : PySem.W.nsIn K mainGlobals "_law_picks" = some (some (.ref f17))) (l17 : K.lookup f17 = some ⟨oc17, od17, .func (PySem.W.fnOf "_law_picks" "_law_picks" (defArgs s_L_picks) (defBody s_L_picks) (defScope s_L_picks) .none kV17 dc17 pm17 an17 cd17 ct17), sl17⟩) (c17 : PySem.W.codeIn K cd17 "_law_picks" = true) (k17 : PySem.W.keepIn K (.ref f17) = true)
    {od18 an18 : Option Addr} {sl18 : Array (Option Value)} {oc18 kV18 dc18 pm18 cd18 ct18 : Value}
    (a18 : PySem.W.nsIn K mainGlobals "_law_excess" = some (some (.ref f18))) (l18 : K.lookup f18 = some ⟨oc18, od18, .func (PySem.W.fnOf "_law_excess" "_law_excess" (defArgs s_L_excess) (defBody s_L_excess) (defScope s_L_excess) .none kV18 dc18 pm18 an18 cd18 ct18), sl18⟩) (c18 : PySem.W.codeIn K cd18 "_law_excess" = true) (k18 : PySem.W.keepIn K (.ref f18) = true)
    {od19 an19 : Option Addr} {sl19 : Array (Option Value)} {oc19 kV19 dc19 pm19 cd19 ct19 : Value}
    (a19 : PySem.W.nsIn K mainGlobals "_law_integer" = some (some (.ref f19))) (l19 : K.lookup f19 = some ⟨oc19, od19, .func (PySem.W.fnOf "_law_integer" "_law_integer" (defArgs s_L_integer) (defBody s_L_integer) (defScope s_L_integer) .none kV19 dc19 pm19 an19 cd19 ct19), sl19⟩) (c19 : PySem.W.codeIn K cd19 "_law_integer" = true) (k19 : PySem.W.keepIn K (.ref f19) = true)
    {od20 an20 : Option Addr} {sl20 : Array (Option Value)} {oc20 kV20 dc20 pm20 cd20 ct20 : Value}
    (a20 : PySem.W.nsIn K mainGlobals "_law_same" = some (some (.ref f20))) (l20 : K.lookup f20 = some ⟨oc20, od20, .func (PySem.W.fnOf "_law_same" "_law_same" (defArgs s_L_same) (defBody s_L_same) (defScope s_L_same) .none kV20 dc20 pm20 an20 cd20 ct20), sl20⟩) (c20 : PySem.W.codeIn K cd20 "_law_same" = true) (k20 : PySem.W.keepIn K (.ref f20) = true)
    {od21 an21 : Option Addr} {sl21 : Array (Option Value)} {oc21 kV21 dc21 pm21 cd21 ct21 : Value}
    (a21 : PySem.W.nsIn K mainGlobals "law" = some (some (.ref f21))) (l21 : K.lookup f21 = some ⟨oc21, od21, .func (PySem.W.fnOf "law" "law" (defArgs s_law) (defBody s_law) (defScope s_law) .none kV21 dc21 pm21 an21 cd21 ct21), sl21⟩) (c21 : PySem.W.codeIn K cd21 "law" = true) (k21 : PySem.W.keepIn K (.ref f21) = true)
    (z_len : PySem.W.nsIn K mainGlobals "len" = some none)
    (z_tuple : PySem.W.nsIn K mainGlobals "tuple" = some none)
    (z_list : PySem.W.nsIn K mainGlobals "list" = some none)
    (z_range : PySem.W.nsIn K mainGlobals "range" = some none)
    (z_abs : PySem.W.nsIn K mainGlobals "abs" = some none)
    (z_int : PySem.W.nsIn K mainGlobals "int" = some none)
    (z_isinstance : PySem.W.nsIn K mainGlobals "isinstance" = some none)
    (z_bool : PySem.W.nsIn K mainGlobals "bool" = some none)
    (z_str : PySem.W.nsIn K mainGlobals "str" = some none)
    (z_sum : PySem.W.nsIn K mainGlobals "sum" = some none)
    (z_enumerate : PySem.W.nsIn K mainGlobals "enumerate" = some none)
    (z_sorted : PySem.W.nsIn K mainGlobals "sorted" = some none)
    (aC : PySem.W.nsIn K mainGlobals "Guests" = some (some (.ref C))) (aG : PySem.W.nsIn K mainGlobals "gcd" = some (some (.builtin "math.gcd")))
    (aI : PySem.W.findIn K (.ref C) "__init__" = some (some (.ref fI))) (iI : PySem.W.isFn K (.ref fI) = true) (lI : K.lookup fI = some ⟨ocI, odI, .func (PySem.W.fnOf "__init__" "Guests.__init__" (defArgs s_Guests_init) (defBody s_Guests_init) (defScope s_Guests_init) .none kVI dcI pmI anI cdI ctI), slI⟩) (cI : PySem.W.codeIn K cdI "Guests.__init__" = true) (kI : PySem.W.keepIn K (.ref fI) = true)
    (aM : PySem.W.findIn K (.ref C) "mean" = some (some (.ref fM))) (iM : PySem.W.isFn K (.ref fM) = true) (lM : K.lookup fM = some ⟨ocM, odM, .func (PySem.W.fnOf "mean" "Guests.mean" (defArgs s_Guests_mean) (defBody s_Guests_mean) (defScope s_Guests_mean) .none kVM dcM pmM anM cdM ctM), slM⟩) (cM : PySem.W.codeIn K cdM "Guests.mean" = true) (kM : PySem.W.keepIn K (.ref fM) = true)
    (aW : PySem.W.findIn K (.ref C) "_picked" = some (some (.ref fW))) (iW : PySem.W.isFn K (.ref fW) = true) (lW : K.lookup fW = some ⟨ocW, odW, .func (PySem.W.fnOf "_picked" "Guests._picked" (defArgs s_Guests_picked) (defBody s_Guests_picked) (defScope s_Guests_picked) .none kVW dcW pmW anW cdW ctW), slW⟩) (cW : PySem.W.codeIn K cdW "Guests._picked" = true) (kW : PySem.W.keepIn K (.ref fW) = true)
    (aZ : PySem.W.findIn K (.ref C) "_climbed" = some (some (.ref fZ))) (iZ : PySem.W.isFn K (.ref fZ) = true) (lZ : K.lookup fZ = some ⟨ocZ, odZ, .func (PySem.W.fnOf "_climbed" "Guests._climbed" (defArgs s_Guests_climbed) (defBody s_Guests_climbed) (defScope s_Guests_climbed) .none kVZ dcZ pmZ anZ cdZ ctZ), slZ⟩) (cZ : PySem.W.codeIn K cdZ "Guests._climbed" = true) (kZ : PySem.W.keepIn K (.ref fZ) = true)
    (aB : PySem.W.findIn K (.ref C) "best" = some (some (.ref fB))) (iB : PySem.W.isFn K (.ref fB) = true) (lB : K.lookup fB = some ⟨ocB, odB, .func (PySem.W.fnOf "best" "Guests.best" (defArgs s_Guests_best) (defBody s_Guests_best) (defScope s_Guests_best) .none (.ref DLB) dcB pmB anB cdB ctB), slB⟩) (cB : PySem.W.codeIn K cdB "Guests.best" = true) (kB : PySem.W.keepIn K (.ref fB) = true)
    (nMo : PySem.W.nsIn K DLB "most" = some (some Value.none))
    (pg : PySem.W.plainGet K C Str.empty = true) (hd : PySem.W.hasDictIn K C = true) (po : PySem.W.plainOver K C = true) (sa : PySem.W.findIn K (.ref C) "__setattr__" = some (some (.builtin "object.__setattr__"))) (mk : PySem.W.makesIn K C = true) (kc : PySem.W.keepIn K (.ref C) = true)
    (nA : PySem.W.findIn K (.ref C) "offers" = some none) (nB : PySem.W.findIn K (.ref C) "aside" = some none) :
    ∃ fd : FuncData, (∀ (s : Shared) (v : Value), BindsTo s fd ⟨[v], []⟩ [("_law_script", v)]) ∧ ∀ base : Heap, K.In base → base.Ns mainGlobals mg → FnOk l.prog w K mg base CX0 6 fa fd ["_law_script"] (spLaw K) := by
  have e := hfa.symm.trans (PySem.W.mg_of X G a21)
  cases e
  have m_len := PySem.W.mg_none_of X G z_len
  have m_tuple := PySem.W.mg_none_of X G z_tuple
  have m_list := PySem.W.mg_none_of X G z_list
  have m_range := PySem.W.mg_none_of X G z_range
  have m_abs := PySem.W.mg_none_of X G z_abs
  have m_int := PySem.W.mg_none_of X G z_int
  have m_isinstance := PySem.W.mg_none_of X G z_isinstance
  have m_bool := PySem.W.mg_none_of X G z_bool
  have m_str := PySem.W.mg_none_of X G z_str
  have m_sum := PySem.W.mg_none_of X G z_sum
  have m_enumerate := PySem.W.mg_none_of X G z_enumerate
  have m_sorted := PySem.W.mg_none_of X G z_sorted
  have F0 := fun_mk (st := s_wall) l0 c0 k0
  have b0 := F0.binds (ps := ["k"]) fun _ _ _ _ _ _ us hl => match us, hl with | [_], _ => rfl
  have g0 := PySem.W.mg_of X G a0
  have F1 := fun_mk (st := s_check_size) l1 c1 k1
  have b1 := F1.binds (ps := ["size", "low", "high"]) fun _ _ _ _ _ _ us hl => match us, hl with | [_, _, _], _ => rfl
  have g1 := PySem.W.mg_of X G a1
  have F2 := fun_mk (st := s_check_range) l2 c2 k2
  have b2 := F2.binds (ps := ["number", "low", "high"]) fun _ _ _ _ _ _ us hl => match us, hl with | [_, _, _], _ => rfl
  have g2 := PySem.W.mg_of X G a2
  have F3 := fun_mk (st := s_check_offers) l3 c3 k3
  have b3 := F3.binds (ps := ["offers"]) fun _ _ _ _ _ _ us hl => match us, hl with | [_], _ => rfl
  have g3 := PySem.W.mg_of X G a3
  have F4 := fun_mk (st := s_L_cell) l4 c4 k4
  have b4 := F4.binds (ps := ["_law_script", "_law_k"]) fun _ _ _ _ _ _ us hl => match us, hl with | [_, _], _ => rfl
  have g4 := PySem.W.mg_of X G a4
  have F5 := fun_mk (st := s_L_mixed) l5 c5 k5
  have b5 := F5.binds (ps := ["_law_cell_here", "_law_k"]) fun _ _ _ _ _ _ us hl => match us, hl with | [_, _], _ => rfl
  have g5 := PySem.W.mg_of X G a5
  have F6 := fun_mk (st := s_L_pool) l6 c6 k6
  have b6 := F6.binds (ps := ["_law_cell_here", "_law_number"]) fun _ _ _ _ _ _ us hl => match us, hl with | [_, _], _ => rfl
  have g6 := PySem.W.mg_of X G a6
  have F7 := fun_mk (st := s_L_part) l7 c7 k7
  have b7 := F7.binds (ps := ["_law_pool_here", "_law_spot", "_law_under", "_law_size"]) fun _ _ _ _ _ _ us hl => match us, hl with | [_, _, _, _], _ => rfl
  have g7 := PySem.W.mg_of X G a7
  have F8 := fun_mk (st := s_L_far) l8 c8 k8
  have b8 := F8.binds (ps := ["_law_pool_here", "_law_spot", "_law_number"]) fun _ _ _ _ _ _ us hl => match us, hl with | [_, _, _], _ => rfl
  have g8 := PySem.W.mg_of X G a8
  have F9 := fun_mk (st := s_L_chosen) l9 c9 k9
  have b9 := F9.binds (ps := ["_law_pool_here", "_law_spot", "_law_under", "_law_small", "_law_crest", "_law_whole"]) fun _ _ _ _ _ _ us hl => match us, hl with | [_, _, _, _, _, _], _ => rfl
  have g9 := PySem.W.mg_of X G a9
  have F10 := fun_mk (st := s_L_goods) l10 c10 k10
  have b10 := F10.binds (ps := ["_law_pool_here", "_law_spot", "_law_number", "_law_calm"]) fun _ _ _ _ _ _ us hl => match us, hl with | [_, _, _, _], _ => rfl
  have g10 := PySem.W.mg_of X G a10
  have F11 := fun_mk (st := s_L_beside) l11 c11 k11
  have b11 := F11.binds (ps := ["_law_pool_here", "_law_spot"]) fun _ _ _ _ _ _ us hl => match us, hl with | [_, _], _ => rfl
  have g11 := PySem.W.mg_of X G a11
  have F12 := fun_mk (st := s_L_few) l12 c12 k12
  have b12 := F12.binds (ps := ["_law_pool_here", "_law_spot"]) fun _ _ _ _ _ _ us hl => match us, hl with | [_, _], _ => rfl
  have g12 := PySem.W.mg_of X G a12
  have F13 := fun_mk (st := s_L_cap) l13 c13 k13
  have b13 := F13.binds (ps := ["_law_pool_here", "_law_spot"]) fun _ _ _ _ _ _ us hl => match us, hl with | [_, _], _ => rfl
  have g13 := PySem.W.mg_of X G a13
  have F14 := fun_mk (st := s_L_lowest) l14 c14 k14
  have b14 := F14.binds (ps := ["_law_above", "_law_below"]) fun _ _ _ _ _ _ us hl => match us, hl with | [_, _], _ => rfl
  have g14 := PySem.W.mg_of X G a14
  have F15 := fun_mk (st := s_L_lots) l15 c15 k15
  have b15 := F15.binds (ps := ["_law_number"]) fun _ _ _ _ _ _ us hl => match us, hl with | [_], _ => rfl
  have g15 := PySem.W.mg_of X G a15
  have F16 := fun_mk (st := s_L_greatest_mean) l16 c16 k16
  have b16 := F16.binds (ps := ["_law_goods_here", "_law_beside_here", "_law_cap_here"]) fun _ _ _ _ _ _ us hl => match us, hl with | [_, _, _], _ => rfl
  have g16 := PySem.W.mg_of X G a16
  have F17 := fun_mk (st := s_L_picks) l17 c17 k17
  have b17 := F17.binds (ps := ["_law_goods_here", "_law_rate", "_law_cap_here"]) fun _ _ _ _ _ _ us hl => match us, hl with | [_, _, _], _ => rfl
  have g17 := PySem.W.mg_of X G a17
  have F18 := fun_mk (st := s_L_excess) l18 c18 k18
  have b18 := F18.binds (ps := ["_law_goods_here", "_law_rate", "_law_lot"]) fun _ _ _ _ _ _ us hl => match us, hl with | [_, _, _], _ => rfl
  have g18 := PySem.W.mg_of X G a18
  have F19 := fun_mk (st := s_L_integer) l19 c19 k19
  have b19 := F19.binds (ps := ["_law_got"]) fun _ _ _ _ _ _ us hl => match us, hl with | [_], _ => rfl
  have g19 := PySem.W.mg_of X G a19
  have F20 := fun_mk (st := s_L_same) l20 c20 k20
  have b20 := F20.binds (ps := ["_law_got", "_law_wanted"]) fun _ _ _ _ _ _ us hl => match us, hl with | [_, _], _ => rfl
  have g20 := PySem.W.mg_of X G a20
  have F21 := fun_mk (st := s_law) l21 c21 k21
  have b21 := F21.binds (ps := ["_law_script"]) fun _ _ _ _ _ _ us hl => match us, hl with | [_], _ => rfl
  have g21 := PySem.W.mg_of X G a21
  refine ⟨PySem.W.fnOf "law" "law" (defArgs s_law) (defBody s_law) (defScope s_law) .none kV21 dc21 pm21 an21 cd21 ct21, fun s v => .of_eq rfl, fun base _ _ => ?_⟩
  have TL : TxtG K C := ⟨⟨pg, hd, po, sa⟩, nA, nB⟩
  have FI := fun_mk (st := s_Guests_init) lI cI kI
  have bI := FI.binds (ps := ["self", "offers", "aside"]) fun _ _ _ _ _ _ us hl => match us, hl with | [_, _, _], _ => rfl
  have M : Mk K C fI := ⟨mk, aI, iI, kc⟩
  have FM := fun_mk (st := s_Guests_mean) lM cM kM
  have bM := FM.binds (ps := ["self", "lot"]) fun _ _ _ _ _ _ us hl => match us, hl with | [_, _], _ => rfl
  have FW := fun_mk (st := s_Guests_picked) lW cW kW
  have bW := FW.binds (ps := ["self", "rate", "most"]) fun _ _ _ _ _ _ us hl => match us, hl with | [_, _, _], _ => rfl
  have FZ := fun_mk (st := s_Guests_climbed) lZ cZ kZ
  have bZ := FZ.binds (ps := ["self", "most"]) fun _ _ _ _ _ _ us hl => match us, hl with | [_, _], _ => rfl
  have FB : FunD K "best" "Guests.best" (defArgs s_Guests_best) (defBody s_Guests_best) (defScope s_Guests_best) [] [("most", V.non)] fB _ := ⟨⟨ocB, odB, .none, .ref DLB, dcB, pmB, anB, cdB, ctB, slB, rfl, lB, cB, .inl ⟨rfl, rfl⟩, .inr ⟨DLB, rfl, fun q hq => by
    rw [List.mem_singleton.mp hq]
    exact ⟨_, nMo, rfl⟩⟩⟩, kB⟩
  obtain ⟨⟨_, kb_best⟩, ds, v_best, b_best⟩ := best_kb FB
  have Me : Meth K C "mean" fM := ⟨aM, iM, kM⟩
  have MeW : Meth K C "_picked" fW := ⟨aW, iW, kW⟩
  have MeZ : Meth K C "_climbed" fZ := ⟨aZ, iZ, kZ⟩
  have MeB : Meth K C "best" fB := ⟨aB, iB, kB⟩

  have d_check_size : Def l.prog w K mg base "check_size" 1 ["size", "low", "high"] (spRange) := ⟨_, _, ok_check_size F1 , g1, k1, b1⟩
  have d_check_range : Def l.prog w K mg base "check_range" 1 ["number", "low", "high"] (spRange) := ⟨_, _, ok_check_range F2 , g2, k2, b2⟩
  have d_check_offers : Def l.prog w K mg base "_check_offers" 2 ["offers"] (spOffers K) := ⟨_, _, ok_check_offersL F3 m_len d_check_size d_check_range, g3, k3, b3⟩
  have G_Guests := ok_Guests (P := l.prog) (w := w) (mg := mg) (base := base) FI TL m_tuple d_check_offers d_check_range
  have G_mean := ok_Guests_mean (P := l.prog) (w := w) (mg := mg) (base := base) FM TL m_list m_len m_range m_sum (PySem.W.mg_of X G aG)
  have G_picked := ok_Guests_picked (P := l.prog) (w := w) (mg := mg) (base := base) FW TL m_enumerate m_sorted m_tuple
  have G_climbed := ok_Guests_climbed (P := l.prog) (w := w) (mg := mg) (base := base) FZ TL MeW G_picked bW Me G_mean bM
  have G_best := ok_Guests_best (P := l.prog) (w := w) (mg := mg) (base := base) FB TL MeZ G_climbed bZ
  have d_L_cell : Def l.prog w K mg base "_law_cell" 1 ["_law_script", "_law_k"] (spCellA K) := ⟨_, _, ok_L_cell F4 m_len m_range m_abs, g4, k4, b4⟩
  have d_L_mixed : Def l.prog w K mg base "_law_mixed" 1 ["_law_cell_here", "_law_k"] (spMixed) := ⟨_, _, ok_L_mixed F5 m_abs, g5, k5, b5⟩
  have d_L_pool : Def l.prog w K mg base "_law_pool" 2 ["_law_cell_here", "_law_number"] (spPool) := ⟨_, _, ok_L_pool F6 m_range m_abs d_L_mixed, g6, k6, b6⟩
  have d_L_part : Def l.prog w K mg base "_law_part" 1 ["_law_pool_here", "_law_spot", "_law_under", "_law_size"] (spPart K) := ⟨_, _, ok_L_part F7 m_int, g7, k7, b7⟩
  have d_L_far : Def l.prog w K mg base "_law_far" 1 ["_law_pool_here", "_law_spot", "_law_number"] (spFar K) := ⟨_, _, ok_L_far F8 m_range m_int, g8, k8, b8⟩
  have d_L_chosen : Def l.prog w K mg base "_law_chosen" 2 ["_law_pool_here", "_law_spot", "_law_under", "_law_small", "_law_crest", "_law_whole"] (spChosen K) := ⟨_, _, ok_L_chosen F9 m_int d_L_part, g9, k9, b9⟩
  have d_L_goods : Def l.prog w K mg base "_law_goods" 3 ["_law_pool_here", "_law_spot", "_law_number", "_law_calm"] (spGoods K) := ⟨_, _, ok_L_goods F10 m_range m_int d_L_part d_L_far d_L_chosen, g10, k10, b10⟩
  have d_L_beside : Def l.prog w K mg base "_law_beside" 3 ["_law_pool_here", "_law_spot"] (spBeside K) := ⟨_, _, ok_L_beside F11 d_L_far d_L_chosen, g11, k11, b11⟩
  have d_L_few : Def l.prog w K mg base "_law_few" 2 ["_law_pool_here", "_law_spot"] (spFew K) := ⟨_, _, ok_L_few F12 d_L_part, g12, k12, b12⟩
  have d_L_cap : Def l.prog w K mg base "_law_cap" 2 ["_law_pool_here", "_law_spot"] (spCap K) := ⟨_, _, ok_L_cap F13 d_L_part d_L_far, g13, k13, b13⟩
  have d_L_lowest : Def l.prog w K mg base "_law_lowest" 1 ["_law_above", "_law_below"] (spLowest) := ⟨_, _, ok_L_lowest F14 m_range m_abs, g14, k14, b14⟩
  have d_L_lots : Def l.prog w K mg base "_law_lots" 1 ["_law_number"] (spLots) := ⟨_, _, ok_L_lots F15 m_range, g15, k15, b15⟩
  have d_L_greatest_mean : Def l.prog w K mg base "_law_greatest_mean" 2 ["_law_goods_here", "_law_beside_here", "_law_cap_here"] (spGm K) := ⟨_, _, ok_L_greatest_mean F16 m_sum m_len d_L_lots d_L_lowest, g16, k16, b16⟩
  have d_L_picks : Def l.prog w K mg base "_law_picks" 1 ["_law_goods_here", "_law_rate", "_law_cap_here"] (spPicks K) := ⟨_, _, ok_L_picks F17 m_len m_range m_tuple, g17, k17, b17⟩
  have d_L_excess : Def l.prog w K mg base "_law_excess" 1 ["_law_goods_here", "_law_rate", "_law_lot"] (spExc K) := ⟨_, _, ok_L_excess F18 m_sum, g18, k18, b18⟩
  have d_L_integer : Def l.prog w K mg base "_law_integer" 1 ["_law_got"] (spInteger) := ⟨_, _, ok_L_integer F19 m_isinstance m_int m_bool, g19, k19, b19⟩
  have d_L_same : Def l.prog w K mg base "_law_same" 5 ["_law_got", "_law_wanted"] (spSame 3) := ⟨_, _, ok_L_same F20 g20 b20 ⟨m_isinstance, m_int, m_bool, m_str, m_tuple, m_list, m_len, m_range⟩ d_L_integer 3 (by decide), g20, k20, b20⟩
  exact ok_law F21 TL m_list m_len M G_Guests (PySem.W.mg_of X G aC) bI Me G_mean bM MeB G_best v_best b_best kb_best d_L_cell d_L_pool d_L_part d_L_goods d_L_beside d_L_few d_L_cap d_L_lots d_L_greatest_mean d_L_picks d_L_excess d_L_same
end TK

open PySem PySem.W PyProof.Rows
set_option maxRecDepth 100000 in
set_option maxHeartbeats 0 in
theorem PySem.Challenge.cw_turnsandkeys_k33_whole_best_lot_holds : PySem.Challenge.rw_turnsandkeys_k33_whole_best_lot.Holds := by
  w_on; o_law; k_head; (case hw => w_witness2)
  k_fill
  refine L2.walk_of (l := PySem.Challenge.rw_turnsandkeys_k33_whole_best_lot) (n := 63) (k := 6) (x := "_law_script") (CX := fun _ => L2.CX0) (sp := fun w => TK.spLaw _) rfl (by decide) rfl ⟨rfl, by decide, by decide⟩ (fun w h Y => PySem.W.kIn_of Y) ?F (fun _ _ a ns hl _ hS => ⟨a, ns, rfl, hS, hl, fun _ => rfl⟩) (fun _ _ _ _ _ h => h)
  case F =>
    intro w mg fa h KX G hmg
    refine' TK.all_mk KX G hmg ?a0 ?l0 ?c0 ?k0 ?a1 ?l1 ?c1 ?k1 ?a2 ?l2 ?c2 ?k2 ?a3 ?l3 ?c3 ?k3 ?a4 ?l4 ?c4 ?k4 ?a5 ?l5 ?c5 ?k5 ?a6 ?l6 ?c6 ?k6 ?a7 ?l7 ?c7 ?k7 ?a8 ?l8 ?c8 ?k8 ?a9 ?l9 ?c9 ?k9 ?a10 ?l10 ?c10 ?k10 ?a11 ?l11 ?c11 ?k11 ?a12 ?l12 ?c12 ?k12 ?a13 ?l13 ?c13 ?k13 ?a14 ?l14 ?c14 ?k14 ?a15 ?l15 ?c15 ?k15 ?a16 ?l16 ?c16 ?k16 ?a17 ?l17 ?c17 ?k17 ?a18 ?l18 ?c18 ?k18 ?a19 ?l19 ?c19 ?k19 ?a20 ?l20 ?c20 ?k20 ?a21 ?l21 ?c21 ?k21 ?z_len ?z_tuple ?z_list ?z_range ?z_abs ?z_int ?z_isinstance ?z_bool ?z_str ?z_sum ?z_enumerate ?z_sorted ?aC ?aG ?aI ?iI ?lI ?cI ?kI ?aM ?iM ?lM ?cM ?kM ?aW ?iW ?lW ?cW ?kW ?aZ ?iZ ?lZ ?cZ ?kZ ?aB ?iB ?lB ?cB ?kB ?nMo ?pg ?hd ?po ?sa ?mk ?kc ?nA ?nB
    (case a0 => k_is); (case l0 => k_is); (case c0 => k_is); (case k0 => k_is); (case a1 => k_is); (case l1 => k_is); (case c1 => k_is); (case k1 => k_is); (case a2 => k_is); (case l2 => k_is); (case c2 => k_is); (case k2 => k_is); (case a3 => k_is); (case l3 => k_is); (case c3 => k_is); (case k3 => k_is); (case a4 => k_is); (case l4 => k_is); (case c4 => k_is); (case k4 => k_is); (case a5 => k_is); (case l5 => k_is); (case c5 => k_is); (case k5 => k_is); (case a6 => k_is); (case l6 => k_is); (case c6 => k_is); (case k6 => k_is); (case a7 => k_is); (case l7 => k_is); (case c7 => k_is); (case k7 => k_is); (case a8 => k_is); (case l8 => k_is); (case c8 => k_is); (case k8 => k_is); (case a9 => k_is); (case l9 => k_is); (case c9 => k_is); (case k9 => k_is); (case a10 => k_is); (case l10 => k_is); (case c10 => k_is); (case k10 => k_is); (case a11 => k_is); (case l11 => k_is); (case c11 => k_is); (case k11 => k_is); (case a12 => k_is); (case l12 => k_is); (case c12 => k_is); (case k12 => k_is); (case a13 => k_is); (case l13 => k_is); (case c13 => k_is); (case k13 => k_is); (case a14 => k_is); (case l14 => k_is); (case c14 => k_is); (case k14 => k_is); (case a15 => k_is); (case l15 => k_is); (case c15 => k_is); (case k15 => k_is); (case a16 => k_is); (case l16 => k_is); (case c16 => k_is); (case k16 => k_is); (case a17 => k_is); (case l17 => k_is); (case c17 => k_is); (case k17 => k_is); (case a18 => k_is); (case l18 => k_is); (case c18 => k_is); (case k18 => k_is); (case a19 => k_is); (case l19 => k_is); (case c19 => k_is); (case k19 => k_is); (case a20 => k_is); (case l20 => k_is); (case c20 => k_is); (case k20 => k_is); (case a21 => k_is); (case l21 => k_is); (case c21 => k_is); (case k21 => k_is); (case z_len => k_is); (case z_tuple => k_is); (case z_list => k_is); (case z_range => k_is); (case z_abs => k_is); (case z_int => k_is); (case z_isinstance => k_is); (case z_bool => k_is); (case z_str => k_is); (case z_sum => k_is); (case z_enumerate => k_is); (case z_sorted => k_is); (case aC => k_is); (case aG => k_is); (case aI => k_is); (case iI => k_is); (case lI => k_is); (case cI => k_is); (case kI => k_is); (case aM => k_is); (case iM => k_is); (case lM => k_is); (case cM => k_is); (case kM => k_is); (case aW => k_is); (case iW => k_is); (case lW => k_is); (case cW => k_is); (case kW => k_is); (case aZ => k_is); (case iZ => k_is); (case lZ => k_is); (case cZ => k_is); (case kZ => k_is); (case aB => k_is); (case iB => k_is); (case lB => k_is); (case cB => k_is); (case kB => k_is); (case nMo => k_is); (case pg => k_is); (case hd => k_is); (case po => k_is); (case sa => k_is); (case mk => k_is); (case kc => k_is); (case nA => k_is); (case nB => k_is)
