import PyProof.Rows.All
import Wide.All
import OpenK.AllK
import Wide.FinOn
import HandS.ForMost
import HandS.Style
import HandS.IsInst
import HandS.Defaults
import HandS.MakeKwOnly
import HandS.SortKw
import HandS.Walk
import KE.KSortKeySt
import KE.GoesEnum
import KE.DatumOrd
import KE.KRevSl
import HandS.Star
import KE.KTupSum
import KE.GoesMore
import KE.GoesZip
import HandS.DictComp
import HandS.RevRange
import HandS.Strs
import HandS.OwnEq
import HandS.SlotsOwn
import HandS.IterVal
import KE.KOwnIter
import KE.KOpsOwn
import KE.KEqDict
import HandS.OwnIter
import HandS.ExcInit
import HandS.ExcSuper
import HandS.Nested
import KE.KSuper
import KE.KSuperObj
import KE.KExcSuper
import HandS.ExcField
import HandS.ExcOwn
import HandS.ExcIs
import KE.KTryMore
import HandS.ClsMeth
import HandS.Zip
import HandS.Wide
import HandS.Gcd
import HandS.Conv
import PySem.Challenge.RW_turnsandkeys_k45_turn_lets
set_option Elab.async false
set_option linter.all false
set_option maxRecDepth 100000
set_option maxHeartbeats 8000000
namespace TK
open PySem PySem.Spec PyProof.Rows L2
/-! ### a def that keeps its promise, as callers see it -/
structure Def (P : Program) (w : World) (K : PySem.W.Frag) (mg : Str → Option Value) (base : Heap) (x : Str) (k : Nat) (ps : List Str) (sp : Sp) : Prop where
  ex : ∃ (f : Addr) (fd : FuncData), FnOk P w K mg base CX0 k f fd ps sp ∧ mg x = some (.ref f) ∧ PySem.W.keepIn K (.ref f) = true ∧ Binds K fd ps []
section
variable {X : Cx} {x : Str} {k : Nat} {ps : List Str} {sp : Sp} {e : Expr} {es : List Expr} {t : TA} {p pos : Pos}
theorem pe_callD (D : Def X.prog X.w X.K X.mg X.base x k ps sp) (hr : Room k X.A) (hg : Gl X x) (ha : PA X (e :: es) t) (hdb : (x == ("__debug__" : Str)) = false := by decide)
    (he : starEach (e :: es) X.env = (false, eval e X.env) :: starEach es X.env := by rfl) (hpl : (backTo pos (starEach es X.env)).any (·.1) = false := by rfl) :
    PE X (.Call (.Name x p) (e :: es) [] pos) (tCall sp [] E0 t) := by
  obtain ⟨f, fd, F, g, kp, b⟩ := D.ex
  exact pe_call F hr hg g kp b .nil pass0 ha hdb he hpl
end
section
variable {X : Cx}
/-- x is True, x is False: x of any kind -/
def rIsT : R2 := fun x y H Q => ∃ b : Bool, y = .bl b ∧ Q (.bl (decide (x = .bl b))) H
theorem op_isT : OpR X (compareOp .Is) rIsT := by
  intro pins s σ H x y v u Q I rx ry h
  obtain ⟨b, rfl, q⟩ := h
  cases (show u = Value.bool b from ry)
  cases x with
  | bl a =>
    cases (show v = Value.bool a from rx)
    by_cases e : a = b
    · subst e
      exact wpAny_is_self rfl ⟨.bl true, H, I, rfl, by simpa using q⟩
    · exact wpAny_is_other rfl (fun z => e (Value.bool.inj z)) ⟨.bl false, H, I, rfl, by simpa [e] using q⟩
  | non => cases (show v = Value.none from rx); exact wpAny_is_other rfl (fun z => nomatch z) ⟨.bl false, H, I, rfl, by simpa using q⟩
  | int i => obtain ⟨t, rfl⟩ := (show ∃ t, v = Value.int i t from rx); exact wpAny_is_other rfl (fun z => nomatch z) ⟨.bl false, H, I, rfl, by simpa using q⟩
  | str i => obtain ⟨t, rfl⟩ := (show ∃ t, v = Value.str i t from rx); exact wpAny_is_other rfl (fun z => nomatch z) ⟨.bl false, H, I, rfl, by simpa using q⟩
  | byt i => obtain ⟨t, rfl⟩ := (show ∃ t, v = Value.bytes i t from rx); exact wpAny_is_other rfl (fun z => nomatch z) ⟨.bl false, H, I, rfl, by simpa using q⟩
  | flt i => obtain ⟨t, rfl⟩ := (show ∃ t, v = Value.float i t from rx); exact wpAny_is_other rfl (fun z => nomatch z) ⟨.bl false, H, I, rfl, by simpa using q⟩
  | ref a => cases (show v = Value.ref a from rx); exact wpAny_is_other rfl (fun z => nomatch z) ⟨.bl false, H, I, rfl, by simpa using q⟩
  | ty n => cases (show v = Value.type n from rx); exact wpAny_is_other rfl (fun z => nomatch z) ⟨.bl false, H, I, rfl, by simpa using q⟩
end
/-! ### rules within a comprehension: K by name -/
section
variable {X : Cx} {K : PySem.W.Frag}
theorem ix_listK (h : X.K = K) : IxR X (rIxL K) := h ▸ ix_list
theorem ix_tupK (h : X.K = K) : IxR X (rIxT K) := h ▸ ix_tup
theorem pg_tupK (h : X.K = K) {elts : List Expr} {kk : Nat} {pos : Pos} {n : Nat} {t : TGs} (hc : X.calm = true) (hp : PGs X elts t) (hn : (assignEach elts X.env).length = n := by rfl) (hst : (assignEach elts X.env).findIdx? (·.1) = none := by rfl) : PG X (.Tuple elts kk pos) (gTup K n t) := h ▸ pg_tup hc hp hn hst
theorem op_in_seqK (h : X.K = K) : OpR X (compareOp .In) (rIn K false) := h ▸ op_in_seq
theorem op_notIn_seqK (h : X.K = K) : OpR X (compareOp .NotIn) (rIn K true) := h ▸ op_notIn_seq
theorem call_len_seqK (h : X.K = K) : CallR X (.builtin "len") (fun xs H Q => ∃ p ys, xs = [.ref p] ∧ (SqL K H p ys ∨ SqT K H p ys) ∧ Q (.int ys.length) H) := h ▸ call_len_seq
end
/-! ### heaps -/
theorem same_upd {H : Hp} {p : Addr} {o : HO} (h : H p = none) : Same H (upd H p o) := fun b x e => by
  rw [upd_ne (ne_of_none e h)]
  exact e
theorem same_at {H H' : Hp} {p : Addr} {o : HO} (s : Same H H') (h : H p = none) : Same H (upd H' p o) := fun b x e => by
  rw [upd_ne (ne_of_none e h)]
  exact s b x e
theorem same_tup {K : PySem.W.Frag} {H H' : Hp} {a : Addr} {xs : List V} (e : Same H H') (h : SqT K H a xs) : SqT K H' a xs := by
  rcases h with (h | ⟨o, h⟩) | h
  · exact .inl (.inl (e _ _ h))
  · exact .inl (.inr ⟨o, e _ _ h⟩)
  · exact .inr h
theorem lstAt {K : PySem.W.Frag} {H : Hp} {a : Addr} {xs : List V} (h : H a = some (.lst xs)) : SqL K H a xs := .inl (.inl h)
theorem tupAt {K : PySem.W.Frag} {H : Hp} {a : Addr} {xs : List V} (h : H a = some (.tup xs)) : SqT K H a xs := .inl (.inl h)
theorem atI_in {α : Type} {xs : List α} {i : Int} {v : α} (h0 : 0 ≤ i) (h : xs[i.toNat]? = some v) : atI xs i = some v := by
  obtain ⟨n, rfl⟩ : ∃ n : Nat, i = (n : Int) := ⟨i.toNat, by omega⟩
  exact atI_nat h
theorem yesT {σ : L2.St} {H : Hp} {A B : Hp → Prop} (h : A H) : tYes σ H (fun b H3 => if b = true then A H3 else B H3) := by
  show if true = true then A H else B H
  rw [if_pos rfl]
  exact h
end TK

namespace TK
open PySem PySem.Spec PyProof.Rows L2
section
variable {X : Cx} {pins : List (Addr × Obj)} {σ : L2.St} {H : Hp} {s : Shared}
/-- an untracked object of ours comes to be tracked -/
theorem adopt {a : Addr} {o : HO} (I : Inv X pins σ H s) (f : FpOk X pins H a) (new : ObjOk X.prog X.w (upd H a o) s.heap a o) : Inv X pins σ (upd H a o) s := by
  obtain ⟨q0, q1, q2, q3, q4, q5⟩ := f
  have ne : ∀ b u, H b = some u → b ≠ a := fun b u e z => by rw [z, q0] at e; cases e
  refine I.step (h' := s.heap) (g' := s.gens) (t' := s.toks) (d' := s.drawn) (ch := [a]) (fun b hb => ?_) (fun b o _ _ _ e _ => e) (fun b o _ _ _ e _ => ⟨o.slots, e⟩) (fun b o hb _ n => ?_) (fun b o _ e => ⟨o, e⟩) (fun b xs e => ?_) (fun b o u e => ?_) (fun b ps e => ⟨#[], ?_⟩) (fun m hm => hm) (fun b u e => ?_) I.bare
  · have e : b = a := by simpa using hb
    subst e
    exact ⟨q3, q1, q4, q5⟩
  · rw [upd_ne (fun z => hb (by simp [z]))]; exact n
  · rw [upd_ne (ne b _ e)]; exact e
  · rw [upd_ne (ne b _ e)]; exact e
  · rw [upd_ne (ne b _ e), e]; simp
  · by_cases hb : b = a
    · subst hb
      rw [upd_same] at e
      cases e
      exact new
    · rw [upd_ne hb] at e
      exact (I.hok b u e).stay (fun c v _ q => q) (fun c q => by rw [upd_ne (ne c _ q)]; exact q) fun c xs q => by rw [upd_ne (ne c _ q)]; exact q
/-- a def called from within a built-in's method -/
theorem run_fn2 {k : Nat} {f : Addr} {fd : FuncData} {ps : List Str} {sp : Sp} {Q : VK} {us : List Value} {itm : List V} {E' : Value → Shared → Prop} (F : FnOk X.prog X.w X.K X.mg X.base CX0 k f fd ps sp) (hr : Room (k + 2) X.A) (hb : Binds X.K fd ps [])
    (I : Inv X pins σ H s) (r : Vals itm us) (h : sp itm H Q E0) : wpAny (model X.prog X.w) X.A.in1.in1 (call (.ref f) us) (EP X pins σ Q) E' s := by
  have hl : (us ++ []).length = ps.length := by rw [List.append_nil, ← r.length]; exact F.len _ _ _ _ h
  have hbb := hb s us I.kIn hl
  rw [List.append_nil] at hbb
  refine wpAny_call (codeAny_mono (F.run X.A.in1.in1 X.stack s H ⟨us, []⟩ us itm Q E0 hr.in1.in1 I.env0.in1.in1 hbb r h) fun r s' hq => ?_)
  cases r with
  | error e => exact False.elim hq
  | ok fl =>
    cases fl with
    | ret u => exact I.after hq
    | next => exact False.elim hq
    | brk => exact False.elim hq
    | cont => exact False.elim hq
end
section
variable {X : Cx} {pins : List (Addr × Obj)} {σ : L2.St} {H : Hp} {s : Shared} {A : Around} {E : Value → Shared → Prop} {a kS : Addr} {itm : List Value} {kl : List Int} {kar : Array Value} {e ep1 : Nat} {P : PySem.Fin → Shared → Prop}
theorem sb_tail {st : SortSt} (I : Inv X pins σ H s) (gk : s.heap.get? kS = some (seqObj "list" kar e)) (ga : s.heap.get? a = some (seqObj "list" #[] ep1)) (fa : FpOk X pins H a) (fk : FpOk X pins H kS) (hka : kS ≠ a)
    (hki : IntsAre kar.toList kl) (hle : kl.length = itm.length) (hsm : itm.length ≤ sizeLine) (hp : (arrOf st).Perm (kar.zip itm.toArray)) (hs : SortedTo (arrOf st) (arrOf st).size) (hfl : failedOf st = none)
    (hst : Stable intKind (arrOf st) (kar.zip itm.toArray))
    (h : ∀ s' out c, Inv X pins σ H s' → s'.heap.get? a = some (seqObj "list" out c) → KskOutSt false kl itm out.toList → P (.done (.ret .none)) s') :
    wpAny (model X.prog X.w) A (ksk_tail a false ep1 (.ref kS) st) P E s := by
  have hsm2 := hsm
  rw [sizeLine_eq] at hsm2
  have zk : kar.size = itm.length := by
    have h1 := hki.length
    rw [Array.length_toList] at h1
    omega
  have za : (arrOf st).size = itm.length := by rw [hp.size_eq, Array.size_zip, zk, List.size_toArray, Nat.min_self]
  have zo : ((arrOf st).map (·.2)).size = itm.length := by rw [Array.size_map]; exact za
  have s1 := Heap.SameBut.update s.heap kS (Obj.mapSeq fun _ => (#[] : Array Value))
  have ga1 : (s.heap.update kS (Obj.mapSeq fun _ => (#[] : Array Value))).get? a = some (seqObj "list" #[] ep1) := (s1.2 a hka.symm).trans ga
  have s2 := Heap.SameBut.update (s.heap.update kS (Obj.mapSeq fun _ => (#[] : Array Value))) a (Obj.mapSeq fun _ => (arrOf st).map (·.2))
  obtain ⟨cn, gcn⟩ : ∃ cn, ((s.heap.update kS (Obj.mapSeq fun _ => (#[] : Array Value))).update a (Obj.mapSeq fun _ => (arrOf st).map (·.2))).get? a = some (seqObj "list" ((arrOf st).map (·.2)) cn) :=
    ⟨_, get?_update_seq ga1 fun _ => (arrOf st).map (·.2)⟩
  obtain ⟨k0, k1, k2, k3, k4, k5⟩ := fk
  obtain ⟨a0, a1, a2, a3, a4, a5⟩ := fa
  have I1 : Inv X pins σ H { s with heap := s.heap.update kS (Obj.mapSeq fun _ => (#[] : Array Value)) } := I.turned (t' := s.toks) (fun b o hb q => (s1.2 b hb).trans q) k0 k1 k3 k4 k5
  unfold ksk_tail
  try dsimp only
  refine wpAny_bind (listUpdate_at gk rfl ?_ (by rw [zk, sizeLine_eq]; omega) (Nat.zero_le _))
  refine wpAny_bind (wpAny_letGo ?_)
  refine wpAny_bind (seqEpoch_at ga1 rfl ?_)
  refine wpAny_bind (listUpdate_at ga1 rfl ?_ (Nat.zero_le _) (Nat.le_trans (Nat.le_of_eq zo) (by rw [sizeLine_eq]; omega)))
  rw [hfl]
  simp only [bne_self_eq_false, Bool.false_eq_true, if_false]
  refine wpAny_pure (h _ _ cn (I1.turned (t' := s.toks) (fun b o hb q => (s2.2 b hb).trans q) a0 a1 a3 a4 a5) gcn ?_)
  exact ksk_outSt (b := false) hki hp hs (by simpa using hst)
theorem sb_end (I : Inv X pins σ H s) (gk : s.heap.get? kS = some (seqObj "list" kar e)) (ga : s.heap.get? a = some (seqObj "list" #[] ep1)) (fa : FpOk X pins H a) (fk : FpOk X pins H kS) (hka : kS ≠ a)
    (hki : IntsAre kar.toList kl) (hle : kl.length = itm.length) (hsm : itm.length ≤ sizeLine)
    (h : ∀ s' out c, Inv X pins σ H s' → s'.heap.get? a = some (seqObj "list" out c) → KskOutSt false kl itm out.toList → P (.done (.ret .none)) s') :
    wpAny (model X.prog X.w) A (ksk_end a false itm.toArray ep1 (.ref kS) kar) P E s := by
  have hsm2 := hsm
  rw [sizeLine_eq] at hsm2
  have zk : kar.size = itm.length := by
    have h1 := hki.length
    rw [Array.length_toList] at h1
    omega
  have zz : (kar.zip itm.toArray).size = itm.length := by rw [Array.size_zip, zk, List.size_toArray, Nat.min_self]
  unfold ksk_end
  try dsimp only
  simp only [Bool.false_eq_true, if_false]
  by_cases few : itm.toArray.size < 2
  · rw [if_pos few, if_pos few]
    refine wpAny_bind (wpAny_pure ?_)
    rw [StateT.run_pure]
    refine wpAny_bind (wpAny_pure ?_)
    try dsimp only
    refine sb_tail (st := SortSt.mk' general' (kar.zip itm.toArray) #[] 7 none) I gk ga fa fk hka hki hle hsm (Array.Perm.refl _) ?_ rfl (Stable.refl _) h
    intro i j hij jlt
    have hj2 : j < (kar.zip itm.toArray).size := jlt
    rw [zz] at hj2
    rw [List.size_toArray] at few
    have : i = j := by omega
    subst this
    exact Int.le_refl _
  · rw [if_neg few, if_neg few]
    rw [List.size_toArray] at few
    rw [ksk_kind hki (by rw [zk]; omega)]
    refine wpAny_bind (wpAny_pure ?_)
    refine wpAny_bind (wpAny_mono (wpS_sortRunsSt (κ := intKind) (a₀ := kar.zip itm.toArray)
      (st := SortSt.mk' oneType' (kar.zip itm.toArray) #[] 7 none)
      (Q := fun _ sq => (arrOf sq).Perm (kar.zip itm.toArray) ∧ failedOf sq = none ∧ SortedTo (arrOf sq) (arrOf sq).size ∧
        Stable intKind (arrOf sq) (kar.zip itm.toArray))
      intKind_oneLt (ksk_keysOfInt (ksk_intKeys hki)) ⟨Array.Perm.refl _, rfl, rfl⟩ rfl (Stable.refl _) (by rw [zz]; omega)
      fun sq a1 a2 a3 a4 => ⟨a1, a2, by rw [a1.size_eq]; exact sortedTo_of_int a3, a4⟩) ?_ fun _ _ e => e)
    rintro ⟨⟨⟩, sq⟩ s' ⟨rfl, hp, hf, hs, hst⟩
    try dsimp only
    exact sb_tail I gk ga fa fk hka hki hle hsm hp hs hf hst h
theorem sb_rest {f : Value} (I : Inv X pins σ H s) (gk : s.heap.get? kS = some (seqObj "list" #[] 0)) (ga : s.heap.get? a = some (seqObj "list" #[] ep1)) (fa : FpOk X pins H a) (fk : FpOk X pins H kS) (hka : kS ≠ a)
    (hle : kl.length = itm.length) (hsm : itm.length ≤ sizeLine)
    (turn : ∀ (i : Nat) (v : Value) (k : Int) (pins' : List (Addr × Obj)) (s' : Shared), itm[i]? = some v → kl[i]? = some k → Inv X pins' σ H s' →
      wpAny (model X.prog X.w) A (call f [v]) (EP X pins' σ fun x H' => x = .int k ∧ H' = H) (fun _ _ => False) s')
    (h : ∀ s' out c, Inv X pins σ H s' → s'.heap.get? a = some (seqObj "list" out c) → KskOutSt false kl itm out.toList → P (.done (.ret .none)) s') :
    wpAny (model X.prog X.w) A (ksk_rest a f false itm.toArray ep1 (.ref kS)) P E s := by
  have hsm2 := hsm
  rw [sizeLine_eq] at hsm2
  unfold ksk_rest
  refine wpAny_bind (wpAny_rule ?_)
  first
    | rw [List.forIn_toArray]
    | (rw [← Array.forIn_toList]; simp only [List.toList_toArray])
    | rw [← Array.forIn_toList]
  refine wpAny_bind (ksk_fold (fun i s' => ∃ gar e, Inv X pins σ H s' ∧ s'.heap.get? kS = some (seqObj "list" gar e) ∧ s'.heap.get? a = some (seqObj "list" #[] ep1) ∧ IntsAre gar.toList (kl.take i)) itm 0 s
    ⟨#[], 0, I, gk, ga, by simpa using IntsAre.nil⟩ ?step ?done)
  case step =>
    rintro j x s' hx ⟨gar, e, I', nk', na', hki⟩
    simp only [Nat.zero_add] at hki ⊢
    have jlt : j < itm.length := (List.getElem?_eq_some_iff.mp hx).1
    obtain ⟨k, ekj⟩ : ∃ k, kl[j]? = some k := ⟨_, List.getElem?_eq_getElem (by omega)⟩
    have gsm : gar.size ≤ itm.length := by
      have h1 := hki.length
      rw [Array.length_toList, List.length_take] at h1
      omega
    have I2 : Inv X (pins ++ [(kS, seqObj "list" gar e), (a, seqObj "list" #[] ep1)]) σ H s' := I'.pins_of fun p hp => by
      rcases List.mem_append.mp hp with hp | hp
      · exact I'.pin p (List.mem_append_right _ hp)
      · rcases List.mem_cons.mp hp with rfl | hp
        · exact ⟨nk', fk.1, fk.2.1, fk.2.2.1, fun v z => nomatch z⟩
        · rw [List.mem_singleton.mp hp]
          exact ⟨na', fa.1, fa.2.1, fa.2.2.1, fun v z => nomatch z⟩
    refine wpAny_bind (wpAny_attempt (wpAny_mono (turn j x k _ s' hx ekj I2) (fun v s'' he => ?_) fun _ _ hF => hF.elim))
    obtain ⟨y, H', I3, ry, rfl, rfl⟩ := he
    obtain ⟨t2, rfl⟩ : ∃ t, v = Value.int k t := ry
    try dsimp only
    have nk3 := (I3.pin (kS, seqObj "list" gar e) (List.mem_append_right _ (List.mem_append_right _ (.head _)))).1
    have na3 := (I3.pin (a, seqObj "list" #[] ep1) (List.mem_append_right _ (List.mem_append_right _ (.tail _ (.head _))))).1
    have s1 := Heap.SameBut.update s''.heap kS (Obj.mapSeq (·.push (.int k t2)))
    obtain ⟨cn, gcn⟩ : ∃ cn, (s''.heap.update kS (Obj.mapSeq (·.push (.int k t2)))).get? kS = some (seqObj "list" (gar.push (.int k t2)) cn) := ⟨_, get?_update_seq nk3 (·.push (.int k t2))⟩
    have et : kl.take (j + 1) = kl.take j ++ [k] := by rw [List.take_add_one, ekj]; simp
    have epu : (gar.push (Value.int k t2)).toList = gar.toList ++ [Value.int k t2] := by simp
    obtain ⟨k0, k1, _, k3, k4, k5⟩ := fk
    refine wpAny_bind (listUpdate_at nk3 rfl ?_ (by rw [sizeLine_eq]; omega) (Nat.le_trans (Nat.le_of_eq (Array.size_push ..)) (by rw [sizeLine_eq]; omega)))
    refine wpAny_pure ⟨rfl, gar.push (.int k t2), cn, I3.unpinned.turned (t' := s''.toks) (fun b o hb q => (s1.2 b hb).trans q) k0 k1 k3 k4 k5, gcn, (s1.2 a hka.symm).trans na3, by rw [epu, et]; exact ksk_snoc hki⟩
  case done =>
    rintro s' ⟨gar, e, I', nk', na', hki⟩
    have hkf : IntsAre gar.toList kl := by
      have eall : kl.take (0 + itm.length) = kl := List.take_of_length_le (by omega)
      rw [eall] at hki
      exact hki
    try dsimp only
    refine wpAny_bind (listItems_at nk' rfl ?_)
    exact sb_end I' nk' na' fa fk hka hkf hle hsm h
end
end TK

namespace TK
open PySem PySem.Spec PyProof.Rows L2
section
variable {prog : Program} {w : World} {A : Around} {E : Value → Shared → Prop} {s : Shared}
/-- the items of a tuple, drawn together -/
theorem collect_tup {t : Addr} {vs : List Value} {Q : List Value → Shared → Prop} (ht : IsTup s.heap t vs.toArray) (hsm : vs.length ≤ sizeLine)
    (h : Q vs { s with heap := (s.heap.push (seqObj "list" #[] 0)).update s.heap.objs.size (Obj.mapSeq (· ++ vs.toArray)) }) : wpAny (model prog w) A (collect (.ref t)) Q E s := by
  obtain ⟨ob, gob0, hcls, n, hdt⟩ := ht
  unfold collect
  refine wpAny_bind (wpAny_runValue (codeAny_builtin entry_proto_collect' ?_))
  show wpAny _ _ (do again (.builtin "list.__iadd__" ⟨[← newList [], .ref t], []⟩)) _ _ s
  refine wpAny_bind (wpAny_newList (wpAny_pure ⟨Code.quiet_builtin _ (by decide +kernel), codeAny_builtin entry_list_iadd' ?_⟩))
  show wpAny _ _ (Builtin.List.listExtendWith (.ref s.heap.objs.size) (.ref t) (.ref s.heap.objs.size)) _ _ { s with heap := s.heap.push (seqObj "list" #[] 0) }
  have gob : (s.heap.push (seqObj "list" #[] 0)).get? t = some ob := Heap.get?_push_of_some _ gob0
  have gnew : (s.heap.push (seqObj "list" #[] 0)).get? s.heap.objs.size = some (seqObj "list" #[] 0) := Heap.get?_push_size _ rfl
  unfold Builtin.List.listExtendWith
  refine wpAny_bind (wpAny_typeOf (T := "tuple") ⟨ob, gob, hcls⟩ ?_)
  rw [if_pos (by simp only [show (Value.type "tuple" == Value.type "tuple") = true from rfl, Bool.or_true])]
  refine wpAny_bind (listItems_at gob hdt (wpAny_bind (listItems_at gnew rfl ?_)))
  rw [if_neg (by simp)]
  refine wpAny_bind (listUpdate_at gnew rfl (wpAny_pure ?_) (Nat.zero_le _) (by simp only [Array.size_append, List.size_toArray, List.length_nil]; omega))
  show wpAny (model prog w) A (do
      let o ← load s.heap.objs.size
      match o.data with
      | .seq xs _ => pure xs.toList
      | _ => unsupported "internal:collect") Q E _
  refine wpAny_bind (wpAny_load (get?_update_seq gnew _) ?_)
  show wpAny _ _ (pure ((#[] : Array Value) ++ vs.toArray).toList) Q E _
  rw [show ((#[] : Array Value) ++ vs.toArray).toList = vs by simp]
  exact wpAny_pure h
end
section
variable {X : Cx} {pins : List (Addr × Obj)} {σ : L2.St} {H : Hp} {s : Shared} {A : Around} {E : Value → Shared → Prop} {a : Addr} {vs : List Value} {kz : List Int} {P : PySem.Fin → Shared → Prop}
theorem sb_sort {f : Value} {n : Nat} (I : Inv X pins σ H s) (ho : s.heap.get? a = some (seqObj "list" vs.toArray n)) (fa : FpOk X pins H a) (hlen : kz.length = vs.length) (hZ : vs.length ≤ sizeLine)
    (turn : ∀ (i : Nat) (v : Value) (k : Int) (pins' : List (Addr × Obj)) (s' : Shared), vs[i]? = some v → kz[i]? = some k → Inv X pins' σ H s' →
      wpAny (model X.prog X.w) A (call f [v]) (EP X pins' σ fun x H' => x = .int k ∧ H' = H) (fun _ _ => False) s')
    (h : ∀ s' out c, Inv X pins σ H s' → s'.heap.get? a = some (seqObj "list" out c) → KskOutSt false kz vs out.toList → P (.done (.ret .none)) s') :
    wpAny (model X.prog X.w) A (ksk_tree a f false) P E s := by
  have hZ2 := hZ
  rw [sizeLine_eq] at hZ2
  have hal : a < s.heap.objs.size := Heap.lt_size ho
  generalize hh1 : s.heap.update a (Obj.mapSeq fun _ => (#[] : Array Value)) = h1
  have sb : Heap.SameBut a s.heap h1 := by rw [← hh1]; exact Heap.SameBut.update s.heap a _
  obtain ⟨e1, ho1⟩ : ∃ e1, h1.get? a = some (seqObj "list" #[] e1) := by rw [← hh1]; exact ⟨_, get?_update_seq ho fun _ => #[]⟩
  have hz1 : h1.objs.size = s.heap.objs.size := by rw [← hh1, Heap.size_update]
  obtain ⟨a0, a1, a2, a3, a4, a5⟩ := id fa
  have I1 : Inv X pins σ H { s with heap := h1 } := I.turned (t' := s.toks) (fun b o hb q => (sb.2 b hb).trans q) a0 a1 a3 a4 a5
  have I2 : Inv X pins σ H { s with heap := (h1.push (seqObj "tuple" vs.toArray 0)).push (seqObj "list" #[] 0) } := I1.kept (t' := s.toks) fun b o q => Heap.get?_push_of_some _ (Heap.get?_push_of_some _ q)
  have hkz : (h1.push (seqObj "tuple" vs.toArray 0)).objs.size = s.heap.objs.size + 1 := by rw [size_push', hz1]
  unfold ksk_tree
  refine wpAny_bind (listItems_at ho rfl (wpAny_bind (listUpdate_at ho rfl ?_ (by rw [List.size_toArray, sizeLine_eq]; omega) (Nat.zero_le _))))
  rw [hh1]
  refine wpAny_bind (seqEpoch_at ho1 rfl (wpAny_bind (wpAny_newTuple (wpAny_bind (wpAny_newList (wpAny_holding ?_) (Nat.zero_le _))) (by show vs.length ≤ _; rw [sizeLine_eq]; omega))))
  refine sb_rest (s := { s with heap := (h1.push (seqObj "tuple" vs.toArray 0)).push (seqObj "list" #[] 0) }) (kS := (h1.push (seqObj "tuple" vs.toArray 0)).objs.size) I2 (Heap.get?_push_size _ rfl) (Heap.get?_push_of_some _ (Heap.get?_push_of_some _ ho1)) fa ?_ (Nat.ne_of_gt (by rw [hkz]; exact Nat.lt_succ_of_lt hal)) hlen hZ turn h
  exact I1.fpOk (by show h1.objs.size ≤ _; rw [hkz, hz1]; omega) (I1.hok.fresh (by show h1.objs.size ≤ _; rw [hkz, hz1]; omega))
end
/-! ### the stable order by a key -/
def insK {α : Type} (x : Int × α) : List (Int × α) → List (Int × α)
  | [] => [x]
  | y :: r => if x.1 ≤ y.1 then x :: y :: r else y :: insK x r
def sortK {α : Type} : List (Int × α) → List (Int × α)
  | [] => []
  | x :: r => insK x (sortK r)
section
variable {α : Type}
theorem insK_perm (x : Int × α) : ∀ l, (insK x l).Perm (x :: l)
  | [] => .refl _
  | y :: r => by
    unfold insK
    split
    · exact .refl _
    · exact ((insK_perm x r).cons y).trans (.swap x y r)
theorem sortK_perm : ∀ l : List (Int × α), (sortK l).Perm l
  | [] => .refl _
  | x :: r => (insK_perm x (sortK r)).trans ((sortK_perm r).cons x)
theorem insK_up (x : Int × α) : ∀ l : List (Int × α), l.Pairwise (fun p q => p.1 ≤ q.1) → (insK x l).Pairwise (fun p q => p.1 ≤ q.1)
  | [], _ => List.pairwise_singleton ..
  | y :: r, h => by
    unfold insK
    split
    · rename_i hx
      refine List.Pairwise.cons (fun z hsm => ?_) h
      rcases List.mem_cons.mp hsm with rfl | hsm
      · exact hx
      · exact Int.le_trans hx (List.rel_of_pairwise_cons h hsm)
    · rename_i hx
      refine List.Pairwise.cons (fun z hsm => ?_) (insK_up x r (List.Pairwise.of_cons h))
      rcases List.mem_cons.mp ((insK_perm x r).mem_iff.mp hsm) with rfl | hsm
      · omega
      · exact List.rel_of_pairwise_cons h hsm
theorem sortK_up : ∀ l : List (Int × α), (sortK l).Pairwise (fun p q => p.1 ≤ q.1)
  | [] => .nil
  | x :: r => insK_up x _ (sortK_up r)
theorem insK_filter (x : Int × α) (c : Int) : ∀ l : List (Int × α), l.Pairwise (fun p q => p.1 ≤ q.1) → (insK x l).filter (fun p => p.1 == c) = (x :: l).filter (fun p => p.1 == c)
  | [], _ => rfl
  | y :: r, h => by
    unfold insK
    split
    · rfl
    · rename_i hx
      have ih := insK_filter x c r (List.Pairwise.of_cons h)
      rw [List.filter_cons, ih, List.filter_cons, List.filter_cons, List.filter_cons]
      by_cases h1 : (x.1 == c) = true
      · by_cases h2 : (y.1 == c) = true
        · have e1 : x.1 = c := by simpa using h1
          have e2 : y.1 = c := by simpa using h2
          omega
        · simp [h1, h2]
      · simp [h1]
theorem sortK_filter (c : Int) : ∀ l : List (Int × α), (sortK l).filter (fun p => p.1 == c) = l.filter (fun p => p.1 == c)
  | [] => rfl
  | x :: r => by
    show (insK x (sortK r)).filter _ = _
    rw [insK_filter x c _ (sortK_up r), List.filter_cons, sortK_filter c r, List.filter_cons]
theorem stable_one : ∀ {l m : List (Int × α)}, l.Perm m → l.Pairwise (fun p q => p.1 ≤ q.1) → m.Pairwise (fun p q => p.1 ≤ q.1) → (∀ c, l.filter (fun p => p.1 == c) = m.filter (fun p => p.1 == c)) → l = m
  | [], m, hp, _, _, _ => by rw [List.nil_perm.mp hp]
  | x :: l, [], hp, _, _, _ => by cases hp.length_eq
  | x :: l, y :: m, hp, h1, h2, hf => by
    have le1 : x.1 ≤ y.1 := by
      rcases List.mem_cons.mp (hp.mem_iff.mpr (List.mem_cons_self ..) : y ∈ x :: l) with e | e
      · rw [e]; exact Int.le_refl _
      · exact List.rel_of_pairwise_cons h1 e
    have le2 : y.1 ≤ x.1 := by
      rcases List.mem_cons.mp (hp.mem_iff.mp (List.mem_cons_self ..) : x ∈ y :: m) with e | e
      · rw [e]; exact Int.le_refl _
      · exact List.rel_of_pairwise_cons h2 e
    have e : x.1 = y.1 := by omega
    have hx := hf x.1
    rw [List.filter_cons, List.filter_cons, if_pos (by simp), if_pos (by simp [e])] at hx
    obtain ⟨exy, _⟩ := List.cons.inj hx
    subst exy
    rw [stable_one (List.Perm.cons_inv hp) (List.Pairwise.of_cons h1) (List.Pairwise.of_cons h2) fun c => ?_]
    have := hf c
    rw [List.filter_cons, List.filter_cons] at this
    split at this
    · exact (List.cons.inj this).2
    · exact this
theorem insK_map {β : Type} (g : α → β) (x : Int × α) : ∀ l : List (Int × α), (insK x l).map (fun p => (p.1, g p.2)) = insK (x.1, g x.2) (l.map fun p => (p.1, g p.2))
  | [] => rfl
  | y :: r => by
    unfold insK
    by_cases h : x.1 ≤ y.1
    · rw [if_pos h]
      show _ = if x.1 ≤ y.1 then _ else _
      rw [if_pos h]; rfl
    · rw [if_neg h]
      show _ = if x.1 ≤ y.1 then _ else _
      rw [if_neg h, List.map_cons, insK_map g x r]
theorem sortK_map {β : Type} (g : α → β) : ∀ l : List (Int × α), (sortK l).map (fun p => (p.1, g p.2)) = sortK (l.map fun p => (p.1, g p.2))
  | [] => rfl
  | x :: r => by
    show (insK x (sortK r)).map _ = insK _ (sortK (r.map _))
    rw [insK_map, sortK_map g r]
end
/-- sorted pairs of related values are related -/
theorem insK_rel {x : Int × V} {u : Int × Value} (e : x.1 = u.1) (r : RelV x.2 u.2) : ∀ {l : List (Int × V)} {m : List (Int × Value)}, Paired (fun p q => p.1 = q.1 ∧ RelV p.2 q.2) l m → Paired (fun (p : Int × V) (q : Int × Value) => p.1 = q.1 ∧ RelV p.2 q.2) (insK x l) (insK u m)
  | _, _, .nil => .cons ⟨e, r⟩ .nil
  | y :: l, v :: m, .cons h t => by
    unfold insK
    rw [← e, ← h.1]
    split
    · exact .cons ⟨e, r⟩ (.cons h t)
    · exact .cons h (insK_rel e r t)
theorem sortK_rel : ∀ {l : List (Int × V)} {m : List (Int × Value)}, Paired (fun p q => p.1 = q.1 ∧ RelV p.2 q.2) l m → Paired (fun (p : Int × V) (q : Int × Value) => p.1 = q.1 ∧ RelV p.2 q.2) (sortK l) (sortK m)
  | _, _, .nil => .nil
  | _, _, .cons h t => insK_rel h.1 h.2 (sortK_rel t)
theorem zip_rel : ∀ {kz : List Int} {xs : List V} {us : List Value}, Vals xs us → Paired (fun (p : Int × V) (q : Int × Value) => p.1 = q.1 ∧ RelV p.2 q.2) (kz.zip xs) (kz.zip us)
  | [], _, _, _ => .nil
  | _ :: _, _, _, .nil => .nil
  | k :: kz, _, _, .cons r t => .cons ⟨rfl, r⟩ (zip_rel t)
theorem rel_snd : ∀ {l : List (Int × V)} {m : List (Int × Value)}, Paired (fun p q => p.1 = q.1 ∧ RelV p.2 q.2) l m → Vals (l.map Prod.snd) (m.map Prod.snd)
  | _, _, .nil => .nil
  | _, _, .cons h t => .cons h.2 (rel_snd t)
def byKey (ks : List Int) (xs : List V) : List V := (sortK (ks.zip xs)).map Prod.snd
theorem byKey_len {ks : List Int} {xs : List V} (h : ks.length = xs.length) : (byKey ks xs).length = xs.length := by
  unfold byKey
  rw [List.length_map, (sortK_perm _).length_eq, List.length_zip, h, Nat.min_self]
section
variable {X : Cx}
/-- sorted(xs, key=f), f a def whose answer is an int and that leaves the heap -/
def rSortedBy (K : PySem.W.Frag) (f : Addr) (sp : Sp) : List V → List V → Hp → VK → Prop := fun vs zs H Q => ∃ (a : Addr) (xs : List V) (ks : List Int), vs = [V.ref a] ∧ zs = [V.ref f] ∧ (SqL K H a xs ∨ SqT K H a xs) ∧ ks.length = xs.length ∧
  (∀ (i : Nat) (x : V) (k : Int), xs[i]? = some x → ks[i]? = some k → sp [x] H (fun v H' => v = .int k ∧ H' = H) E0) ∧ ∀ p, H p = none → Q (.ref p) (upd H p (.lst (byKey ks xs)))
theorem cr_sortedBy {k : Nat} {f : Addr} {fd : FuncData} {ps : List Str} {sp : Sp} (F : FnOk X.prog X.w X.K X.mg X.base CX0 k f fd ps sp) (hr : Room (k + 2) X.A) (hb : Binds X.K fd ps []) : CallRK X (.builtin "sorted") [Str.ofString "key"] (rSortedBy X.K f sp) := by
  intro pins s σ H xs zs us ws Q I rx rz hq
  obtain ⟨a, ys, ks, rfl, rfl, hS, hkl, hsp, q⟩ := hq
  cases rx with
  | cons r1 r2 =>
    cases r2
    cases r1
    cases rz with
    | cons z1 z2 =>
      cases z2
      cases z1
      obtain ⟨its, rv, hcol, hsm⟩ : ∃ its : List Value, Vals ys its ∧ (∀ (A : Around) (Q : List Value → Shared → Prop) (E : Value → Shared → Prop), Q its { s with heap := (s.heap.push (seqObj "list" #[] 0)).update s.heap.objs.size (Obj.mapSeq (· ++ its.toArray)) } → wpAny (model X.prog X.w) A (collect (.ref a)) Q E s) ∧ its.length ≤ sizeLine := by
        rcases hS with hS | hS
        · obtain ⟨its, rv, hl, hsm⟩ := I.list hS
          have hz' : its.length ≤ sizeLine := by rw [← rv.length]; exact hsm
          exact ⟨its, rv, fun A Q E h => collect_list hl.isList h hz', hz'⟩
        · obtain ⟨its, rv, hl, hsm⟩ := I.tuple hS
          have hz' : its.length ≤ sizeLine := by rw [← rv.length]; exact hsm
          exact ⟨its, rv, fun A Q E h => collect_tup hl hz' h, hz'⟩
      have hlen : ks.length = its.length := by rw [hkl, rv.length]
      show wpAny _ _ (call (.builtin "sorted") [.ref a] [(Str.ofString "key", .ref f)]) _ _ _
      refine call_function_entry_kw kind_sorted plain_sorted entry_sorted (ksk_s1 _ _) ?_
      unfold Builtin.«sorted»
      refine wpAny_bind (m := checkCount "sorted" 1 1 _) (wpAny_pure (wpAny_bind (hcol _ _ _ (wpAny_bind (wpAny_newList ?_ hsm)))))
      generalize hh1 : (s.heap.push (seqObj "list" #[] 0)).update s.heap.objs.size (Obj.mapSeq (· ++ its.toArray)) = h1
      have hz1 : h1.objs.size = s.heap.objs.size + 1 := by rw [← hh1, Heap.size_update, size_push']
      have kp1 : ∀ b o, s.heap.get? b = some o → h1.get? b = some o := fun b o e => by
        rw [← hh1, Heap.get?_update_ne _ _ _ _ (Nat.ne_of_lt (Heap.lt_size e))]
        exact Heap.get?_push_of_some _ e
      have hoL : (h1.push (seqObj "list" its.toArray 0)).get? h1.objs.size = some (seqObj "list" its.toArray 0) := Heap.get?_push_size _ rfl
      have I1 : Inv X pins σ H { s with heap := h1 } := I.kept (t' := s.toks) kp1
      have I2 : Inv X pins σ H { s with heap := h1.push (seqObj "list" its.toArray 0) } := I1.kept (t' := s.toks) fun b o e => Heap.get?_push_of_some _ e
      have fa : FpOk X pins H h1.objs.size := I1.fpOk (Nat.le_refl _) (I1.hok.fresh (Nat.le_refl _))
      refine wpAny_bind (wpAny_holding (wpAny_call_entry_kw slot_list_sort ⟨_, hoL, rfl⟩ entry_list_sort ?_ (ksk_l1 _ _)))
      show wpAny (model X.prog X.w) X.A.in1.in1 (Builtin.«list.sort» ⟨[.ref h1.objs.size], [(Str.ofString "key", .ref f)]⟩) _ _ _
      rw [ksk_t1]
      refine sb_sort (s := { s with heap := h1.push (seqObj "list" its.toArray 0) }) (kz := ks) I2 hoL fa hlen hsm (fun i v k pins' s' hv hk I' => ?_) fun s' out c I' ho' ko => ⟨_, rfl, ?_⟩
      · obtain ⟨x, hx, rxv⟩ : ∃ x, ys[i]? = some x ∧ RelV x v := by
          have hi : i < ys.length := by rw [rv.length]; exact (List.getElem?_eq_some_iff.mp hv).1
          obtain ⟨u, hu, ru⟩ := rv.get (List.getElem?_eq_getElem hi)
          rw [hv] at hu
          cases hu
          exact ⟨_, List.getElem?_eq_getElem hi, ru⟩
        exact run_fn2 F hr hb I' (.cons rxv .nil) (hsp i x k hx hk)
      · obtain ⟨pr, p1, p2, p3, p4⟩ := ko
        have e1 : pr = sortK (ks.zip its) := stable_one (p1.trans (sortK_perm _).symm) (by simpa using p3) (sortK_up _) fun c => (p4 c).trans (sortK_filter c _).symm
        have rel : Vals (byKey ks ys) out.toList := by
          rw [p2, e1]
          exact rel_snd (sortK_rel (zip_rel rv))
        have hbz : (byKey ks ys).length ≤ sizeLine := by rw [byKey_len hkl, rv.length]; exact hsm
        refine wpAny_pure ⟨_, rfl, ?_⟩
        exact ⟨.ref h1.objs.size, upd H h1.objs.size (.lst (byKey ks ys)), adopt I' fa ⟨hbz, out.toList, c, rel, by rw [Array.toArray_toList]; exact ho'⟩, rfl, q _ fa.1⟩
end
end TK

namespace TK
open PySem PySem.Spec PyProof.Rows L2
/-! ### enumerate(tuple) -/
theorem meets_enum1 {v : Value} {o : Obj} {G : Heap → Prop} (B : Begins v o G) :
    Meets (Builtin.«enumerate.__new__» ⟨[.type "enumerate", v], []⟩) (fun _ R s => G s.heap ∧
      R (.ok (.ret (.ref (s.heap.push o).objs.size))) { s with heap := (s.heap.push o).push { cls := .type "enumerate", data := .fields #[.none, .bool false, .ref s.heap.objs.size, rawInt 0, .none, .none] } }) :=
  .of_wp fun prog w A R s hh => by
    obtain ⟨hp, gg, dd, tk, os⟩ := s
    obtain ⟨hG, hR⟩ := hh
    have hsub := sub_enumerate
    have it1 : ∀ {A' : Around} {E' : Value → Shared → Prop} {Q : Value → Shared → Prop}, Q (.ref hp.objs.size) ⟨hp.push o, gg, dd, tk, os⟩ → wpAny (model prog w) A' (pyIter v) Q E' ⟨hp, gg, dd, tk, os⟩ := fun q => B.iter prog w _ _ ⟨hp, gg, dd, tk, os⟩ _ hG q
    wp_walk using it1
    refine wpAny_stack_any fun st => wpAny_pure ?_
    split
    · rename_i c _ _ _ _ _
      cases (c == Value.type "enumerate") <;> (wp_walk using it1; exact ⟨_, rfl, hR⟩)
    · wp_walk using it1
      exact ⟨_, rfl, hR⟩
section
variable {prog : Program} {w : World} {A : Around} {E : Value → Shared → Prop} {s : Shared}
theorem call_enum1 {v : Value} {o : Obj} {G : Heap → Prop} {Q : Value → Shared → Prop} (B : Begins v o G) (hG : G s.heap)
    (h : ∀ h', IsEnum h' (s.heap.objs.size + 1) s.heap.objs.size 0 .none → h'.get? s.heap.objs.size = some o → (∀ b o, s.heap.get? b = some o → h'.get? b = some o) → Q (.ref (s.heap.objs.size + 1)) { s with heap := h' }) :
    wpAny (model prog w) A (call (.type "enumerate") [v]) Q E s := by
  refine callType_new F.called_enumerate (by decide) (F.typeCall_enumerate_1 _) (F.newCall_enumerate_1 _) (fun obj => F.args_object_init_2 obj _) F.entry_enumerate_new (meets_enum1 B) ⟨hG, ?_⟩
  have zp : (s.heap.push o).objs.size = s.heap.objs.size + 1 := Heap.size_push ..
  show _ ∧ _
  rw [zp]
  have gen : IsEnum ((s.heap.push o).push { cls := .type "enumerate", data := .fields #[.none, .bool false, .ref s.heap.objs.size, rawInt 0, .none, .none] }) (s.heap.objs.size + 1) s.heap.objs.size 0 .none := by
    unfold IsEnum
    rw [← zp]
    exact Heap.get?_push_size _ rfl
  exact ⟨⟨_, gen, rfl⟩, h _ gen (Heap.get?_push_of_some _ (Heap.get?_push_size _ B.free)) fun b o q => Heap.get?_push_of_some _ (Heap.get?_push_of_some _ q)⟩
end
def IteT (K : PySem.W.Frag) (a : Addr) (n : Nat) : It :=
  ⟨fun i H => i < n ∧ ∃ xs : List V, SqT K H a xs ∧ xs.length = n, fun i H v H' => ∃ T x, v = .ref T ∧ H T = none ∧ H' = upd H T (.tup [.int (i : Nat), x]) ∧ ∀ xs, SqT K H a xs → xs[i]? = some x, fun i H => n ≤ i ∧ ∃ xs : List V, SqT K H a xs ∧ xs.length = n⟩
theorem turn_enumT {P : Program} {w : World} {K : PySem.W.Frag} {elts : List Expr} {kk : Nat} {tpos : Pos} (a e it : Addr) (n : Nat) (nei : e ≠ it) (nae : a ≠ e) (nai : a ≠ it) :
    Turn P w K (.Tuple elts kk tpos) (IteT K a n) [e, it] e (fun i h => (∃ old, IsEnum h e it ((i : Nat) : Int) old) ∧ h.IsTupleIter it a i ∧ i ≤ n) where
  mem := List.mem_cons_self ..
  obj := fun i h st b hb => by
    obtain ⟨⟨old, gen⟩, ⟨o, ho, _, hd⟩, _⟩ := st
    rcases List.mem_cons.mp hb with z | z
    · rw [z]; exact ⟨_, gen, fun v q => nomatch q⟩
    · rw [List.mem_singleton.mp z]; exact ⟨o, ho, fun v q => by rw [hd] at q; cases q⟩
  keep := fun i h h' st k => by
    obtain ⟨⟨old, gen⟩, hi, hn⟩ := st
    exact ⟨⟨old, k e (by simp) _ gen⟩, hi.at fun o q => k it (by simp) o q, hn⟩
  item := by
    intro X hP hw hK hc i pins s σ H E I hf st hg
    subst hP hw hK
    obtain ⟨⟨old, gen⟩, git, _⟩ := st
    obtain ⟨ltn, xs, hq, hxl⟩ := hg
    obtain ⟨itm, rel, p, zp⟩ := I.tuple hq
    have elt : e < s.heap.objs.size := Heap.lt_size gen
    have ilt : it < s.heap.objs.size := by obtain ⟨_, q, _⟩ := git; exact Heap.lt_size q
    have hsz : itm.toArray.size = n := by rw [List.size_toArray, ← rel.length]; exact hxl
    have D := Draws.tuple (prog := X.prog) (w := X.w) (A := X.A.in1) (I.ok.hd hc) it a nai itm.toArray
    refine wpAny_pyNext_enum_itemD D gen ⟨git, p⟩ (by rw [hsz]; exact ltn) nei (by simp [nei, Ne.symm nae]) fun u h' tk hu ho hst hT _ hk => ?_
    obtain ⟨x, hx, ru⟩ : ∃ x, xs[i]? = some x ∧ RelV x u := by
      obtain ⟨u', hu', ru'⟩ := rel.get (List.getElem?_eq_getElem (show i < xs.length by omega))
      have hu2 : itm[i]? = some u := by simpa using hu
      rw [hu2] at hu'
      cases hu'
      exact ⟨_, List.getElem?_eq_getElem (by omega), ru'⟩
    refine ⟨_, rfl, wpAny_letOwnedTupleGo_enum (s := { s with heap := h', toks := tk + 1 }) ho fun h'' he' sb => ?_⟩
    have atT : h''.get? s.heap.objs.size = some { cls := .type "tuple", data := .seq #[.int i tk, u] } := (sb.2 _ (Nat.ne_of_gt elt)).trans hT
    have new : ObjOk X.prog X.w (upd H s.heap.objs.size (.tup [.int (i : Nat), x])) h'' s.heap.objs.size (.tup [.int (i : Nat), x]) :=
      ⟨by show 2 ≤ sizeLine; decide, [.int i tk, u], .cons ⟨_, rfl⟩ (.cons ru .nil), ⟨_, atT, rfl, _, rfl⟩⟩
    have I1 : Inv X pins σ (upd H s.heap.objs.size (.tup [.int (i : Nat), x])) { s with heap := h'', toks := tk + 1 } :=
      I.turnedNew (ch := [e, it]) (fun b ob hb q => (sb.2 b (fun z => hb (by simp [z]))).trans (hk b ob (fun z => hb (by simp [z])) (fun z => hb (by simp [z])) q)) hf (Nat.le_refl _) new
    refine ⟨.ref s.heap.objs.size, _, I1, rfl, ⟨_, x, rfl, I.hok.fresh (Nat.le_refl _), rfl, fun ys hy => by rw [I.tuple_inj hy hq]; exact hx⟩, ⟨⟨u, ?_⟩, hst.1.at fun o q => (sb.2 it (Ne.symm nei)).trans q, by omega⟩, fun b hb => ?_⟩
    · rw [show ((i + 1 : Nat) : Int) = (i : Int) + 1 by omega]; exact he'
    · have blt : b < s.heap.objs.size := by
        rcases List.mem_cons.mp hb with z | z
        · rw [z]; exact elt
        · rw [List.mem_singleton.mp z]; exact ilt
      rw [upd_ne (Nat.ne_of_lt blt)]
      exact (hf b hb).1
  done := by
    intro X hP hw hK hc i pins s σ H E I hf st hg
    subst hP hw hK
    obtain ⟨⟨old, gen⟩, git, ble⟩ := st
    obtain ⟨hge, xs, hq, hxl⟩ := hg
    obtain ⟨itm, rel, p, zp⟩ := I.tuple hq
    have hin : i = itm.toArray.size := by rw [List.size_toArray, ← rel.length]; omega
    obtain ⟨q0, q1, q2, q3, q4, q5⟩ := hf it (by simp)
    have D := Draws.tuple (prog := X.prog) (w := X.w) (A := X.A.in1) (I.ok.hd hc) it a nai itm.toArray
    refine wpAny_pyNext_enum_endD D gen ⟨by rw [← hin]; exact git, p⟩ fun h' eb => ⟨rfl, I.turned (t' := s.toks) (fun b o hb q => eb b o hb q) q0 q1 q3 q4 q5⟩
  self := fun A i s Q E st h => by
    obtain ⟨⟨_, gen⟩, _⟩ := st
    exact wpAny_pyIter_enum gen h
def iEnumT (K : PySem.W.Frag) (ta : TA) : TI := fun σ H R => ta σ H fun vs H1 => ∃ a xs, vs = [.ref a] ∧ SqT K H1 a xs ∧ R (IteT K a xs.length) H1
theorem pi_enumT {X : Cx} {e : Expr} {ta : TA} {p pos tpos : Pos} {elts : List Expr} {kk : Nat} (hg : Gl X "enumerate") (hm : X.mg "enumerate" = none) (ha : PA X [e] ta) (hs : starEach [e] X.env = [(false, eval e X.env)] := by rfl) :
    PI X (.Tuple elts kk tpos) (.Call (.Name "enumerate" p) [e] [] pos) (iEnumT X.K ta) := by
  refine ⟨fun pins s σ H R I h => Call_ (ld_blt I hg hm boot_enumerate (PyProof.Rows.callWith_type1 (thn (ha.run pos pins s σ H _ I h) fun us s1 ⟨vs, H1, I1, r1, q1⟩ => ?_) hs rfl))⟩
  obtain ⟨a, xs, rfl, hq, q⟩ := q1
  cases r1 with
  | cons r rr =>
    cases rr
    cases r
    obtain ⟨itm, rel, p', zp⟩ := I1.tuple hq
    have hal : a < s1.heap.objs.size := by obtain ⟨_, q, _⟩ := p'; exact Heap.lt_size q
    refine call_enum1 (begins_tuple a itm.toArray) p' fun h' gen git hk => wpAny_pyIter_enum gen ?_
    have J2 : Inv X pins σ H1 { s1 with heap := h' } := I1.kept (t' := s1.toks) hk
    refine ⟨s1.heap.objs.size + 1, [s1.heap.objs.size + 1, s1.heap.objs.size], _, _, H1, rfl, J2, turn_enumT a (s1.heap.objs.size + 1) s1.heap.objs.size xs.length (Nat.succ_ne_self _) (Nat.ne_of_lt (Nat.lt_succ_of_lt hal)) (Nat.ne_of_lt hal), ⟨⟨.none, gen⟩, ⟨_, git, rfl, rfl⟩, Nat.zero_le _⟩, fun b hb => ?_, q⟩
    have ble : s1.heap.objs.size ≤ b := by
      rcases List.mem_cons.mp hb with z | z
      · rw [z]; exact Nat.le_add_right _ _
      · rw [List.mem_singleton.mp z]; exact Nat.le_refl _
    exact I1.fpOk ble (I1.hok.fresh ble)
theorem walk_enumT {K : PySem.W.Frag} {a : Addr} {xs : List V} : Walk (IteT K a xs.length) xs.length (fun H => SqT K H a xs) (YPair (fun i => some (.int (i : Nat))) (fun i => xs[i]?)) where
  goes := fun i H hi hG => ⟨hi, xs, hG, rfl⟩
  stops := fun H hG => ⟨Nat.le_refl _, xs, hG, rfl⟩
  yields := fun i H x H' _ hG hy => by
    obtain ⟨T, v, e1, e2, e3, e4⟩ := hy
    exact ⟨T, _, v, e1, e2, e3, rfl, e4 xs hG⟩
end TK

namespace TK
open PySem PySem.Spec PyProof.Rows L2
/-! ### max(xs, default=d), min(xs, default=d) of ints -/
theorem hold_ints {h : Heap} : ∀ {us : List Value} {ns : List Int}, IntsAre us ns → ∃ as, ReadsAll h us (ns.map PySem.W.Datum.toD) as
  | _, _, .nil => ⟨[], .nil⟩
  | _, _, .cons n t r => by
    obtain ⟨as, ra⟩ := hold_ints (h := h) r
    exact ⟨[] ++ as, .cons (.int n t) ra⟩
theorem hold_int {h : Heap} {v : Value} {m : Int} (H : PySem.W.Holds h v m) : ∃ t, v = Value.int m t := by
  obtain ⟨as, r⟩ := H
  have r : Reads h v (.int m) as := r
  cases r with
  | int i t => exact ⟨t, rfl⟩
theorem maxOf_is : ∀ (ys : List Int) (y : Int), PySem.W.maxOf y ys ∈ y :: ys ∧ ∀ z ∈ y :: ys, z ≤ PySem.W.maxOf y ys
  | [], y => ⟨List.mem_cons_self .., fun z hz => by cases List.mem_singleton.mp hz; exact Int.le_refl _⟩
  | a :: ys, y => by
    have e : PySem.W.maxOf y (a :: ys) = PySem.W.maxOf (if y < a then a else y) ys := by
      show List.foldl _ (if decide (y < a) = true then a else y) ys = _
      by_cases h : y < a
      · rw [if_pos (decide_eq_true h), if_pos h]; rfl
      · rw [if_neg (by simpa using h), if_neg h]; rfl
    obtain ⟨h1, h2⟩ := maxOf_is ys (if y < a then a else y)
    rw [e]
    by_cases h : y < a
    · rw [if_pos h] at h1 h2 ⊢
      refine ⟨?_, fun z hz => ?_⟩
      · exact List.mem_cons_of_mem _ h1
      · rcases List.mem_cons.mp hz with q | q
        · have := h2 a (List.mem_cons_self ..)
          omega
        · exact h2 z q
    · rw [if_neg h] at h1 h2 ⊢
      refine ⟨?_, fun z hz => ?_⟩
      · rcases List.mem_cons.mp h1 with q | q
        · rw [q]; exact List.mem_cons_self ..
        · exact List.mem_cons_of_mem _ (List.mem_cons_of_mem _ q)
      · rcases List.mem_cons.mp hz with q | q
        · rw [q]; exact h2 y (List.mem_cons_self ..)
        · rcases List.mem_cons.mp q with q | q
          · have := h2 y (List.mem_cons_self ..)
            omega
          · exact h2 z (List.mem_cons_of_mem _ q)
theorem minOf_is : ∀ (ys : List Int) (y : Int), PySem.W.minOf y ys ∈ y :: ys ∧ ∀ z ∈ y :: ys, PySem.W.minOf y ys ≤ z
  | [], y => ⟨List.mem_cons_self .., fun z hz => by cases List.mem_singleton.mp hz; exact Int.le_refl _⟩
  | a :: ys, y => by
    have e : PySem.W.minOf y (a :: ys) = PySem.W.minOf (if a < y then a else y) ys := by
      show List.foldl _ (if decide (a < y) = true then a else y) ys = _
      by_cases h : a < y
      · rw [if_pos (decide_eq_true h), if_pos h]; rfl
      · rw [if_neg (by simpa using h), if_neg h]; rfl
    obtain ⟨h1, h2⟩ := minOf_is ys (if a < y then a else y)
    rw [e]
    by_cases h : a < y
    · rw [if_pos h] at h1 h2 ⊢
      refine ⟨?_, fun z hz => ?_⟩
      · exact List.mem_cons_of_mem _ h1
      · rcases List.mem_cons.mp hz with q | q
        · have := h2 a (List.mem_cons_self ..)
          omega
        · exact h2 z q
    · rw [if_neg h] at h1 h2 ⊢
      refine ⟨?_, fun z hz => ?_⟩
      · rcases List.mem_cons.mp h1 with q | q
        · rw [q]; exact List.mem_cons_self ..
        · exact List.mem_cons_of_mem _ (List.mem_cons_of_mem _ q)
      · rcases List.mem_cons.mp hz with q | q
        · rw [q]; exact h2 y (List.mem_cons_self ..)
        · rcases List.mem_cons.mp q with q | q
          · have := h2 y (List.mem_cons_self ..)
            omega
          · exact h2 z (List.mem_cons_of_mem _ q)
def rMaxDef (K : PySem.W.Frag) : List V → List V → Hp → VK → Prop := fun vs zs H Q => ∃ (a : Addr) (ns : List Int) (d : V), vs = [V.ref a] ∧ zs = [d] ∧ SqL K H a (ns.map V.int) ∧ (ns = [] → Q d H) ∧ ∀ m, m ∈ ns → (∀ y, y ∈ ns → y ≤ m) → Q (.int m) H
def rMinDef (K : PySem.W.Frag) : List V → List V → Hp → VK → Prop := fun vs zs H Q => ∃ (a : Addr) (ns : List Int) (d : V), vs = [V.ref a] ∧ zs = [d] ∧ SqL K H a (ns.map V.int) ∧ (ns = [] → Q d H) ∧ ∀ m, m ∈ ns → (∀ y, y ∈ ns → m ≤ y) → Q (.int m) H
section
variable {X : Cx}
theorem cr_maxDef (hc : X.calm = true) (hu : X.A.units + 64 < cLine) : CallRK X (.builtin "max") [Str.ofString "default"] (rMaxDef X.K) := by
  intro pins s σ H xs zs us ws Q I rx rz hq
  obtain ⟨a, ns, d, rfl, rfl, hs, q0, q1⟩ := hq
  rw [Vals.ref1 rx]
  cases rz with
  | cons z1 z2 =>
    cases z2
    obtain ⟨its, rv, hl, _⟩ := I.list hs
    refine PySem.W.max_list_datum_default (α := Int) (xs := ns) (I.ok.hd hc) hl.isList (hold_ints rv.ints) (by show X.A.units + 1 + 0 < cLine; omega) (fun e h' tk hk => ⟨d, H, I.kept hk, z1, q0 e⟩) fun y ys i v h' tk e _ hv hk => ?_
    obtain ⟨t, rfl⟩ := hold_int hv
    obtain ⟨m1, m2⟩ := maxOf_is ys y
    exact ⟨.int _, H, I.kept hk, ⟨_, rfl⟩, q1 _ (by rw [e]; exact m1) fun z hz => m2 z (by rw [e] at hz; exact hz)⟩
theorem cr_minDef (hc : X.calm = true) (hu : X.A.units + 64 < cLine) : CallRK X (.builtin "min") [Str.ofString "default"] (rMinDef X.K) := by
  intro pins s σ H xs zs us ws Q I rx rz hq
  obtain ⟨a, ns, d, rfl, rfl, hs, q0, q1⟩ := hq
  rw [Vals.ref1 rx]
  cases rz with
  | cons z1 z2 =>
    cases z2
    obtain ⟨its, rv, hl, _⟩ := I.list hs
    refine PySem.W.min_list_datum_default (α := Int) (xs := ns) (I.ok.hd hc) hl.isList (hold_ints rv.ints) (by show X.A.units + 1 + 0 < cLine; omega) (fun e h' tk hk => ⟨d, H, I.kept hk, z1, q0 e⟩) fun y ys i v h' tk e _ hv hk => ?_
    obtain ⟨t, rfl⟩ := hold_int hv
    obtain ⟨m1, m2⟩ := minOf_is ys y
    exact ⟨.int _, H, I.kept hk, ⟨_, rfl⟩, q1 _ (by rw [e]; exact m1) fun z hz => m2 z (by rw [e] at hz; exact hz)⟩
end
/-! ### t[::-1] of a tuple -/
section
variable {prog : Program} {w : World} {A : Around} {E : Value → Shared → Prop} {s : Shared}
theorem places_rev (n : Nat) : Builtin.Slice.slicePlaces ((n : Int) - 1) (-1) (-1) = n := by
  unfold Builtin.Slice.slicePlaces
  rw [if_neg (by decide)]
  by_cases h : n = 0
  · subst h; rfl
  · rw [if_pos (by omega), show -(-1 : Int) = 1 from rfl, Int.ediv_one]
    omega
theorem applied_rev {sl : Addr} {vl vu vs : Value} {n : Nat} {Q : Int × Int × Nat → Shared → Prop} (hs : s.heap.IsSliceOf sl vl vu vs) (pl : IsPart vl none) (pu : IsPart vu none) (ps : IsPart vs (some (-1)))
    (h : Q ((n : Int) - 1, -1, n) s) : wpAny (model prog w) A (Builtin.Slice.sliceApplied (.ref sl) (pure (n : Int))) Q E s := by
  obtain ⟨ob, go, _, gd⟩ := id hs
  unfold Builtin.Slice.sliceApplied Builtin.Slice.sliceFields
  refine wpAny_bind (wpAny_bind (wpAny_field go gd (x := vl) rfl (wpAny_bind (wpAny_field go gd (x := vu) rfl (wpAny_bind (wpAny_field go gd (x := vs) rfl (wpAny_pure ?_)))))))
  refine wpAny_bind (HT.slicePart_ ps ?_)
  show wpAny _ _ (if ((-1 : Int) == 0) = true then _ else _) _ _ s
  rw [if_neg (by decide)]
  refine wpAny_bind (HT.slicePart_ pl (wpAny_bind (HT.slicePart_ pu (wpAny_bind (wpAny_pure ?_)))))
  show wpAny _ _ (pure ((n : Int) - 1, (-1 : Int), Builtin.Slice.slicePlaces ((n : Int) - 1) (-1) (-1))) _ _ s
  rw [places_rev]
  exact wpAny_pure h
theorem fm_congr {α β : Type} {f g : α → Option β} : ∀ {l : List α}, (∀ x ∈ l, f x = g x) → l.filterMap f = l.filterMap g
  | [], _ => rfl
  | x :: r, h => by
    rw [List.filterMap_cons, List.filterMap_cons, h x (List.mem_cons_self ..), fm_congr fun y hy => h y (List.mem_cons_of_mem _ hy)]
theorem pick_rev (xs : Array Value) : ((List.range xs.size).filterMap fun (m : Nat) => xs[((xs.size : Int) - 1 + (m : Int) * (-1)).toNat]?).toArray = xs.toList.reverse.toArray := by
  have e : ((List.range xs.size).filterMap fun (m : Nat) => xs[((xs.size : Int) - 1 + (m : Int) * (-1)).toNat]?) = ((List.range xs.size).map fun k => xs.size - 1 - k).filterMap (xs[·]?) := by
    rw [List.filterMap_map]
    refine fm_congr fun m hm => ?_
    have := List.mem_range.mp hm
    show xs[_]? = xs[xs.size - 1 - m]?
    congr 1
    omega
  rw [e, PySem.W.krv_range, List.filterMap_reverse, PySem.W.krv_all]
theorem getItem_tup_rev {t sl : Addr} {items : Array Value} {vl vu vs : Value} {Q : Value → Shared → Prop} (ht : IsTup s.heap t items) (hs : s.heap.IsSliceOf sl vl vu vs) (pl : IsPart vl none) (pu : IsPart vu none) (ps : IsPart vs (some (-1)))
    (h : Q (.ref s.heap.objs.size) { s with heap := s.heap.push { cls := .type "tuple", data := .seq items.toList.reverse.toArray } }) (hsz : items.size ≤ sizeLine) : wpAny (model prog w) A (getItem (.ref t) (.ref sl)) Q E s := by
  have small : sizeOk (.seq items.toList.reverse.toArray) := by
    show items.toList.reverse.toArray.size ≤ sizeLine
    rw [List.size_toArray, List.length_reverse, Array.length_toList]
    exact hsz
  obtain ⟨ob, go, gc, gd⟩ := id hs
  unfold getItem
  try with_reducible refine wpAny_holding ?_
  first | refine wpAny_bind (wpAny_pure ?_) | skip
  refine wpAny_bind (wpAny_sequenceKey ht.typeIs (by decide) (wpAny_bind (wpAny_callSpecial?_slot (name := Str.ofString "__getitem__") ht.typeIs PyProof.Rows.slot_tuple_getitem (wpAny_call_entry PyProof.Rows.slot_tuple_getitem ht.typeIs entry_tuple_getitem ?_ (args_tuple_getitem _ _)))))
  show wpAny _ _ (Builtin.Tuple.tupleItemsOf (.ref t) >>= _) _ _ s
  refine wpAny_bind (tupleItemsOf_ ht (wpAny_bind (wpAny_typeOf ⟨ob, go, gc⟩ ?_)))
  rw [if_pos (by decide)]
  refine wpAny_bind (applied_rev hs pl pu ps ?_)
  show wpAny _ _ (if (((items.size : Int) - 1) == 0 && (-1 : Int) == 1 && items.size == items.size) = true then _ else _) _ _ s
  rw [if_neg (by rw [show ((-1 : Int) == 1) = false from rfl, Bool.and_false, Bool.false_and]; decide), pick_rev]
  first
    | exact wpAny_bind (m := Builtin.Tuple.tupleExact _) (wpAny_newObj_type (wpAny_pure ⟨_, rfl, wpAny_pure h⟩) small)
    | exact wpAny_bind (m := Builtin.Tuple.tupleExact _) (wpAny_newObj_type (wpAny_bind (wpAny_pure (wpAny_pure ⟨_, rfl, wpAny_pure h⟩))) small)
    | exact wpAny_bind (wpAny_bind (m := Builtin.Tuple.tupleExact _) (wpAny_newObj_type (wpAny_pure (wpAny_pure ⟨_, rfl, wpAny_pure h⟩)) small))
    | exact wpAny_bind (wpAny_bind (m := Builtin.Tuple.tupleExact _) (wpAny_newObj_type (wpAny_pure ⟨_, rfl, wpAny_pure h⟩) small))
end
def tRevT (K : PySem.W.Frag) (te : TE) : TE := fun σ H Q => te σ H fun x H1 => ∃ a xs, x = .ref a ∧ SqT K H1 a xs ∧ ∀ p, H1 p = none → Q (.ref p) (upd H1 p (.tup xs.reverse))
theorem pe_revT {X : Cx} {e : Expr} {te : TE} {k : Nat} {p1 p2 p3 pos : Pos} (he : PE X e te) : PE X (.Subscript e (.Slice none none (some (.UnaryOp .USub (.Constant (.int 1) k p1) p2)) p3) pos) (tRevT X.K te) := by
  refine ⟨fun pins s σ H Q I h => Subscript_ (thn (he.run pins s σ H _ I h) fun v s1 ⟨x, H1, I1, r1, a, xs, ex, hx, q⟩ => ?_)⟩
  subst ex
  cases r1
  have one : PO X (some (.UnaryOp .USub (.Constant (.int 1) k p1) p2)) (tPart (tUn (rU fun i => .int (-i)) (tC (.int 1)))) := po_some (pe_un un_neg pe_int)
  refine wpAny_Slice (thn (po_none.run pins s1 σ H1 (fun o G => o = none ∧ G = H1) I1 ⟨rfl, rfl⟩) fun vl s2 ⟨l, H2, I2, pl, el, e2⟩ => ?_)
  subst el e2
  refine thn (po_none.run pins s2 σ H2 (fun o G => o = none ∧ G = H2) I2 ⟨rfl, rfl⟩) fun vu s3 ⟨u, H3, I3, pu, eu, e3⟩ => ?_
  subst eu e3
  refine thn (one.run pins s3 σ H3 (fun o G => o = some (-1) ∧ G = H3) I3 ⟨1, rfl, -1, rfl, rfl, rfl⟩) fun vs s4 ⟨o, H4, I4, ps, eo, e4⟩ => ?_
  subst eo e4
  have J : Inv X pins σ H4 { s4 with heap := s4.heap.push { cls := .type "slice", data := .fields #[vl, vu, vs] } } := I4.kept (t' := s4.toks) fun b ob q => Heap.get?_push_of_some _ q
  obtain ⟨itm, r, ht, hz⟩ := J.tuple hx
  have hlen := r.length
  show wpAny (model X.prog X.w) X.A (subscriptTail e (.Slice none none (some (.UnaryOp .USub (.Constant (.int 1) k p1) p2)) p3) (.ref a) (.ref s4.heap.objs.size)) (EP X pins σ Q) X.xe { s4 with heap := s4.heap.push { cls := .type "slice", data := .fields #[vl, vu, vs] } }
  refine tail_any (ops := [.ref a, .ref s4.heap.objs.size]) ht.typeIs PyProof.Rows.slot_tuple_getitem.lookup ?_ (by with_unfolding_all rfl)
  refine getItem_tup_rev ht (Heap.IsSliceOf.new _ vl vu vs) pl pu ps ?_ (by rw [List.size_toArray]; omega)
  refine ⟨.ref _, _, J.laid (t' := s4.toks) (o := .tup xs.reverse) (fun b ob q => Heap.get?_push_of_some _ q) (Nat.le_refl _) ?_, rfl, q _ (J.hok.fresh (Nat.le_refl _))⟩
  exact ⟨by rw [List.length_reverse]; exact hz, _, r.reverse, IsTup.new _ _⟩
end TK

namespace TK
open PySem PySem.Spec PyProof.Rows L2
section
variable {X : Cx}
/-! ### a word of one's own in the middle; two ways to read the same text -/
theorem ps_cut {st : Stmt} {t : TS} (h : PS X st t) : PS X st (fun D σ H => ∃ R : L2.St → Hp → Prop, t { D with nx := R } σ H ∧ ∀ σ' H', R σ' H' → D.nx σ' H') :=
  ⟨fun pins s σ H D I ⟨R, q, k⟩ => thn (h.run pins s σ H _ I q) fun f s' z => by
    cases f with
    | next => obtain ⟨σ', H', I', r⟩ := z; exact ⟨σ', H', I', k _ _ r⟩
    | brk => exact z
    | cont => exact z
    | ret u => exact z⟩
theorem pe_cut {e : Expr} {t : TE} (h : PE X e t) : PE X e (fun σ H Q => ∃ R : VK, t σ H R ∧ ∀ v H', R v H' → Q v H') :=
  ⟨fun pins s σ H Q I ⟨R, q, k⟩ => thn (h.run pins s σ H _ I q) fun v s' z => by
    obtain ⟨x, H', I', r, q'⟩ := z
    exact ⟨x, H', I', r, k _ _ q'⟩⟩
theorem pt_cut {e : Expr} {t : TT} (h : PT X e t) : PT X e (fun σ H Q => ∃ R : Bool → Hp → Prop, t σ H R ∧ ∀ b H', R b H' → Q b H') :=
  ⟨fun pins s σ H Q I ⟨R, q, k⟩ => thn (h.run pins s σ H _ I q) fun v s' z => by
    obtain ⟨H', I', q'⟩ := z
    exact ⟨H', I', k _ _ q'⟩⟩
theorem pi_or {tg it : Expr} {w1 w2 : TI} (h1 : PI X tg it w1) (h2 : PI X tg it w2) : PI X tg it (fun σ H R => w1 σ H R ∨ w2 σ H R) :=
  ⟨fun pins s σ H R I h => h.elim (h1.run pins s σ H R I) (h2.run pins s σ H R I)⟩
theorem ps_or {st : Stmt} {t1 t2 : TS} (h1 : PS X st t1) (h2 : PS X st t2) : PS X st (fun D σ H => t1 D σ H ∨ t2 D σ H) :=
  ⟨fun pins s σ H D I h => h.elim (h1.run pins s σ H D I) (h2.run pins s σ H D I)⟩
theorem pe_or2 {e : Expr} {t1 t2 : TE} (h1 : PE X e t1) (h2 : PE X e t2) : PE X e (fun σ H Q => t1 σ H Q ∨ t2 σ H Q) :=
  ⟨fun pins s σ H Q I h => h.elim (h1.run pins s σ H Q I) (h2.run pins s σ H Q I)⟩
theorem pt_or2 {e : Expr} {t1 t2 : TT} (h1 : PT X e t1) (h2 : PT X e t2) : PT X e (fun σ H Q => t1 σ H Q ∨ t2 σ H Q) :=
  ⟨fun pins s σ H Q I h => h.elim (h1.run pins s σ H Q I) (h2.run pins s σ H Q I)⟩
end
end TK

namespace TK
open PySem PySem.Spec PyProof.Rows L2
section
variable {X : Cx}
/-! sum(t), a tuple of ints -/
def rSumT (K : PySem.W.Frag) : List V → Hp → VK → Prop := fun vs H Q => ∃ (a : Addr) (ns : List Int), vs = [V.ref a] ∧ SqT K H a (ns.map V.int) ∧ Q (.int ns.sum) H
theorem cr_sumT (hc : X.calm = true) : CallR X (.builtin "sum") (rSumT X.K) := by
  intro pins s σ H vs us Q I r h
  obtain ⟨a, ns, rfl, hs, q⟩ := h
  obtain ⟨itm, rv, p, _⟩ := I.tuple hs
  rw [Vals.ref1 r]
  obtain ⟨xs, e⟩ := rv.ints.allInts.items
  have hn : numsOf itm.toArray.toList = ns := rv.ints.numsOf
  rw [e, nums_intItems] at hn
  refine PySem.W.ktm_sumG (I.ok.hd hc) (e ▸ p) fun h' tk t' hk => ?_
  rw [preSum_eq, List.take_of_length_le (by simp), hn]
  exact ⟨.int _, H, I.kept hk, ⟨_, rfl⟩, q⟩
/-- *e within a comprehension -/
theorem pa_starK {K : PySem.W.Frag} {e : Expr} {es : List Expr} {te : TE} {t : TA} {p : Pos} (h : X.K = K) (he : PE X e te) (hr : PA X es t) (hs : starEach (.Starred e p :: es) X.env = (true, eval e X.env) :: starEach es X.env := by rfl) : PA X (.Starred e p :: es) (StX.tStar K te t) := h ▸ StX.pa_star he hr hs
theorem op_eqDK {K : PySem.W.Frag} (h : X.K = K) (hu : X.A.units + 64 < cLine) : OpR X (compareOp .Eq) (rEqD K) := h ▸ op_eqD hu
theorem op_neDK {K : PySem.W.Frag} (h : X.K = K) (hu : X.A.units + 64 < cLine) : OpR X (compareOp .NotEq) (rNeD K) := h ▸ op_neD hu
/-! ### objects at a row of addresses -/
def At (H : Hp) (us : List Addr) (os : List HO) : Prop := us.length = os.length ∧ ∀ (i : Nat) (u : Addr) (o : HO), us[i]? = some u → os[i]? = some o → H u = some o
theorem At.same {H H' : Hp} {us : List Addr} {os : List HO} (h : At H us os) (s : Same H H') : At H' us os := ⟨h.1, fun i u o a b => s _ _ (h.2 i u o a b)⟩
theorem At.nil {H : Hp} : At H [] [] := ⟨rfl, fun i u o a _ => by simp at a⟩
theorem At.append {H : Hp} {us vs : List Addr} {os ps : List HO} (h : At H us os) (k : At H vs ps) : At H (us ++ vs) (os ++ ps) := by
  refine ⟨by rw [List.length_append, List.length_append, h.1, k.1], fun i u o a b => ?_⟩
  by_cases hi : i < us.length
  · rw [List.getElem?_append_left hi] at a
    rw [List.getElem?_append_left (by rw [← h.1]; exact hi)] at b
    exact h.2 i u o a b
  · rw [List.getElem?_append_right (by omega)] at a
    rw [List.getElem?_append_right (by rw [← h.1]; omega), ← h.1] at b
    exact k.2 _ u o a b
theorem At.one {H : Hp} {u : Addr} {o : HO} (e : H u = some o) : At H [u] [o] := ⟨rfl, fun i u' o' a b => by
  match i, a, b with
  | 0, a, b =>
    cases a
    cases b
    exact e⟩
theorem At.get {H : Hp} {us : List Addr} {os : List HO} {i : Nat} {x : V} (h : At H us os) (e : (us.map V.ref)[i]? = some x) : ∃ (u : Addr) (o : HO), x = .ref u ∧ us[i]? = some u ∧ os[i]? = some o ∧ H u = some o := by
  rw [List.getElem?_map] at e
  cases ht : us[i]? with
  | none => rw [ht] at e; cases e
  | some t =>
    rw [ht] at e
    cases e
    have hi : i < os.length := by rw [← h.1]; exact (List.getElem?_eq_some_iff.mp ht).1
    exact ⟨t, os[i], rfl, rfl, List.getElem?_eq_getElem hi, h.2 i t _ ht (List.getElem?_eq_getElem hi)⟩
/-- a list elsewhere is written anew -/
theorem At.wrote {H : Hp} {us : List Addr} {os : List HO} {D : Addr} {xs : List V} {o : HO} (h : At H us os) (t : ∀ p ∈ os, ∃ ys, p = HO.tup ys) (e : H D = some (.lst xs)) : At (upd H D o) us os := ⟨h.1, fun i u p a b => by
  have := h.2 i u p a b
  rw [upd_ne fun z => ?_]
  · exact this
  · subst z
    obtain ⟨ys, rfl⟩ := t p (List.mem_of_getElem? b)
    rw [e] at this
    cases this⟩
end
end TK

namespace TK
open PySem PySem.Spec PyProof.Rows L2
/-! ### zip(tuple, list) -/
def ItzM (K : PySem.W.Frag) (a b : Addr) : It :=
  ⟨fun i H => ∃ xs ys : List V, SqT K H a xs ∧ SqL K H b ys ∧ i < xs.length ∧ i < ys.length,
    fun i H v H' => ∃ T x y, v = .ref T ∧ H T = none ∧ H' = upd H T (.tup [x, y]) ∧ (∀ xs, SqT K H a xs → xs[i]? = some x) ∧ ∀ ys, SqL K H b ys → ys[i]? = some y,
    fun i H => ∃ xs ys : List V, SqT K H a xs ∧ SqL K H b ys ∧ i ≤ xs.length ∧ i ≤ ys.length ∧ (i = xs.length ∨ i = ys.length)⟩
theorem ne_nat {x y : Nat} (h : x < y ∨ y < x) : x ≠ y := by omega
theorem no_two {x p q : Nat} (h1 : x < p ∨ p < x) (h2 : x < q ∨ q < x) : x ∉ [p, q] := by
  intro h
  rcases List.mem_cons.mp h with z | z
  · exact ne_nat h1 z
  · exact ne_nat h2 (List.mem_singleton.mp z)
theorem sep_zip (I a b : Nat) (la : a < I) (lb : b < I) : ZipSep2 (I + 4) (I + 2) (I + 3) I (I + 1) [I, a] [I + 1, b] :=
  ⟨ne_nat (x := I + 2) (y := I + 4) (by omega), ne_nat (x := I + 3) (y := I + 4) (by omega), ne_nat (x := I + 2) (y := I + 3) (by omega), ne_nat (x := I + 2) (y := I) (by omega), List.mem_cons_self .., no_two (x := I + 4) (by omega) (by omega), no_two (x := I + 3) (by omega) (by omega),
    ne_nat (x := I + 2) (y := I + 1) (by omega), List.mem_cons_self .., no_two (x := I + 4) (by omega) (by omega), no_two (x := I + 3) (by omega) (by omega), no_two (x := I) (by omega) (by omega), no_two (x := I + 1) (by omega) (by omega)⟩
theorem turn_zipM {P : Program} {w : World} {K : PySem.W.Frag} {elts : List Expr} {kk : Nat} {tpos : Pos} {a b z TI TO i1 i2 : Addr} (S : ZipSep2 z TI TO i1 i2 [i1, a] [i2, b]) (na : a ≠ i1) (nb : b ≠ i2) :
    Turn P w K (.Tuple elts kk tpos) (ItzM K a b) [z, TI, TO, i1, i2] z (fun i h => IsZip h z TI TO .none ∧ IsTupOf2 h TI (.ref i1) (.ref i2) ∧ (∃ x y, IsTupOf2 h TO x y) ∧ h.IsTupleIter i1 a i ∧ h.IsListIter i2 b i) where
  mem := by simp
  obj := fun i h st c hc => by
    obtain ⟨hz, hTI, ⟨x, y, hTO⟩, ⟨o1, e1, _, d1⟩, ⟨o2, e2, _, d2⟩⟩ := st
    have e' : c = z ∨ c = TI ∨ c = TO ∨ c = i1 ∨ c = i2 := by simpa using hc
    rcases e' with rfl | rfl | rfl | rfl | rfl
    · exact ⟨_, hz, fun v q => nomatch q⟩
    · exact ⟨_, hTI, fun v q => nomatch q⟩
    · exact ⟨_, hTO, fun v q => nomatch q⟩
    · exact ⟨o1, e1, fun v q => by rw [d1] at q; cases q⟩
    · exact ⟨o2, e2, fun v q => by rw [d2] at q; cases q⟩
  keep := fun i h h' st k => by
    obtain ⟨hz, hTI, ⟨x, y, hTO⟩, h1, h2⟩ := st
    exact ⟨k z (by simp) _ hz, k TI (by simp) _ hTI, ⟨x, y, k TO (by simp) _ hTO⟩, h1.at fun o q => k i1 (by simp) o q, h2.at fun o q => k i2 (by simp) o q⟩
  item := by
    intro X hP hw hK hc i pins s σ H E I hf st hg
    subst hP hw hK
    obtain ⟨hz, hTI, ⟨x0, y0, hTO⟩, h1, h2⟩ := st
    obtain ⟨xs, ys, hqx, hqy, lx, ly⟩ := hg
    obtain ⟨its, rv, p, _⟩ := I.tuple hqx
    obtain ⟨its2, rv2, p2, _⟩ := I.list hqy
    have hzl : z < s.heap.objs.size := Heap.lt_size hz
    have n1 : its.toArray.size = xs.length := by rw [List.size_toArray, ← rv.length]
    have n2 : its2.toArray.size = ys.length := by rw [List.size_toArray, ← rv2.length]
    have D1 := Draws.tuple (prog := X.prog) (w := X.w) (A := X.A.in1) (I.ok.hd hc) i1 a na its.toArray
    have D2 := Draws.list (prog := X.prog) (w := X.w) (A := X.A.in1) (I.ok.hd hc) i2 b nb its2.toArray
    refine wpAny_pyNext_zipD2_item S D1 D2 hz hTI hTO ⟨h1, p⟩ ⟨h2, p2.isList⟩ (by rw [n1]; exact lx) (by rw [n2]; exact ly) fun u u2 h' tk hu hu2 z' TO' d1 d2 hT hsz hk => ?_
    refine ⟨_, rfl, wpAny_letOwnedTupleGo_zip (s := { s with heap := h', toks := tk }) z' fun h'' z'' sb => ?_⟩
    obtain ⟨x, hx, ru⟩ : ∃ x, xs[i]? = some x ∧ RelV x u := by
      obtain ⟨v, hv, r⟩ := rv.get (List.getElem?_eq_getElem lx)
      have : its[i]? = some u := by simpa using hu
      rw [this] at hv
      cases hv
      exact ⟨_, List.getElem?_eq_getElem lx, r⟩
    obtain ⟨y, hy, ru2⟩ : ∃ y, ys[i]? = some y ∧ RelV y u2 := by
      obtain ⟨v, hv, r⟩ := rv2.get (List.getElem?_eq_getElem ly)
      have : its2[i]? = some u2 := by simpa using hu2
      rw [this] at hv
      cases hv
      exact ⟨_, List.getElem?_eq_getElem ly, r⟩
    have hT2 : h''.get? s.heap.objs.size = some { cls := .type "tuple", data := .seq #[u, u2] } := (sb.2 _ (Nat.ne_of_gt hzl)).trans hT
    have new : ObjOk X.prog X.w (upd H s.heap.objs.size (.tup [x, y])) h'' s.heap.objs.size (.tup [x, y]) :=
      ⟨by show 2 ≤ sizeLine; decide, [u, u2], .cons ru (.cons ru2 .nil), ⟨_, hT2, rfl, _, rfl⟩⟩
    have I1 : Inv X pins σ (upd H s.heap.objs.size (.tup [x, y])) { s with heap := h'', toks := tk } :=
      I.turnedNew (ch := [z, TI, TO, i1, i2]) (fun c o hb q => (sb.2 c (fun q' => hb (by simp [q']))).trans (hk c o (fun q' => hb (by simp [q'])) (fun q' => hb (by simp [q'])) (fun q' => hb (by simp [q'])) (fun q' => hb (by simp [q'])) q)) hf (Nat.le_refl _) new
    refine ⟨.ref s.heap.objs.size, _, I1, rfl, ⟨_, x, y, rfl, I.hok.fresh (Nat.le_refl _), rfl, fun l hl => by rw [I.tuple_inj hl hqx]; exact hx, fun l hl => by rw [I.list_inj hl hqy]; exact hy⟩, ⟨z'', ?_, ⟨u, u2, ?_⟩, ?_, ?_⟩, fun c hcm => ?_⟩
    · exact (sb.2 _ S.TIz).trans (hk _ _ S.TIz S.TITO S.TIi1 S.TIi2 hTI)
    · exact (sb.2 _ S.TOz).trans TO'
    · exact d1.1.at fun o q => (sb.2 _ (Ne.symm S.zi1)).trans q
    · exact d2.1.at fun o q => (sb.2 _ (Ne.symm S.zi2)).trans q
    · have hlt : c < s.heap.objs.size := by
        have e' : c = z ∨ c = TI ∨ c = TO ∨ c = i1 ∨ c = i2 := by simpa using hcm
        rcases e' with rfl | rfl | rfl | rfl | rfl
        · exact hzl
        · exact Heap.lt_size hTI
        · exact Heap.lt_size hTO
        · obtain ⟨_, e1, _⟩ := h1; exact Heap.lt_size e1
        · obtain ⟨_, e2, _⟩ := h2; exact Heap.lt_size e2
      rw [upd_ne (Nat.ne_of_lt hlt)]
      exact (hf c hcm).1
  done := by
    intro X hP hw hK hc i pins s σ H E I hf st hg
    subst hP hw hK
    obtain ⟨hz, hTI, ⟨x0, y0, hTO⟩, h1, h2⟩ := st
    obtain ⟨xs, ys, hqx, hqy, le1, le2, hend⟩ := hg
    obtain ⟨its, rv, p, _⟩ := I.tuple hqx
    obtain ⟨its2, rv2, p2, _⟩ := I.list hqy
    have n1 : its.toArray.size = xs.length := by rw [List.size_toArray, ← rv.length]
    have n2 : its2.toArray.size = ys.length := by rw [List.size_toArray, ← rv2.length]
    have D1 := Draws.tuple (prog := X.prog) (w := X.w) (A := X.A.in1) (I.ok.hd hc) i1 a na its.toArray
    have D2 := Draws.list (prog := X.prog) (w := X.w) (A := X.A.in1) (I.ok.hd hc) i2 b nb its2.toArray
    exact wpAny_pyNext_zipD2_end S D1 D2 hz hTI hTO ⟨h1, p⟩ ⟨h2, p2.isList⟩ (by rw [n1]; exact le1) (by rw [n2]; exact le2) (by rw [n1, n2]; exact hend) fun h' tk hk => ⟨rfl, I.turnedL (ch := [z, TI, TO, i1, i2]) (fun c o hb q =>
      hk c o (fun q' => hb (by simp [q'])) (fun q' => hb (by simp [q'])) (fun q' => hb (by simp [q'])) (fun q' => hb (by simp [q'])) q) hf⟩
  self := fun A i s Q E st h => wpAny_pyIter_zip st.1 h
def iZipM (K : PySem.W.Frag) (ta : TA) : TI := fun σ H R => ta σ H fun vs H1 => ∃ a b xs ys, vs = [.ref a, .ref b] ∧ SqT K H1 a xs ∧ SqL K H1 b ys ∧ R (ItzM K a b) H1
theorem pi_zipM {X : Cx} {e e2 : Expr} {ta : TA} {p pos tpos : Pos} {elts : List Expr} {kk : Nat} (hg : Gl X "zip") (hm : X.mg "zip" = none) (ha : PA X [e, e2] ta)
    (hs : starEach [e, e2] X.env = (false, eval e X.env) :: starEach [e2] X.env := by rfl) (hpl : (backTo pos (starEach [e2] X.env)).any (·.1) = false := by rfl) :
    PI X (.Tuple elts kk tpos) (.Call (.Name "zip" p) [e, e2] [] pos) (iZipM X.K ta) := by
  refine ⟨fun pins s σ H R I h => Call_ (ld_blt I hg hm PyProof.Rows.boot_zip (PyProof.Rows.callWith_type1 (thn (ha.run pos pins s σ H _ I h) fun us s1 ⟨vs, H1, I1, r1, q1⟩ => ?_) hs hpl))⟩
  obtain ⟨a, b, xs, ys, rfl, hqx, hqy, q⟩ := q1
  obtain ⟨u1, u2, rfl, r, r'⟩ := r1.two
  cases r
  cases r'
  obtain ⟨its, rv, p1, _⟩ := I1.tuple hqx
  obtain ⟨its2, rv2, p2, _⟩ := I1.list hqy
  have la : a < s1.heap.objs.size := by obtain ⟨_, q, _⟩ := p1; exact Heap.lt_size q
  have lb : b < s1.heap.objs.size := p2.lt
  refine zip_begins2 (begins_tuple a its.toArray) (begins_list b its2.toArray) p1 p2.isList fun h' hz hTI hTO h1 h2 hsz hk => wpAny_pyIter_zip hz ?_
  have I2 : Inv X pins σ H1 { s1 with heap := h' } := I1.kept (t' := s1.toks) hk
  refine ⟨s1.heap.objs.size + 4, [s1.heap.objs.size + 4, s1.heap.objs.size + 2, s1.heap.objs.size + 3, s1.heap.objs.size, s1.heap.objs.size + 1], _, _, H1, rfl, I2, turn_zipM (sep_zip _ _ _ la lb) (Nat.ne_of_lt la) (Nat.ne_of_lt (Nat.lt_succ_of_lt lb)), ⟨hz, hTI, ⟨_, _, hTO⟩, ⟨_, h1, rfl, rfl⟩, ⟨_, h2, rfl, rfl⟩⟩, fun c hcm => ?_, q⟩
  have hle : s1.heap.objs.size ≤ c := by
    have e' : c = s1.heap.objs.size + 4 ∨ c = s1.heap.objs.size + 2 ∨ c = s1.heap.objs.size + 3 ∨ c = s1.heap.objs.size ∨ c = s1.heap.objs.size + 1 := by simpa using hcm
    rcases e' with rfl | rfl | rfl | rfl | rfl
    · exact Nat.le_add_right _ _
    · exact Nat.le_add_right _ _
    · exact Nat.le_add_right _ _
    · exact Nat.le_refl _
    · exact Nat.le_add_right _ _
  exact I1.fpOk hle (I1.hok.fresh hle)
theorem walk_zipM {K : PySem.W.Frag} {a b : Addr} {xs ys : List V} (hl : xs.length = ys.length) : Walk (ItzM K a b) xs.length (fun H => SqT K H a xs ∧ SqL K H b ys) (YPair (fun i => xs[i]?) (fun i => ys[i]?)) where
  goes := fun i H hi q => ⟨xs, ys, q.1, q.2, hi, by omega⟩
  stops := fun H q => ⟨xs, ys, q.1, q.2, Nat.le_refl _, by omega, .inl rfl⟩
  yields := fun i H v H' _ q y => by
    obtain ⟨T, x, z, h1, h2, h3, h4, h5⟩ := y
    exact ⟨T, x, z, h1, h2, h3, h4 xs q.1, h5 ys q.2⟩
end TK

namespace TK
open PySem PySem.Spec PyProof.Rows L2
/-- a dict comprehension over whatever walks -/
theorem dc_it {J : It} {n : Nat} {G : Hp → Prop} {Y : Nat → Hp → V → Hp → Prop} (w : Walk J n G Y) {g : TG} {tt : TT} {tk tv : TE} {vs : List Nat} {σ : L2.St} {H1 : Hp} {D : Addr} {Qd : Hp → Prop} (Pv : Nat → Hp → Prop) (h0 : Pv 0 (upd H1 D (.dK []))) (hG : ∀ i H, i ≤ n → Pv i H → G H)
    (hs : ∀ i x H H', i < n → Pv i H → Y i H x H' → g x (wipe σ vs) H' fun σ2 H2 => wipe σ2 vs = wipe σ vs ∧ tt σ2 H2 fun b H3 =>
      if b = true then tk σ2 H3 fun y H4 => tv σ2 H4 fun z H5 => ∃ kvs k, y = kV k ∧ H5 D = some (.dK kvs) ∧ kvs.length < sizeLine ∧ Pv (i + 1) (upd H5 D (.dK (putK kvs k z))) else Pv (i + 1) H3) (hd : ∀ H, Pv n H → Qd H) :
    ∃ W : Nat → Nat → Hp → Prop, (∃ m, W 0 m (upd H1 D (.dK []))) ∧ ∀ i m H, W i m H →
      (J.stop i H ∧ Qd H) ∨ (J.go i H ∧ ∃ Nx : Hp → Prop, (∀ H', Nx H' → ∃ m', m' < m ∧ W (i + 1) m' H') ∧ ∀ x H', J.yld i H x H' → g x (wipe σ vs) H' fun σ2 H2 => wipe σ2 vs = wipe σ vs ∧ tt σ2 H2 fun b H3 =>
        if b = true then tk σ2 H3 fun y H4 => tv σ2 H4 fun z H5 => ∃ kvs k, y = kV k ∧ H5 D = some (.dK kvs) ∧ kvs.length < sizeLine ∧ Nx (upd H5 D (.dK (putK kvs k z))) else Nx H3) := by
  refine ⟨fun i m H => m = n - i ∧ i ≤ n ∧ Pv i H, ⟨n, by simp, Nat.zero_le _, h0⟩, ?_⟩
  rintro i m H ⟨rfl, hi, p⟩
  have q := hG i H hi p
  by_cases hlt : i < n
  · exact .inr ⟨w.goes i H hlt q, Pv (i + 1), fun H' p' => ⟨n - (i + 1), by omega, rfl, hlt, p'⟩, fun x H' y => hs i x H H' hlt p (w.yields i H x H' hlt q y)⟩
  · have e : i = n := by omega
    subst e
    exact .inl ⟨w.stops H q, hd H p⟩
end TK

namespace TK
open PySem PySem.Spec PyProof.Rows L2
section
variable {X : Cx}
/-- tuple(a list), the new tuple known to the object -/
theorem call_tuple_frz : CallR X (.type "tuple") (fun xs H Q => ∃ p ys, xs = [.ref p] ∧ SqL X.K H p ys ∧ ∀ (l : Addr) (o : Obj), H l = none → o.cls = .type "tuple" → o.dict = none → Q (.ref l) (upd H l (.frz o (.tup ys)))) := by
  intro pins s σ H xs us Q I r h
  obtain ⟨p, ys, rfl, hq, q⟩ := h
  obtain ⟨u, rfl, rx⟩ := vals1 r
  cases rx
  obtain ⟨its, r', pl, hz⟩ := I.list hq
  have hlen := r'.length
  refine call_tuple_list pl.isList (fun h' kp => ?_) (by simp only [List.size_toArray] <;> omega)
  have I1 : Inv X pins σ H { s with heap := h' } := I.kept (t' := s.toks) kp
  have I2 : Inv X pins σ (upd H h'.objs.size (.frz { cls := .type "tuple", data := .seq its.toArray } (.tup ys))) { s with heap := h'.push { cls := .type "tuple", data := .seq its.toArray } } :=
    I1.laid (t' := s.toks) (fun b o e => Heap.get?_push_of_some _ e) (Nat.le_refl _) (show ObjOk X.prog X.w _ _ _ (.frz _ (.tup ys)) from ⟨Heap.get?_push_size _ rfl, hz, its, r', IsTup.new _ _⟩)
  exact ⟨.ref h'.objs.size, _, I2, rfl, q _ _ (I1.hok.fresh (Nat.le_refl _)) rfl rfl⟩
/-- the value is such a tuple -/
def FrzT (x : V) (H : Hp) : Prop := ∃ p o xs, x = .ref p ∧ H p = some (.frz o (.tup xs)) ∧ o.cls = .type "tuple" ∧ o.dict = none
def tBMF (r : V → List V → Hp → VK → Prop) (to : TE) (t : TA) : TE := fun σ H Q => to σ H fun x H1 => FrzT x H1 ∧ t σ H1 fun xs H2 => r x xs H2 Q
variable {o e : Expr} {es : List Expr} {to : TE} {t : TA} {name : Str} {apos cpos : Pos} {id : String} {r : V → List V → Hp → VK → Prop}
theorem pe_bmF (pa : PlainAttrs "tuple") (slot : Slot "tuple" name id) (hty : typeOf (.builtin id) = pure (.type "method_descriptor")) (hm : MtR X id r) (ho : PE X o to) (ha : PA X (e :: es) t)
    (hbase : attributeBase o name X.env (eval o X.env) = eval o X.env := by rfl)
    (hfew : ((backTo cpos (starEach (e :: es) X.env)).all (fun x => !x.1) && (backToKw cpos (keywordEach [] X.env)).all (fun x => x.1.isSome)
      && decide ((e :: es).length + ([] : List Keyword).length + (if ([] : List Keyword).isEmpty then 0 else 1) < 30)) = true := by rfl)
    (hline : (apos.endLine == cpos.line) = true := by rfl) (hs : starEach (e :: es) X.env = (false, eval e X.env) :: starEach es X.env := by rfl) (hplain : (backTo cpos (starEach es X.env)).any (·.1) = false := by rfl) :
    PE X (.Call (.Attribute o name apos) (e :: es) [] cpos) (tBMF r to t) := by
  refine ⟨fun pins s σ H Q I h => ?_⟩
  refine wpAny_Call_method_late hbase hfew hline rfl (thn (ho.run pins s σ H _ I h) fun v s1 ⟨x, H1, I1, r1, ty, q1⟩ => ?_)
  have h12 : s1.TypeIs v "tuple" ∧ ∀ a, v = .ref a → ∃ ob, s1.heap.get? a = some ob ∧ ob.dict = none := by
    obtain ⟨p, ob, xs, rfl, hp, hc, hd⟩ := ty
    cases r1
    obtain ⟨eo, _⟩ := I1.hok p _ hp
    refine ⟨⟨ob, eo, hc⟩, fun a e => ?_⟩
    cases e
    exact ⟨ob, eo, hd⟩
  refine ⟨"tuple", id, pa, slot, hty, h12.1, h12.2, ?_⟩
  have hA := ha.run cpos pins s1 σ H1 _ I1 q1
  rw [hs] at hA ⊢
  refine Calls.callWith_builtin (by show (false || (backTo cpos (starEach es X.env)).any (·.1)) = false; rw [hplain] <;> rfl) (Calls.evalArgs_plain ?_)
  exact thn hA fun us s2 ⟨vs, H2, I2, r2, q2⟩ => hm pins s2 σ H2 x vs v us Q I2 r1 r2 q2
end
theorem tupFrz {K : PySem.W.Frag} {H : Hp} {a : Addr} {o : Obj} {xs : List V} (h : H a = some (.frz o (.tup xs))) : SqT K H a xs := .inl (.inr ⟨o, h⟩)
end TK

namespace TK
open PySem PySem.Spec PyProof.Rows L2
/-! ### the special methods of an own class -/
structure Own (K : PySem.W.Frag) (C : Addr) (name : Str) (g : Addr) : Prop where
  at_ : PySem.W.findIn K (.ref C) name = some (some (.ref g))
  fn : PySem.W.isFn K (.ref g) = true
def IsIn (H : Hp) (x : V) (C : Addr) : Prop := ∃ a dx fs, x = .ref a ∧ H a = some (.ins C dx fs)
section
variable {X : Cx} {CX : CXT} {C g : Addr} {n : Nat} {fd : FuncData} {ps : List Str} {sp : Sp} {E : XK} {pins : List (Addr × Obj)} {σ : L2.St} {H : Hp} {s : Shared}
theorem run_own {A : Around} {Q : VK} {us : List Value} {vs : List V} (F : FnOk X.prog X.w X.K X.mg X.base CX n g fd ps sp) (hr : Room n A) (e0 : Env0 X.prog X.w X.K X.mg X.base A X.stack s H) (hb : Binds X.K fd ps []) (hx : Passes CX X E)
    (I : Inv X pins σ H s) (r : Vals vs us) (h : sp vs H Q E) : wpAny (model X.prog X.w) A (call (.ref g) us) (EP X pins σ Q) X.xe s := by
  have hl : (us ++ []).length = ps.length := by rw [List.append_nil, ← r.length]; exact F.len _ _ _ _ h
  have hbb := hb s us I.kIn hl
  rw [List.append_nil] at hbb
  refine wpAny_call (codeAny_mono (F.run A X.stack s H ⟨us, []⟩ us vs Q E hr e0 hbb r h) fun r s' hq => ?_)
  cases r with
  | error e => exact hx pins σ H s e s' I hq
  | ok fl =>
    cases fl with
    | ret u => exact I.after hq
    | next => exact False.elim hq
    | brk => exact False.elim hq
    | cont => exact False.elim hq
theorem own_at {a dx : Addr} {fs : List (Str × V)} (I : Inv X pins σ H s) (h : H a = some (.ins C dx fs)) : ∃ ox od, PySem.W.InstAt s.heap a ox C od := by
  obtain ⟨mA, J, _⟩ := ins_get I.hok h
  obtain ⟨od, J, _⟩ := J.look
  exact ⟨_, _, J⟩
/-! o[k] -/
def rOwn (C : Addr) (sp : Sp) (E : XK) : R2 := fun x y H Q => IsIn H x C ∧ sp [x, y] H Q E
def PlainIxO (b : Expr) : Prop := ∀ (x : Addr) (i : Value), subscripted b true (.ref x) i = runValue (.builtin "lifetime.subscript" ⟨[.ref x, i], []⟩)
theorem pe_ixOwn {a b : Expr} {ta tb : TE} {pos : Pos} (c : Own X.K C "__getitem__" g) (cf : PySem.W.fnIn X.K g = true) (F : FnOk X.prog X.w X.K X.mg X.base CX n g fd ps sp) (hr : Room (n + 1) X.A) (hb : Binds X.K fd ps []) (hx : Passes CX X E)
    (ha : PE X a ta) (hb' : PE X b tb) (hs : PlainIxO b) : PE X (.Subscript a b pos) (tOp (rOwn C sp E) ta tb) := by
  refine ⟨fun pins s σ H Q I h => ?_⟩
  refine Subscript_ (binT ha hb' I h fun v u s2 x y H2 I2 rx ry q => ?_)
  obtain ⟨⟨p, dx, fs, rfl, hp⟩, q⟩ := q
  cases rx
  obtain ⟨ox, od, J⟩ := own_at I2 hp
  obtain ⟨m, hF⟩ := I2.fr
  exact PySem.W.sub_K hF I2.ok.mod.kin J c.at_ cf c.fn (run_own F hr.in1 I2.env0.in1 hb hx I2 (vs := [.ref p, y]) (.cons rfl (.cons ry .nil)) q) (hs _ _)
/-! o + p, o * p, o | p: two of one class -/
def rOwn2 (C : Addr) (sp : Sp) (E : XK) : R2 := fun x y H Q => IsIn H x C ∧ IsIn H y C ∧ sp [x, y] H Q E
theorem op_ownBin {op : Operator} (c : Own X.K C (PySem.dunder op.info.2) g) (sf : PySem.W.selfFirst X.K C = true) (F : FnOk X.prog X.w X.K X.mg X.base CX n g fd ps sp) (hr : Room n X.A) (hb : Binds X.K fd ps []) (hx : Passes CX X E) :
    OpR X (binaryOp op) (rOwn2 C sp E) := by
  intro pins s σ H x y v u Q I rx ry h
  obtain ⟨⟨a, dx, fs, rfl, ha⟩, ⟨b, dy, gs, rfl, hb'⟩, q⟩ := h
  cases rx
  cases ry
  obtain ⟨ox, od, J⟩ := own_at I ha
  obtain ⟨ox', od', J'⟩ := own_at I hb'
  obtain ⟨m, hF⟩ := I.fr
  refine PySem.W.binop_K hF I.ok.mod.kin J J'.type sf c.at_ c.fn (wpAny_mono (run_own F hr I.env0 hb hx I (vs := [.ref a, .ref b]) (.cons rfl (.cons rfl .nil)) q) (fun w s' z => ?_) fun _ _ x => x)
  obtain ⟨z', H', I', rz, qz⟩ := z
  exact SlX.cmpback rz ⟨z', H', I', rz, qz⟩
/-! o == p: two of one class -/
theorem op_ownEq {op : CmpOp} (hop : ∀ a b, compareOp op a b = richCompare op a b) (c : Own X.K C (cmpInfo op).2.1 g) (F : FnOk X.prog X.w X.K X.mg X.base CX n g fd ps sp) (hr : Room n X.A) (hb : Binds X.K fd ps []) (hx : Passes CX X E) :
    OpR X (compareOp op) (rOwn2 C sp E) := by
  intro pins s σ H x y v u Q I rx ry h
  obtain ⟨⟨a, dx, fs, rfl, ha⟩, ⟨b, dy, gs, rfl, hb'⟩, q⟩ := h
  cases rx
  cases ry
  obtain ⟨ox, od, J⟩ := own_at I ha
  obtain ⟨ox', od', J'⟩ := own_at I hb'
  obtain ⟨m, hF⟩ := I.fr
  rw [hop]
  refine PySem.W.cmp_K (op := op) (tb := .ref C) hr.units0 hF I.ok.mod.kin J J'.type (by simp [PySem.W.notFirst]) c.at_ c.fn (wpAny_mono (run_own F hr I.env0 hb hx I (vs := [.ref a, .ref b]) (.cons rfl (.cons rfl .nil)) q) (fun w s' z => ?_) fun _ _ x => x)
  obtain ⟨z', H', I', rz, qz⟩ := z
  exact SlX.cmpback rz ⟨z', H', I', rz, qz⟩
/-! x in o, x not in o -/
def rOwnIn (neg : Bool) (C : Addr) (sp : Sp) (E : XK) : R2 := fun x y H Q => IsIn H y C ∧ sp [y, x] H (fun z H' => ∃ b, z = .bl b ∧ Q (.bl (if neg then !b else b)) H') E
theorem op_ownIn (c : Own X.K C "__contains__" g) (F : FnOk X.prog X.w X.K X.mg X.base CX n g fd ps sp) (hr : Room n X.A) (hb : Binds X.K fd ps []) (hx : Passes CX X E) : OpR X (compareOp .In) (rOwnIn false C sp E) := by
  intro pins s σ H x y v u Q I rx ry h
  obtain ⟨⟨a, dx, fs, rfl, ha⟩, q⟩ := h
  cases ry
  obtain ⟨ox, od, J⟩ := own_at I ha
  obtain ⟨m, hF⟩ := I.fr
  refine PySem.W.in_K hF I.ok.mod.kin J c.at_ c.fn (wpAny_mono (run_own F hr I.env0 hb hx I (vs := [.ref a, x]) (.cons rfl (.cons rx .nil)) q) (fun w s' z => ?_) fun _ _ x => x)
  obtain ⟨z', H', I', rz, b, rfl, qz⟩ := z
  cases (show w = Value.bool b from rz)
  exact wpAny_truthy_bool ⟨.bl b, H', I', rfl, by simpa using qz⟩
theorem op_ownNotIn (c : Own X.K C "__contains__" g) (F : FnOk X.prog X.w X.K X.mg X.base CX n g fd ps sp) (hr : Room n X.A) (hb : Binds X.K fd ps []) (hx : Passes CX X E) : OpR X (compareOp .NotIn) (rOwnIn true C sp E) := by
  intro pins s σ H x y v u Q I rx ry h
  obtain ⟨⟨a, dx, fs, rfl, ha⟩, q⟩ := h
  cases ry
  obtain ⟨ox, od, J⟩ := own_at I ha
  obtain ⟨m, hF⟩ := I.fr
  refine PySem.W.notIn_K hF I.ok.mod.kin J c.at_ c.fn (wpAny_mono (run_own F hr I.env0 hb hx I (vs := [.ref a, x]) (.cons rfl (.cons rx .nil)) q) (fun w s' z => ?_) fun _ _ x => x)
  obtain ⟨z', H', I', rz, b, rfl, qz⟩ := z
  cases (show w = Value.bool b from rz)
  exact wpAny_truthy_bool ⟨.bl (!b), H', I', rfl, by simpa using qz⟩
/-! len(o) -/
def rOwnLen (C : Addr) (sp : Sp) (E : XK) : List V → Hp → VK → Prop := fun xs H Q => ∃ x, xs = [x] ∧ IsIn H x C ∧ sp [x] H (fun z H' => ∃ k : Nat, z = .int k ∧ k < 2 ^ 63 ∧ Q z H') E
theorem call_ownLen (c : Own X.K C "__len__" g) (F : FnOk X.prog X.w X.K X.mg X.base CX n g fd ps sp) (hr : Room (n + 1) X.A) (hb : Binds X.K fd ps []) (hx : Passes CX X E) : CallR X (.builtin "len") (rOwnLen C sp E) := by
  intro pins s σ H xs us Q I r h
  obtain ⟨x, rfl, ⟨a, dx, fs, rfl, ha⟩, q⟩ := h
  obtain ⟨u, rfl, ru⟩ := vals1 r
  cases ru
  obtain ⟨ox, od, J⟩ := own_at I ha
  obtain ⟨m, hF⟩ := I.fr
  refine PySem.W.len_K hF I.ok.mod.kin J c.at_ c.fn (wpAny_mono (run_own F hr.in1 I.env0.in1 hb hx I (vs := [.ref a]) (.cons rfl .nil) q) (fun w s' z => ?_) fun _ _ x => x)
  obtain ⟨z', H', I', rz, k, rfl, hk, qz⟩ := z
  obtain ⟨t, rfl⟩ := (show ∃ t, w = Value.int k t from rz)
  exact ⟨⟨by omega, by omega⟩, .int k, H', I'.tok _, ⟨_, rfl⟩, qz⟩
/-! iter(t), t a tuple; for x in o -/
abbrev itTObj (t : Addr) (i : Nat) : Obj := { cls := .type "tuple_iterator", data := .fields #[.ref t, .int i 0] }
def ItT (t it : Addr) : HO := .ext fun h => h.get? it = some (itTObj t 0)
theorem itT_ok {P : Program} {w : World} {H : Hp} {h : Heap} {t it : Addr} (e : h.get? it = some (itTObj t 0)) : ObjOk P w H h it (ItT t it) := ⟨e, ⟨_, e⟩, fun h1 h2 q k => k _ q⟩
theorem call_iterT : CallR X (.builtin "iter") (fun xs H Q => ∃ (l : Addr) (zs : List V), xs = [.ref l] ∧ SqT X.K H l zs ∧ ∀ it, H it = Option.none → X.s_0.heap.objs.size ≤ it → Q (.ref it) (upd H it (ItT l it))) := by
  intro pins s σ H xs us Q I r h
  obtain ⟨l, zs, rfl, hq, q⟩ := h
  obtain ⟨u, rfl, ru⟩ := vals1 r
  cases ru
  obtain ⟨its, rv, p, hz⟩ := I.tuple hq
  refine Calls.call_function_entry (by decide +kernel) (by decide +kernel) PySem.W.kdk_entry_iter (PySem.W.kdk_args_iter _) ?_
  unfold Builtin.«iter»
  refine wpAny_bind (m := someArgs "iter" 1 2 _) (wpAny_of_eq (a := [Value.ref l]) (by first | rfl | kernel_rfl!) ?_)
  show wpAny _ _ (pyIter (.ref l) >>= _) _ _ _
  refine wpAny_bind (wpAny_pyIter_tuple (show s.heap.IsTuple l its.toArray from p) ?_)
  exact wpAny_pure ⟨_, rfl, .ref s.heap.objs.size, _, I.laid (t' := s.toks) (fun b u e => Heap.get?_push_of_some _ e) (Nat.le_refl _) (itT_ok (Heap.get?_push_size _ rfl)), rfl, q _ (I.hok.fresh (Nat.le_refl _)) I.sz⟩
/-- what an __iter__ over a tuple does -/
def QIt (H : Hp) (n : Nat) (t : Addr) : VK := fun v H' => ∃ it, v = .ref it ∧ H it = Option.none ∧ n ≤ it ∧ H' = upd H it (ItT t it)
end
def FnIt (P : Program) (w : World) (K : PySem.W.Frag) (mg : Str → Option Value) (base : Heap) (k : Nat) (f : Addr) (R : Addr → Addr → Hp → Prop) : Prop :=
  ∀ (A : Around) (outer : List Env) (s : Shared) (H : Hp) (a t : Addr), Room k A → Env0 P w K mg base A outer s H → R a t H → codeAny (model P w) A (.call (.ref f) ⟨[.ref a], []⟩) (CR CX0 outer P w H s (QIt H s.heap.objs.size t) E0) s
theorem fnIt_of {P : Program} {w : World} {K : PySem.W.Frag} {mg : Str → Option Value} {base : Heap} {k : Nat} {f : Addr} {x qual : Str} {st : Stmt} {fd : FuncData} {N : List Str} {R : Addr → Addr → Hp → Prop} (F : Fun K x qual st f fd) (S : FnScope N ["self"] (defScope st)) (b : Binds K fd ["self"] [])
    (hbody : ∀ (cdv : Value) (A : Around) (outer : List Env) (s : Shared) (H : Hp) (a t : Addr), Room k (A.deeper (envOfC qual (defScope st) s.heap.objs.size f cdv)) → R a t H →
      ∃ tt, PSs (cxOf CX0 P w K mg base N qual (defScope st) f cdv A outer s H E0).nox (defBody st) tt ∧ tt { nx := fun _ H' => QIt H s.heap.objs.size t .non H', rt := QIt H s.heap.objs.size t } (start N [.ref a]) H) : FnIt P w K mg base (k + 1) f R := by
  intro A outer s H a t hr e0 hR
  obtain ⟨oc, od, kV, doc, pm, an, cdv, ct, osl, rfl, lk, hcd⟩ := F.ex
  have KX : K.In s.heap := e0.mod.kin.keeps fun b o e => (e0.bs b o e).1
  have lim : s.heap.NoLimit := e0.mod.nolimit.keeps fun b o e => (e0.bs b o e).1
  have hkind : ∀ y ∈ ([Str.ofString "self"] : List Str).zip [Value.ref a], (defScope st).names.lookup y.1 = some .local ∨ ((defScope st).names.lookup y.1 = some .cell ∧ ((cellsFrom (s.heap.objs.size + 1) (defScope st).names []).lookup y.1).isSome = true) := fun ⟨n, v⟩ hy => by
    rcases S.par n (List.of_mem_zip hy).1 with q | q
    · exact .inl q
    · exact .inr ⟨q, PySem.W.cellsFrom_some _ _ _ (.inl q)⟩
  have hbb := b s [.ref a] KX (by simp)
  rw [List.append_nil] at hbb
  refine codeAny_call_function hr.depth (KX _ _ lk) rfl S.co S.gen rfl (PySem.W.codeRec_of KX hcd) (hbb _ _ _ _ ?_)
  refine wpAny_newFunctionEnv_cells S.kind hkind fun env he s1 x => ?_
  subst he
  refine ⟨lim.keeps x.toInCall.keep, codeAny_func ?_⟩
  obtain ⟨t', ht, hq⟩ := hbody cdv A outer s H a t (hr.deeper _) hR
  have I : Inv (cxOf CX0 P w K mg base N qual (defScope st) f cdv A outer s H E0) [] (start N [V.ref a]) H s1 := inv_start S hr.hd e0 rfl (.cons rfl .nil) x
  refine wpAny_mono (ht.nox.run [] s1 (start N [V.ref a]) H _ I hq) (fun fl s' hs => ?_) fun e s' hs => hs
  have fin : ∀ {σ' : L2.St} {H' : Hp} {v : V} {u : Value}, Inv (cxOf CX0 P w K mg base N qual (defScope st) f cdv A outer s H E0) [] σ' H' s' → RelV v u → QIt H s.heap.objs.size t v H' → CE outer P w H s (QIt H s.heap.objs.size t) u s' :=
    fun {σ' H' v u} J rv q => ⟨v, H', J.os, J.bare, J.base, J.hok, rv, q⟩
  cases fl with
  | ret u =>
    obtain ⟨v, σ', H', J, rv, q⟩ := hs
    exact fin J rv q
  | next =>
    obtain ⟨σ', H', J, q⟩ := hs
    exact fin (v := V.non) (u := Value.none) J rfl q
  | brk =>
    obtain ⟨_, _, _, q⟩ := hs
    exact False.elim q
  | cont =>
    obtain ⟨_, _, _, q⟩ := hs
    exact False.elim q
section
variable {X : Cx} {CX : CXT} {C g : Addr} {n : Nat} {fd : FuncData} {ps : List Str} {sp : Sp} {E : XK} {pins : List (Addr × Obj)} {σ : L2.St} {H : Hp} {s : Shared}
def iOwn (K : PySem.W.Frag) (C : Addr) (R : Addr → Addr → Hp → Prop) (te : TE) : TI := fun σ H Z => te σ H fun x H1 => ∃ a dx fs t, x = .ref a ∧ H1 a = some (.ins C dx fs) ∧ R a t H1 ∧ (∃ xs, SqT K H1 t xs) ∧ Z (Itt K t) H1
theorem pi_own {R : Addr → Addr → Hp → Prop} {e tg : Expr} {te : TE} (c : Own X.K C "__iter__" g) (F : FnIt X.prog X.w X.K X.mg X.base n g R) (hr : Room n X.A) (he : PE X e te) : PI X tg e (iOwn X.K C R te) := by
  refine ⟨fun pins s σ H Z I h => ?_⟩
  refine thn (he.run pins s σ H _ I h) fun v s1 ⟨x, H1, I1, r1, q1⟩ => ?_
  obtain ⟨a, dx, fs, t, rfl, ha, hR, ⟨xs, hxs⟩, q⟩ := q1
  cases r1
  obtain ⟨ox, od, J⟩ := own_at I1 ha
  obtain ⟨m, hF⟩ := I1.fr
  refine PySem.W.owit_iter hF I1.ok.mod.kin J c.at_ c.fn ?_
  refine wpAny_call (codeAny_mono (F X.A X.stack s1 H1 a t hr I1.env0 hR) fun r s' hq => ?_)
  cases r with
  | error e => exact False.elim hq
  | ok fl =>
    cases fl with
    | ret u =>
      obtain ⟨z, H2, os, bare, un, hok, rz, it, rfl, hn, hge, rfl⟩ := id hq
      have I2 : Inv X pins σ (upd H1 it (ItT t it)) s' := I1.call' os un hok bare (fun b z => absurd z (by simp))
      cases rz
      have hget : s'.heap.get? it = some (itTObj t 0) := (I2.hok it _ upd_same).1
      have hT : s'.TypeIs (.ref it) "tuple_iterator" := ⟨_, hget, rfl⟩
      have hi : (upd H1 it (ItT t it)) it = some (.ext fun h => h.get? it = some (itTObj t 0)) := upd_same
      have I3 := ItX.inv_drop I2 hi
      have e3 : ItX.dropH (upd H1 it (ItT t it)) it = H1 := ItX.dropH_upd hn
      have fp := ItX.inv_fp I2 hi (Nat.le_trans I1.sz hge)
      rw [e3] at I3 fp
      unfold PySem.W.OwitIt
      refine wpAny_specialOf (name := Str.ofString "__next__") hT PySem.F.slot_tuple_iterator_next.lookup ?_
      refine ⟨it, [it], _, _, H1, rfl, I3, turn_tuple t it, ⟨_, hget, rfl, rfl⟩, fun b hb => ?_, q⟩
      cases List.mem_singleton.mp hb
      exact fp
    | next => exact False.elim hq
    | brk => exact False.elim hq
    | cont => exact False.elim hq
end
end TK

namespace TK
open PySem PySem.Calls PySem.Spec PyProof.Rows PyProof.V L2
/-! ### two dicts with tuples as keys, equal whatever the order -/
section
variable {prog : Program} {w : World} {K : Type} [DecidableEq K] {knd : HeapKind prog w K} {A : Around} {E : Value → Shared → Prop} {s : Shared}
theorem samePairsH {nm : String} {a b : Addr} {ka kb : List (K × Addr × Value)} {Q : Bool → Shared → Prop} (hu : knd.room A) (ha : (a == sysModules) = false) (hb : (b == sysModules) = false)
    (da : s.heap.DictOfH knd a ka) (db : s.heap.DictOfH knd b kb) (hl : ka.length = kb.length) (hits : ∀ x ∈ ka, ∃ p, atKey kb x.1 = some p ∧ SeqAt.EqAt A s x.2.2 p.2 true) (h : Q true s) :
    wpAny (model prog w) A (Builtin.Dict.samePairs nm a b) Q E s := by
  obtain ⟨oa, es, ep, hoa, _, hda, hea, hia, _⟩ := da
  obtain ⟨ob, es', ep', hob, _, hdb, heb, hib, hnb⟩ := db
  have hla : ka.length = es.size := (size_of_entries hea).symm
  have hlb : kb.length = es'.size := (size_of_entries heb).symm
  have hsz : es.size = es'.size := by omega
  unfold Builtin.Dict.samePairs Builtin.Dict.showsAll
  rw [if_neg (show ¬ (a == sysModules) = true by rw [ha]; exact Bool.false_ne_true), if_neg (show ¬ (b == sysModules) = true by rw [hb]; exact Bool.false_ne_true)]
  refine wpAny_bind (wpAny_pure (wpAny_bind (wpAny_pure ?_)))
  refine wpAny_bind (wpAny_dictEntries hoa hda ?_)
  dsimp only
  refine wpAny_bind (wpAny_dictEntries hob hdb ?_)
  rw [if_neg (by rw [hsz]; simp)]
  refine wpAny_bind (wpAny_dictEpoch hoa hda ?_)
  refine wpAny_bind ?_
  rw [Std.Legacy.Range.forIn_eq_forIn_range']
  simp only [Std.Legacy.Range.size, Nat.sub_zero, Nat.add_sub_cancel, Nat.div_one]
  refine wpAny_forIn_list _
    (fun rest q s' => s' = s ∧ q = (none, ()) ∧ ∃ i, rest = List.range' i (es.size - i) ∧ i ≤ es.size)
    _ ?_ ?_ _ _ ⟨rfl, rfl, 0, by simp, Nat.zero_le _⟩
  · rintro x rest q s' ⟨rfl, rfl, i, hr, hi⟩
    have hlt : i < es.size := by
      rcases Nat.lt_or_ge i es.size with h | h
      · exact h
      · rw [Nat.sub_eq_zero_of_le h] at hr; simp at hr
    obtain ⟨rfl, hrest⟩ : x = i ∧ rest = List.range' (i + 1) (es.size - (i + 1)) := by
      have e : es.size - i = (es.size - (i + 1)) + 1 := by omega
      rw [e, List.range'_succ] at hr
      injection hr with h1 h2
      exact ⟨h1, h2⟩
    refine wpAny_bind (wpAny_dictEntries hoa hda ?_)
    have hlt' : x < ka.length := by rw [hla]; exact hlt
    have hent : es[x]? = some (entryOfKey knd ka[x]) := by rw [entry_at hea x, List.getElem?_eq_getElem hlt']; rfl
    rw [hent]
    obtain ⟨p, hp, heq⟩ := hits ka[x] (List.getElem_mem hlt')
    have hkey := hia ka[x] (List.getElem_mem hlt')
    show wpAny _ _ (holding [(entryOfKey knd ka[x]).key, (entryOfKey knd ka[x]).val] _ >>= _) _ _ _
    refine wpAny_bind (wpAny_holding (wpAny_bind (wpAny_dictFind_heap hu hkey hob hdb heb hib hnb ?_ ?_)))
    · intro hno
      rw [atKey_none_of_get hno] at hp
      exact nomatch hp
    · intro j p' hj
      have ep' : p' = p := Option.some.inj ((atKey_of_get hnb hj).symm.trans hp)
      subst ep'
      refine wpAny_bind (wpAny_dictEntries hob hdb ?_)
      rw [entry_at heb j, hj]
      refine wpAny_holding (heq prog w _ _ ?_)
      show wpAny _ _ (if (!true) = true then _ else _) _ _ _
      rw [if_neg (by decide)]
      refine wpAny_bind (wpAny_dictEpoch hoa hda ?_)
      rw [if_neg (by simp)]
      exact wpAny_pure ⟨rfl, rfl, x + 1, hrest, hlt⟩
  · rintro q s' ⟨rfl, rfl, i, hr, hi⟩
    refine wpAny_pure ?_
    exact h
theorem eqDictH {a b : Addr} {ka kb : List (K × Addr × Value)} {Q : Value → Shared → Prop} (hr : knd.room A.in1) (ha : (a == sysModules) = false) (hb : (b == sysModules) = false)
    (da : s.heap.DictOfH knd a ka) (db : s.heap.DictOfH knd b kb) (hu : A.units < cLine) (hl : ka.length = kb.length) (hits : ∀ x ∈ ka, ∃ p, atKey kb x.1 = some p ∧ SeqAt.EqAt A.in1 s x.2.2 p.2 true) (h : Q (.bool true) s) :
    wpAny (model prog w) A (compareOp .Eq (.ref a) (.ref b)) Q E s := by
  refine wpAny_richCompare_same_room (op := .Eq) da.typeIs db.typeIs PySem.F.slot_dict_eq (wpAny_call_entry PySem.F.slot_dict_eq da.typeIs PySem.F.entry_dict_eq ?_ (PySem.F.args_dict_eq_2 _ _)) hu
  show wpAny _ _ (Builtin.Dict.dictSlotArgs "__eq__" ⟨[.ref a, .ref b], []⟩ >>= _) _ _ s
  refine wpAny_bind ?_
  unfold Builtin.Dict.dictSlotArgs
  refine wpAny_bind (wpAny_notOrdered_dict da.typeIs ?_)
  show wpAny _ _ (pure (Value.ref a, Value.ref b)) _ _ s
  refine wpAny_pure ?_
  refine wpAny_bind (wpAny_isInstance (T := "dict") db.typeIs PySem.F.sub_dict_dict ?_)
  simp only [Bool.not_true, Bool.false_eq_true, if_false]
  refine wpAny_bind (wpAny_pure (wpAny_bind (wpAny_pure ?_)))
  refine wpAny_bind (samePairsH hr ha hb da db hl hits ?_)
  refine wpAny_pure ⟨_, rfl, ?_, ?_⟩
  · exact fun x => nomatch x
  · simpa using h
end
section
variable {X : Cx}
def rEqDT : R2 := fun x y H Q => ∃ a b ks ls, x = .ref a ∧ y = .ref b ∧ H a = some (.dT ks) ∧ H b = some (.dT ls) ∧ ks.length = ls.length ∧ (∀ p ∈ ks, valV ls p.1 = some p.2 ∧ flatB p.2 = true) ∧ Q (.bl true) H
theorem hitsT {H : Hp} {A : Around} {s : Shared} {ls : List (List Key × V)} {xb : List (List Key × Addr × Value)} (rb : KT H ls xb) {ks : List (List Key × V)} {xa : List (List Key × Addr × Value)} (ra : KT H ks xa) :
    (∀ p ∈ ks, valV ls p.1 = some p.2 ∧ flatB p.2 = true) → ∀ x ∈ xa, ∃ p, atKey xb x.1 = some p ∧ SeqAt.EqAt A s x.2.2 p.2 true := by
  unfold KT at ra
  induction ra with
  | nil => intro _ x h; exact absurd h List.not_mem_nil
  | @cons p q ps qs h t ih =>
    intro hp x hx
    rcases List.mem_cons.mp hx with rfl | hx
    · obtain ⟨h1, _, h2⟩ := h
      obtain ⟨e, f⟩ := hp p List.mem_cons_self
      have rr : RelO (some p.2) ((atKey xb p.1).map (·.2)) := by rw [← e]; exact rb.val p.1
      obtain ⟨y, hy, ry⟩ := rr.some_of
      obtain ⟨z, hz, rfl⟩ := Option.map_eq_some_iff.mp hy
      exact ⟨z, by rw [← h1]; exact hz, eqAt_same h2 ry f⟩
    · exact ih (fun p' hm => hp p' (List.mem_cons_of_mem _ hm)) x hx
theorem op_eq_dictT (hu : X.A.units + 1 < cLine) : OpR X (compareOp .Eq) rEqDT := by
  intro pins s σ H x y v u Q I rx ry h
  obtain ⟨a, b, ks, ls, rfl, rfl, ea, eb, hlen, hp, q⟩ := h
  obtain rfl : v = Value.ref a := rx
  obtain rfl : u = Value.ref b := ry
  obtain ⟨_, ya, va, ra, da⟩ := dt_rd I.hok (.inl ea)
  obtain ⟨_, yb, vb, rb, db⟩ := dt_rd I.hok (.inl eb)
  have hl : va.length = vb.length := by rw [← Paired.length ra, ← Paired.length rb]; exact hlen
  exact eqDictH (tupleKind_room_in1 hu) ya yb da db (Nat.lt_of_succ_lt hu) hl (hitsT rb ra hp) (fin_bl I q rfl)
end
end TK

namespace TK
open PySem PySem.Spec PyProof.Rows L2
/-- any loop of a comprehension over whatever walks (for two generators: one time each) -/
theorem walk_go {J : It} {n : Nat} {G : Hp → Prop} {Y : Nat → Hp → V → Hp → Prop} (w : Walk J n G Y) {H0 : Hp} {Qd : Hp → Prop} {body : (Hp → Prop) → V → Hp → Prop} (Pv : Nat → Hp → Prop) (h0 : Pv 0 H0) (hG : ∀ i H, i ≤ n → Pv i H → G H)
    (hs : ∀ i x H H', i < n → Pv i H → Y i H x H' → body (Pv (i + 1)) x H') (hd : ∀ H, Pv n H → Qd H) :
    ∃ W : Nat → Nat → Hp → Prop, (∃ m, W 0 m H0) ∧ ∀ i m H, W i m H →
      (J.stop i H ∧ Qd H) ∨ (J.go i H ∧ ∃ Nx : Hp → Prop, (∀ H', Nx H' → ∃ m', m' < m ∧ W (i + 1) m' H') ∧ ∀ x H', J.yld i H x H' → body Nx x H') := by
  refine ⟨fun i m H => m = n - i ∧ i ≤ n ∧ Pv i H, ⟨n, by simp, Nat.zero_le _, h0⟩, ?_⟩
  rintro i m H ⟨rfl, hi, p⟩
  have q := hG i H hi p
  by_cases hlt : i < n
  · exact .inr ⟨w.goes i H hlt q, Pv (i + 1), fun H' p' => ⟨n - (i + 1), by omega, rfl, hlt, p'⟩, fun x H' y => hs i x H H' hlt p (w.yields i H x H' hlt q y)⟩
  · have e : i = n := by omega
    subst e
    exact .inl ⟨w.stops H q, hd H p⟩
theorem pe_fldK {X : Cx} {K : PySem.W.Frag} {e : Expr} {f : Str} {pos : Pos} {ta : TE} (h : X.K = K) (he : PE X e ta) (hb : attributeBase e f X.env (eval e X.env) = eval e X.env) : PE X (.Attribute e f pos) (tFld K ta f) := h ▸ pe_fld he hb
theorem pi_tupK {X : Cx} {K : PySem.W.Frag} {tg e : Expr} {te : TE} (h : X.K = K) (he : PE X e te) : PI X tg e (iTup K te) := h ▸ pi_tup he
end TK

/-! list(o), o an own object whose __iter__ gives the iterator of a tuple, with a __len__ -/
namespace TK
open PySem PySem.Spec PyProof.Rows L2
theorem sqT_upd {K : PySem.W.Frag} {H : Hp} {t q : Addr} {o : HO} {xs : List V} (h : SqT K H t xs) (hq : H q = none) : SqT K (upd H q o) t xs := by
  rcases h with (h | ⟨o', h⟩) | h
  · exact .inl (.inl (by rw [upd_ne (ne_of_none h hq)]; exact h))
  · exact .inl (.inr ⟨o', by rw [upd_ne (ne_of_none h hq)]; exact h⟩)
  · exact .inr h
theorem big1000 : 1000 < sizeLine := by rw [sizeLine_eq]; decide
section
variable {X : Cx} {C gi gl : Addr} {n : Nat} {fdL : FuncData} {spL : Sp} {CX : CXT} {E : XK} {pins : List (Addr × Obj)} {σ : L2.St} {H : Hp} {s : Shared}
theorem tup_loop {A1 : Around} (hd : A1.in1.handled = none) {t it q : Addr} {xs : List V} {Rs : Result → Shared → Prop} (hq : H q = none) (hT : SqT X.K H t xs) (hx : xs.length ≤ 1000) (iq : it ≠ q)
    (hdone : ∀ s, Inv X pins σ (upd H q (.lst xs)) s → Rs (.ok (.ret .none)) s) (hf : FpOk X pins (upd H q (.lst [])) it) :
    ∀ (k i : Nat) (s : Shared), xs.length - i = k → i ≤ xs.length → Inv X pins σ (upd H q (.lst (xs.take i))) s → s.heap.IsTupleIter it t i → codeAny (model X.prog X.w) A1 (.builtin "list.extend.loop" ⟨[.ref q, .ref it, .none], []⟩) Rs s := by
  intro k
  obtain ⟨f0, f1, f2, f3, f4, f5⟩ := hf
  rw [upd_ne iq] at f0
  induction k with
  | zero =>
    intro i s hk hi I st
    have hin : i = xs.length := by omega
    refine codeAny_builtin PySem.F.entry_extend_loop ?_
    rw [Around.under_plainId PySem.F.plain_extend_loop _]
    show wpAny _ A1.in1 (pyNext (.ref it) >>= _) _ _ s
    obtain ⟨its, rv, p, hz⟩ := I.tuple (sqT_upd (o := .lst (xs.take i)) hT hq)
    have hl := rv.length
    refine wpAny_bind (wpAny_pyNext_tuple_end hd st (show s.heap.IsTuple t its.toArray from p) (by simp; omega) fun h' eb => ?_)
    refine wpAny_pure (hdone _ ?_)
    have := I.turned (t' := s.toks) (fun b o hb e => eb b o hb e) (by rw [upd_ne iq]; exact f0) f1 f3 f4 f5
    rw [hin, List.take_length] at this
    exact this
  | succ k ih =>
    intro i s hk hi I st
    have hlt : i < xs.length := by omega
    refine codeAny_builtin PySem.F.entry_extend_loop ?_
    rw [Around.under_plainId PySem.F.plain_extend_loop _]
    show wpAny _ A1.in1 (pyNext (.ref it) >>= _) _ _ s
    obtain ⟨its, rv, p, hz⟩ := I.tuple (sqT_upd (o := .lst (xs.take i)) hT hq)
    obtain ⟨u, hu, ru⟩ := rv.get (List.getElem?_eq_getElem hlt)
    refine wpAny_bind (wpAny_pyNext_tuple_item st (show s.heap.IsTuple t its.toArray from p) (x := u) (by simpa using hu) fun h' st' sb => ?_)
    have I1 := I.turned (t' := s.toks) (h' := h') (fun b o hb e => (sb.2 b hb).trans e) (by rw [upd_ne iq]; exact f0) f1 f3 f4 f5
    show wpAny _ A1.in1 (updateSeq q (·.push u) >>= _) _ _ _
    obtain ⟨z, its2, k2, r2, hl, e⟩ := I1.lstM upd_same
    have hl2 : its2.length = i := by rw [← hl, List.length_take]; omega
    have hb := big1000
    refine wpAny_bind (wpAny_updateSeq e rfl (wpAny_pure ⟨plainId_quiet PySem.F.plain_extend_loop _, ?_⟩) (by rw [List.size_toArray]; omega) (by show (its2.toArray.push u).size ≤ sizeLine + 1; rw [Array.size_push, List.size_toArray]; omega))
    have I2 := I1.lset (f := (·.push u)) (its' := its2 ++ [u]) (ys := xs.take i ++ [xs[i]]) (t' := s.toks) upd_same e (by simp) (r2.append (.cons ru .nil)) (by rw [List.length_append, List.length_singleton, List.length_take]; omega)
    refine ih (i + 1) _ (by omega) (by omega) ?_ (st'.at fun o e => (Heap.get?_update_other _ _ (Ne.symm iq)).trans e)
    rw [upd_upd, show xs.take i ++ [xs[i]] = xs.take (i + 1) by rw [List.take_add_one, List.getElem?_eq_getElem hlt]; rfl] at I2
    exact I2
theorem len_hint {A1 : Around} {Q : Bool → Shared → Prop} {Er : Value → Shared → Prop} {a dx : Addr} {fs : List (Str × V)} {m : Nat} (c : Own X.K C "__len__" gl) (F : FnOk X.prog X.w X.K X.mg X.base CX n gl fdL ["self"] spL) (hb : Binds X.K fdL ["self"] []) (hx : Passes CX X.nox E)
    (sb : Sub X n A1.in1) (I : Inv X pins σ H s) (ha : H a = some (.ins C dx fs)) (hm : m ≤ 1000) (h : spL [.ref a] H (fun v H' => v = .int m ∧ H' = H) E) (q : ∀ s', Inv X pins σ H s' → ∀ b, Q b s') :
    wpAny (model X.prog X.w) A1 (Builtin.List.listLengthHint (.ref a)) Q Er s := by
  obtain ⟨ox, od, J⟩ := own_at I ha
  obtain ⟨m0, hF⟩ := I.fr
  unfold Builtin.List.listLengthHint
  refine wpAny_bind (wpAny_bind (J.type.here ((PySem.W.looks_findIn I.kIn c.at_).here ?_)))
  refine PySem.W.KFB.if_not rfl ?_
  refine PySem.W.KFB.if_so rfl ?_
  refine wpAny_bind (wpAny_rule ?_)
  have e0 : Env0 X.prog X.w X.K X.mg X.base A1.in1 X.stack s H := by
    have e := I.env0
    exact ⟨by rw [sb.fr]; exact e.frames, e.mod, e.bs, e.bsz, e.funs, e.frf, e.hok, e.bare⟩
  refine wpAny_bind (wpAny_attempt (PySem.W.len_K hF I.ok.mod.kin J c.at_ c.fn (wpAny_mono (run_own (X := X.nox) F sb.room e0 hb hx (I.wish _) (vs := [.ref a]) (.cons rfl .nil) h) (fun w s' z => ?_) fun _ _ x => False.elim x)))
  obtain ⟨z', H', I', rz, rfl, rfl⟩ := z
  obtain ⟨t, rfl⟩ := (show ∃ t, w = Value.int m t from rz)
  refine ⟨⟨by omega, by omega⟩, ?_⟩
  refine wpAny_bind (m := asInt? _) (wpAny_pure ?_)
  have hs := big1000
  refine PySem.W.KFB.if_not (by simp [Builtin.List.listTooLong]; omega) ?_
  exact wpAny_pure (q _ (I'.unwish.tok _) _)
theorem extendT {R : Addr → Addr → Hp → Prop} {Q : VK} {a dx t q : Addr} {fs : List (Str × V)} {ys : List V} (hc : X.calm = true) (ci : Own X.K C "__iter__" gi) (FI : FnIt X.prog X.w X.K X.mg X.base n gi R) (cl : Own X.K C "__len__" gl) (F : FnOk X.prog X.w X.K X.mg X.base CX n gl fdL ["self"] spL) (hb : Binds X.K fdL ["self"] []) (hx : Passes CX X.nox E)
    (hr : Room (n + 3) X.A) (fr : H q = none) (I2 : Inv X pins σ (upd H q (.lst [])) s) (ha : H a = some (.ins C dx fs)) (hT : SqT X.K H t ys) (hy : ys.length ≤ 1000) (hRa : R a t (upd H q (.lst []))) (hsp : spL [.ref a] (upd H q (.lst [])) (fun v H' => v = .int ys.length ∧ H' = upd H q (.lst [])) E) (hQ : Q (V.ref q) (upd H q (.lst ys))) :
    wpAny (model X.prog X.w) X.A.in1.in1 (Builtin.List.listExtendWith (.ref q) (.ref a) .none)
      (fun fin s' => match fin with | .done f => wants (fun r s₂ => r = .none ∧ EP X pins σ Q (.ref q) s₂) X.xe (.ok f) s' | .again c' => c'.quiet = true ∧ codeAny (model X.prog X.w) X.A.in1 c' (wants (fun r s₂ => r = .none ∧ EP X pins σ Q (.ref q) s₂) X.xe) s') (fun e s' => wants (fun r s₂ => r = .none ∧ EP X pins σ Q (.ref q) s₂) X.xe (.error e) s') s := by
  have sb : Sub X n X.A.in1.in1.in1 := (Sub.in1 (Sub.in1 (Sub.in1 (⟨hr, rfl⟩ : Sub X (n + 3) X.A))))
  have sb2 : Sub X (n + 1) X.A.in1.in1 := (Sub.in1 (Sub.in1 (⟨hr, rfl⟩ : Sub X (n + 3) X.A)))
  have ne : q ≠ a := Ne.symm (ne_of_none ha fr)
  have ha2 : upd H q (.lst []) a = some (.ins C dx fs) := by rw [upd_ne (Ne.symm ne)]; exact ha
  obtain ⟨ox, od, J⟩ := own_at I2 ha2
  obtain ⟨m0, hF⟩ := I2.fr
  unfold Builtin.List.listExtendWith
  refine wpAny_bind (J.type.here ?_)
  have h1 : Builtin.List.listSameRef (.ref q) (.ref a) = false := by simp [Builtin.List.listSameRef, ne]
  have h2 : (Value.ref C == Value.type "list") = false := rfl
  have h3 : (Value.ref C == Value.type "tuple") = false := rfl
  simp only [h1, h2, h3, Bool.or_false, Bool.false_eq_true, if_false]
  refine wpAny_bind (PySem.W.owit_iter hF I2.ok.mod.kin J ci.at_ ci.fn ?_)
  have e0 : Env0 X.prog X.w X.K X.mg X.base X.A.in1.in1 X.stack s (upd H q (.lst [])) := by
    have e := I2.env0
    exact ⟨by rw [sb2.fr]; exact e.frames, e.mod, e.bs, e.bsz, e.funs, e.frf, e.hok, e.bare⟩
  refine wpAny_call (codeAny_mono (FI X.A.in1.in1 X.stack s _ a t (sb2.room.mono (by omega)) e0 hRa) fun r s' hq => ?_)
  cases r with
  | error e => exact False.elim hq
  | ok fl =>
    cases fl with
    | next => exact False.elim hq
    | brk => exact False.elim hq
    | cont => exact False.elim hq
    | ret u =>
      obtain ⟨z, H2, os, bare, un, hok, rz, it, rfl, hn, hge, rfl⟩ := id hq
      have I3 : Inv X pins σ (upd (upd H q (.lst [])) it (ItT t it)) s' := I2.call' os un hok bare (fun b z => absurd z (by simp))
      cases rz
      have hget : s'.heap.get? it = some (itTObj t 0) := (I3.hok it _ upd_same).1
      have hTy : s'.TypeIs (.ref it) "tuple_iterator" := ⟨_, hget, rfl⟩
      have hi : (upd (upd H q (.lst [])) it (ItT t it)) it = some (.ext fun h => h.get? it = some (itTObj t 0)) := upd_same
      have I4 := ItX.inv_drop I3 hi
      have e3 : ItX.dropH (upd (upd H q (.lst [])) it (ItT t it)) it = upd H q (.lst []) := ItX.dropH_upd hn
      have fp := ItX.inv_fp I3 hi (Nat.le_trans I2.sz hge)
      rw [e3] at I4 fp
      have iq : it ≠ q := fun e => by rw [e, upd_same] at hn; cases hn
      unfold PySem.W.OwitIt
      refine wpAny_specialOf (name := Str.ofString "__next__") hTy PySem.F.slot_tuple_iterator_next.lookup ?_
      have Ip := I4.pinned (fp := [it]) (fun b hb => by cases List.mem_singleton.mp hb; exact fp) (fun b hb => by cases List.mem_singleton.mp hb; exact ⟨_, hget, fun v e => nomatch e⟩)
      have epin : pinsAt [it] s'.heap = [(it, itTObj t 0)] := by simp [pinsAt, hget]
      rw [epin] at Ip
      refine wpAny_bind (wpAny_holding (len_hint cl F hb hx sb Ip ha2 hy hsp fun s5 I5p bb => ?_))
      have hst : s5.heap.IsTupleIter it t 0 := ⟨_, (I5p.pin (it, itTObj t 0) (by simp)).1, rfl, rfl⟩
      have I5 := I5p.unpinned
      obtain ⟨z5, its5, k5, r5, hl5, e5⟩ := I5.lstM upd_same
      cases r5
      have hdn : X.A.in1.in1.handled = none := I5.ok.hd hc
      have fin : ∀ s' : Shared, Inv X pins σ (upd H q (.lst ys)) s' → wants (fun r s₂ => r = .none ∧ EP X pins σ Q (.ref q) s₂) X.xe (.ok (.ret .none)) s' := fun s' I' => ⟨rfl, .ref q, _, I', rfl, hQ⟩
      refine wpAny_ite_split (fun _ => ?_) (fun _ => wpAny_pure ⟨plainId_quiet PySem.F.plain_extend_loop _, tup_loop (A1 := X.A.in1) hdn fr hT hy iq fin fp ys.length 0 s5 rfl (Nat.zero_le _) I5 hst⟩)
      refine wpAny_bind (wpAny_rule ?_)
      refine wpAny_bind ?_
      show wpAny _ _ (updateSeq q (·.push .none) >>= fun _ => updateSeq q (·.pop)) _ _ _
      refine wpAny_bind (wpAny_updateSeq e5 rfl ?_)
      have I6 := I5.lset (f := (·.push Value.none)) (its' := [Value.none]) (ys := [.non]) (t' := s5.toks) upd_same e5 (by simp) (.cons rfl .nil) (by rw [List.length_singleton, sizeLine_eq]; decide)
      obtain ⟨z4, its4, k4, r4, hl4, e4⟩ := I6.lstM upd_same
      obtain ⟨u4, rfl, ru4⟩ := r4.one
      refine wpAny_updateSeq e4 rfl ?_ (by show 1 ≤ sizeLine; rw [sizeLine_eq]; decide) (by show 0 ≤ sizeLine + 1; exact Nat.zero_le _)
      have I7 := I6.lset (f := (·.pop)) (its := [u4]) (its' := []) (ys := []) (t' := s5.toks) upd_same e4 (by rfl) .nil (Nat.zero_le _)
      rw [upd_upd, upd_upd] at I7
      refine wpAny_pure ⟨plainId_quiet PySem.F.plain_extend_loop _, tup_loop (A1 := X.A.in1) hdn fr hT hy iq fin fp ys.length 0 _ rfl (Nat.zero_le _) I7 ?_⟩
      exact (hst.at fun o e => (Heap.get?_update_other _ _ (Ne.symm iq)).trans e).at fun o e => (Heap.get?_update_other _ _ (Ne.symm iq)).trans e
/-- list(o) -/
def rListOwn (K : PySem.W.Frag) (C : Addr) (R : Addr → Addr → Hp → Prop) (spL : Sp) (E : XK) : List V → Hp → VK → Prop := fun xs H Q => ∃ (a dx : Addr) (fs : List (Str × V)) (t : Addr) (ys : List V), xs = [.ref a] ∧ H a = some (.ins C dx fs) ∧ SqT K H t ys ∧ ys.length ≤ 1000 ∧
  (∀ q, H q = none → R a t (upd H q (.lst [])) ∧ spL [.ref a] (upd H q (.lst [])) (fun v H' => v = .int ys.length ∧ H' = upd H q (.lst [])) E) ∧ ∀ q, H q = none → Q (.ref q) (upd H q (.lst ys))
theorem call_listOwnT {R : Addr → Addr → Hp → Prop} (hc : X.calm = true) (ci : Own X.K C "__iter__" gi) (FI : FnIt X.prog X.w X.K X.mg X.base n gi R) (cl : Own X.K C "__len__" gl) (F : FnOk X.prog X.w X.K X.mg X.base CX n gl fdL ["self"] spL) (hb : Binds X.K fdL ["self"] []) (hx : Passes CX X.nox E)
    (hr : Room (n + 3) X.A) : CallR X (.type "list") (rListOwn X.K C R spL E) := by
  intro pins s σ H xs us Q I rv h
  obtain ⟨a, dx, fs, t, ys, rfl, ha, hT, hy, hR, hQ⟩ := h
  obtain ⟨u, rfl, ru⟩ := rv.one
  cases ru
  refine callType_codes (Q₁ := fun obj s₁ => obj = .ref s.heap.objs.size ∧ s₁ = { s with heap := s.heap.push { cls := .type "list", data := .seq #[] } }) PySem.F.called_list (PySem.F.typeCall_list_1 _) PySem.F.entry_list_init
    (code_list_new _ ⟨rfl, rfl⟩) fun obj s₁ h₁ => ?_
  obtain ⟨rfl, rfl⟩ := h₁
  have hS : (s.heap.push { cls := .type "list", data := .seq #[] }).get? s.heap.objs.size = some { cls := .type "list", data := .seq #[] } := Heap.get?_push_size _ rfl
  refine ⟨⟨_, hS, rfl⟩, PySem.F.args_list_init_2 _ _, ?_⟩
  have fr : H s.heap.objs.size = none := I.hok.fresh (Nat.le_refl _)
  generalize hqe : s.heap.objs.size = q at *
  have I1 : Inv X pins σ (upd H q (.lst [])) { s with heap := s.heap.push { cls := .type "list", data := .seq #[] } } := hqe ▸ I.lnew (its := []) (t' := s.toks) .nil (Nat.zero_le _)
  show wpAny _ _ (do let old ← Builtin.List.listItems (.ref q); Builtin.List.listUpdate (.ref q) (fun _ => #[]); letGo old.toList.reverse; Builtin.List.listExtendWith (.ref q) (.ref a) .none) _ _ _
  refine wpAny_bind ?_
  unfold Builtin.List.listItems
  refine wpAny_bind (wpAny_seqItems hS rfl (wpAny_pure ?_))
  show wpAny _ _ (updateSeq q (fun _ => #[]) >>= fun _ => letGo (#[] : Array Value).toList.reverse >>= fun _ => Builtin.List.listExtendWith (.ref q) (.ref a) .none) _ _ _
  refine wpAny_bind (wpAny_updateSeq hS rfl ?_)
  have I2 := I1.lset (f := fun _ => #[]) (its := []) (its' := []) (ys := []) (t' := s.toks) upd_same hS rfl .nil (Nat.zero_le _)
  rw [upd_upd] at I2
  refine wpAny_bind (wpAny_letGo ?_)
  exact extendT hc ci FI cl F hb hx hr fr I2 ha hT hy (hR q fr).1 (hR q fr).2 (hQ q fr)
end
end TK

/-! len(set(xs)) of a list of different texts -/
namespace TK
open PySem PySem.Spec PyProof.Rows L2
section
variable {prog : Program} {w : World} {A : Around} {R : Result → Shared → Prop} {I : Addr} {fp wr : List Addr} {G : Array GenState → Array GenState → Prop} {n : Nat} {Pv : Nat → Value → Prop} {St : Nat → Shared → Prop}
/-- what the set holds after i texts -/
abbrev seenS (xs : List Str) (i : Nat) : Str → Bool := fun k => (xs.take i).any (· == k)
theorem seen_succ {xs : List Str} {i : Nat} (hi : i < xs.length) (k : Str) : (seenS xs i k || decide (k = xs.getD i Str.empty)) = seenS xs (i + 1) k := by
  show _ = (xs.take (i + 1)).any (· == k)
  have e : xs.getD i Str.empty = xs[i] := by rw [List.getD_eq_getElem?_getD, List.getElem?_eq_getElem hi]; rfl
  rw [List.take_add_one, List.getElem?_eq_getElem hi, List.any_append, e]
  congr 1
  show decide (k = xs[i]) = [xs[i]].any (· == k)
  rw [List.any_cons, List.any_nil, Bool.or_false]
  by_cases h : k = xs[i]
  · rw [decide_eq_true h, h]; exact (beq_self_eq_true _).symm
  · rw [decide_eq_false h]; exact (beq_eq_false_iff_ne.mpr fun q => h q.symm).symm
theorem seen_new {xs : List Str} {i : Nat} (hi : i < xs.length) (nd : xs.Nodup) : seenS xs i (xs.getD i Str.empty) = false := by
  have e : xs.getD i Str.empty = xs[i] := by rw [List.getD_eq_getElem?_getD, List.getElem?_eq_getElem hi]; rfl
  rw [e]
  refine Bool.eq_false_iff.mpr fun h => ?_
  obtain ⟨x, hx, q⟩ := List.any_eq_true.mp h
  have q := eq_of_beq q
  obtain ⟨j, hj, ej⟩ := List.getElem_of_mem hx
  rw [List.length_take] at hj
  rw [List.getElem_take] at ej
  have hj2 : j < xs.length := by omega
  have := (List.getElem?_inj hj2 nd).mp ((List.getElem?_eq_getElem hj2).trans ((congrArg some (ej.trans q)).trans (List.getElem?_eq_getElem hi).symm))
  omega
theorem loopStrs (W : WalksS prog w A.in1 I fp wr G n Pv St) (S : Addr) (hSf : S ∉ fp) (xs : List Str) (hsz : xs.length = n) (nd : xs.Nodup) (hn : n < 64)
    (hval : ∀ i v, Pv i v → ∃ t, v = .str (xs.getD i Str.empty) t) (m : Nat) : ∀ (i : Nat) (s : Shared), n - i = m → i ≤ n → St i s → s.heap.SetOf (PySem.strKind prog w) S (seenS xs i) i →
      (∀ s', Moved (S :: wr) G s s' → s'.heap.SetOf (PySem.strKind prog w) S (seenS xs n) n → R (.ok (.ret .none)) s') →
      codeAny (model prog w) A (.builtin "set.update.loop" ⟨[.ref S, .ref I], []⟩) R s := by
  have out : S ∉ wr := fun h => hSf (W.sub _ h)
  induction m with
  | zero =>
    intro i s hm hi hst hS hR
    obtain rfl : i = n := by omega
    refine codeAny_builtin PyProof.Rows.F.entry_set_update_loop ?_
    rw [Around.under_plainId PyProof.Rows.F.plain_set_update_loop _]
    show wpAny _ A.in1 (pyNext (.ref I) >>= _) _ _ s
    exact wpAny_bind (W.done s _ _ hst fun s' mv => wpAny_pure (hR s' (mv.mono fun b hb => List.mem_cons_of_mem _ hb) (by
      obtain ⟨o, es, ep, t, ho, r⟩ := hS
      exact ⟨o, es, ep, t, mv.heap S _ out ho, r⟩)))
  | succ m ih =>
    intro i s hm hi hst hS hR
    have hlt : i < n := by omega
    refine codeAny_builtin PyProof.Rows.F.entry_set_update_loop ?_
    rw [Around.under_plainId PyProof.Rows.F.plain_set_update_loop _]
    show wpAny _ A.in1 (pyNext (.ref I) >>= _) _ _ s
    refine wpAny_bind (W.item i s _ _ hlt hst fun v s' hP hst' mv => ?_)
    obtain ⟨t, rfl⟩ := hval i v hP
    have hS1 : s'.heap.SetOf (PySem.strKind prog w) S (seenS xs i) i := by
      obtain ⟨o, es, ep, tb, ho, r⟩ := hS
      exact ⟨o, es, ep, tb, mv.heap S _ out ho, r⟩
    show wpAny _ A.in1 (holding [Value.str (xs.getD i Str.empty) t] (setAdd S (.str (xs.getD i Str.empty) t)) >>= _) _ _ s'
    refine wpAny_bind (wpAny_holding ?_)
    unfold setAdd
    refine wpAny_holding (wpAny_bind ((PySem.strKind prog w).pyHash (k := xs.getD i Str.empty) (strKind_is _ _ _ _) ?_))
    refine wpAny_setAddHashed_of (knd := PySem.strKind prog w) (s := { s' with toks := s'.toks + 1 }) (strKind_is _ _ _ _) rfl hS1 (by unfold scanBound; omega) fun h' sb hS2 => ?_
    have hS3 : h'.SetOf (PySem.strKind prog w) S (seenS xs (i + 1)) (i + 1) := by
      refine SetOf_congr hS2 (fun k => seen_succ (by omega) k) ?_
      rw [show seenS xs i (xs.getD i Str.empty) = false from seen_new (by omega) nd]
      rfl
    refine wpAny_pure ⟨plainId_quiet PyProof.Rows.F.plain_set_update_loop _, ih (i + 1) _ (by omega) hlt (W.frame _ s' _ _ hst' (Nat.le_succ _) fun b hb o e => ?_) hS3 fun s2 mv2 hS4 => hR s2 (Moved.trans W.gtrans ((mv.mono fun b hb => List.mem_cons_of_mem _ hb).then_heap (Nat.le_succ _) fun b o hb e => ?_) mv2) hS4⟩
    · rw [sb.2 b (fun h : b = S => hSf (by rw [← h]; exact hb))]; exact e
    · rw [sb.2 b (fun h : b = S => hb (by rw [h]; exact List.mem_cons_self))]; exact e
end
section
variable {prog : Program} {w : World} {A : Around} {E : Value → Shared → Prop} {s : Shared}
set_option maxHeartbeats 3200000 in
/-- set(xs): the place of the new set, what it holds, and that nothing else is changed -/
theorem set_of_strs {l : Addr} {items : Array Value} {xs : List Str} {Q : Value → Shared → Prop} (hh : A.handled = none) (hl : s.heap.IsList l items) (hi : StrsAre items.toList xs) (nd : xs.Nodup) (few : xs.length < 64)
    (h : ∀ (h' : Heap) (tk : Nat), h'.SetOf (PySem.strKind prog w) s.heap.objs.size (seenS xs xs.length) xs.length → (∀ b o, b < s.heap.objs.size → s.heap.get? b = some o → h'.get? b = some o) → Q (.ref s.heap.objs.size) { s with heap := h', toks := tk }) :
    wpAny (model prog w) A (call (.type "set") [.ref l]) Q E s := by
  have hsz : xs.length = items.size := by rw [← StrsAre.len_eq hi, Array.length_toList]
  obtain ⟨c, tl, hmro⟩ := PySem.F.called_set.mro
  have hmade := PySem.F.called_set.made
  have hsub := PySem.F.called_set.sub
  refine wpAny_call (codeAny_of_tree ?_)
  show wpAny _ _ (callAny (.type "set") _) _ _ _
  refine wpAny_pure ⟨Code.quiet_builtin _ (by decide +kernel), codeAny_builtin PySem.F.entry_type_call ?_⟩
  rw [Around.under_plain (weight_type_call_type "set" [.ref l] []) rfl]
  have h1 := PySem.F.called_set.notType
  have h2 := PySem.F.called_set.canCreate
  have hct := PySem.F.typeCall_set_1 (.ref l)
  repeat (any_goals (first | assumption | wp_step))
  refine codeAny_mono (code_set_new_1 (.ref l) (E := E) (Q₁ := fun obj s₁ => ∃ led : Bool, obj = .ref s.heap.objs.size ∧ s₁ = { s with heap := s.heap.push { cls := .type "set", dict := none, data := .set #[] 0 (.fresh 0 0 led) } }) fun led => ⟨led, rfl, rfl⟩) fun r s1 hr => ?_
  cases r with
  | error e => exact hr
  | ok fl =>
    cases fl with
    | ret obj =>
      obtain ⟨led, rfl, rfl⟩ := hr
      have hS := Heap.get?_push_size s.heap (o := ({ cls := .type "set", dict := none, data := .set #[] 0 (.fresh 0 0 led) } : Obj)) rfl
      have hT : Shared.TypeIs { s with heap := s.heap.push { cls := .type "set", dict := none, data := .set #[] 0 (.fresh 0 0 led) } } (.ref s.heap.objs.size) "set" := ⟨_, hS, rfl⟩
      have hli := PySem.F.called_set.init.lookup
      have hbi := PySem.F.called_set.init.bind (.ref s.heap.objs.size)
      repeat (any_goals (first | assumption | wp_step))
      refine codeAny_mono (codeAny_call_builtin (R := wants (fun r s2 => r = .none ∧ ∃ h' tk, s2 = { s with heap := h', toks := tk } ∧ h'.SetOf (PySem.strKind prog w) s.heap.objs.size (seenS xs xs.length) xs.length ∧ (∀ b o, b < s.heap.objs.size → s.heap.get? b = some o → h'.get? b = some o)) E)
        PySem.F.called_set.init.plain PySem.F.entry_set_init (check_set_init_1 hT ?_)) fun r2 s2 hr2 => ?_
      · obtain ⟨⟨lcls, ldict, ldata, lslots⟩, hol, hcl, nl, hdl⟩ := hl
        simp only at hcl hdl
        subst hcl; subst hdl
        have hol2 := Heap.get?_push_of_some ({ cls := .type "set", dict := none, data := .set #[] 0 (.fresh 0 0 led) } : Obj) hol
        have hsls := PySem.F.sub_list_set
        have hslf := PySem.F.sub_list_frozenset
        have hne : (Value.type "list" == Value.type "dict") = false := by decide
        have hl1 : (s.heap.push { cls := .type "set", dict := none, data := .set #[] 0 (.fresh 0 0 led) }).IsList l items := ⟨_, hol2, rfl, nl, rfl⟩
        unfold Builtin.«set.__init__» noKeywords Builtin.Frozenset.updateFrom
        generalize hPI : pyIter = PI
        wp_walk
        subst hPI
        refine wpAny_pyIter_list hl1 (wpAny_bind (wpAny_runValue ?_))
        have below : l < s.heap.objs.size := Heap.lt_size hol
        have hh3 : A.in1.in1.in1.handled = none := by simp [hh]
        have up1 : (s.heap.push { cls := .type "set", dict := none, data := .set #[] 0 (.fresh 0 0 led) }).objs.size = s.heap.objs.size + 1 := Heap.size_push _ _
        have hneI : l ≠ (s.heap.push { cls := .type "set", dict := none, data := .set #[] 0 (.fresh 0 0 led) }).objs.size := by rw [up1]; exact Nat.ne_of_lt (Nat.lt_succ_of_lt below)
        have hSf : s.heap.objs.size ∉ [(s.heap.push { cls := .type "set", dict := none, data := .set #[] 0 (.fresh 0 0 led) }).objs.size, l] := by
          rw [up1]
          intro q
          rcases List.mem_cons.mp q with q | q
          · omega
          · exact absurd (List.mem_singleton.mp q) (Nat.ne_of_gt below)
        have hval : ∀ (i : Nat) (v : Value), items[i]? = some v → ∃ t, v = .str (xs.getD i Str.empty) t := fun i v hv => SS.strs_at hi i v (by rw [Array.getElem?_toList]; exact hv)
        rw [hsz]
        refine loopStrs ((Walks.list hh3 _ l hneI items).toS) s.heap.objs.size hSf xs hsz nd (by omega) hval (items.size - 0) 0 _ rfl (Nat.zero_le _) ⟨⟨_, Heap.get?_push_size _ rfl, rfl, rfl⟩, (hl1.push _)⟩ ?hS0 ?hR
        case hS0 =>
          exact SetOf_congr ((setObjOf_fresh (knd := PySem.strKind prog w) led).setOf (Heap.get?_push_of_some _ hS) (by unfold scanBound; omega)) (fun _ => rfl) rfl
        case hR =>
          rintro ⟨h', g', d', tk', os'⟩ hm hS'
          obtain rfl : g' = s.gens := hm.gens
          obtain rfl : d' = s.drawn := hm.drawn
          obtain rfl : os' = s.os := hm.os
          show wpAny _ _ _ _ _ _
          refine wpAny_pure ?_
          show wpAny _ _ (ret Value.none) _ _ _
          refine wpAny_pure ⟨rfl, h', tk', rfl, hS', fun b o hb e => hm.heap b o (fun q => ?_) (Heap.get?_push_of_some _ (Heap.get?_push_of_some _ e))⟩
          rcases List.mem_cons.mp q with q | q
          · exact Nat.ne_of_lt hb q
          · have q := List.mem_singleton.mp q
            rw [up1] at q
            exact Nat.ne_of_lt (Nat.lt_succ_of_lt hb) q
      · cases r2 with
        | error e => exact hr2
        | ok fl2 =>
          cases fl2 with
          | ret r =>
            obtain ⟨rfl, h', tk, rfl, hS', hk'⟩ := hr2
            repeat (any_goals (first | assumption | wp_step))
            exact h _ _ hS' hk'
          | _ => exact hr2.elim
    | _ => exact hr.elim
end
section
variable {X : Cx}
def tLenSetN (K : PySem.W.Frag) (ta : TE) : TE := fun σ H Q => ta σ H fun x H1 => ∃ l, ∃ xs : List Str, x = .ref l ∧ SqL K H1 l (xs.map V.str) ∧ xs.Nodup ∧ xs.length < 64 ∧ Q (.int xs.length) H1
/-- len(set(xs)), xs a list of different texts -/
theorem pe_lenSetN {a : Expr} {ta : TE} {p p2 q pos : Pos} (hc : X.calm = true) (hg : Gl X "len") (hm : X.mg "len" = none) (hg2 : Gl X "set") (hm2 : X.mg "set" = none) (ha : PE X a ta)
    (na : starEach [a] X.env = (false, eval a X.env) :: starEach [] X.env := by rfl) : PE X (.Call (.Name "len" p) [.Call (.Name "set" p2) [a] [] q] [] pos) (tLenSetN X.K ta) := by
  refine ⟨fun pins s σ H Q I h => ?_⟩
  refine Call_ (ld_blt I hg hm boot_len (PyProof.Rows.callWith_builtin1 (PyProof.Rows.args_cons ?_ rfl) rfl rfl))
  refine Call_ (ld_blt I hg2 hm2 boot_set (PyProof.Rows.callWith_type1 (PyProof.Rows.args_cons (thn (ha.run pins s σ H _ I h) fun v s1 ⟨x, H1, I1, r1, q1⟩ => PyProof.Rows.args_nil ?_) na) na rfl))
  obtain ⟨l, xs, rfl, hq, nd, few, q1⟩ := q1
  cases r1
  obtain ⟨its, r, pl, hz⟩ := I1.list hq
  refine set_of_strs (I1.ok.hd hc) pl.isList (by simpa using strsAre_of r) nd few fun h' tk hS hk => PyProof.Rows.args_nil ?_
  obtain ⟨o, es, ep, t, ho, hex, hd, _, _, _, hf, hn⟩ := hS
  have I2 : Inv X pins σ H1 { s1 with heap := h', toks := tk } := I1.kept fun b o e => hk b o (Heap.lt_size e) e
  exact call_len_set ho hex hd hf (by rw [hn] <;> omega) ⟨.int xs.length, H1, I2.tok _, ⟨_, by rw [hn]⟩, q1⟩
end
end TK

/-! an own exception over ValueError whose __init__ says super().__init__(..); self.f = x -/
namespace TK
section
open PySem PySem.W PySem.Calls PySem.Spec PyProof.Rows
variable {prog : Program} {w : World} {A : Around} {E : Value → Shared → Prop} {h : Heap} {g : Array GenState} {d : Drawn} {t : Nat} {os : OsState}
variable {nm q : Str} {C N : Addr} {bs bm : List Value} {hdct : Bool} {sn : List Str} {sub : List Value} {ab : Bool} {col : Option Bool} {dd : Option Addr} {k0 k1 k2 k3 k5 : Option Value}
/-- the bound __init__ called -/
theorem call_mw {u e t0 : Addr} {rest : List Value} {Q : Value → Shared → Prop}
    (hC : h.get? C = some (excClassObj nm q C N bs bm hdct sn sub ab col dd k0 k1 k2 k3 k5 "ValueError.__new__")) (he : h.get? e = some (HandSPX.excO C t0)) (hu : h.get? u = some (kxs_mw "ValueError.__init__" e)) (hrest : rest.length ≤ sizeLine)
    (hq : ∀ h' t1, (∀ b o, b ≠ e → h.get? b = some o → h'.get? b = some o) → h'.get? e = some (HandSPX.excO C t1) → Q .none ⟨h', g, d, t, os⟩) :
    wpAny (model prog w) A (call (.ref u) rest) Q E ⟨h, g, d, t, os⟩ := by
  refine wpAny_call (codeAny_of_tree ?_)
  show wpAny _ A.in1 (callAny (.ref u) ⟨rest, []⟩) _ _ _
  simp only [callAny]
  refine wpAny_bind (wpAny_load hu ?_)
  simp only [kxs_mw, show (Value.type "method-wrapper" == Value.type "method" || Value.type "method-wrapper" == Value.type "builtin_function_or_method" || Value.type "method-wrapper" == Value.type "method-wrapper") = true by decide, if_true]
  refine PySem.W.KFB.if_so (by decide) ?_
  refine wpAny_bind (ESX.check_bound F.excBase_ValueError hC he rfl ?_)
  refine wpAny_bind (wpAny_pure (wpAny_pure ?_))
  refine ⟨Code.quiet_builtin _ (by decide +kernel), codeAny_builtin F.excBase_ValueError.initEntry ?_⟩
  rw [Around.under_plainId F.excBase_ValueError.init.plain _]
  wp_walk
  refine hq _ h.objs.size (fun b o hb ho => ?_) ?_
  · rw [Heap.get?_update_other _ _ (Ne.symm hb)]
    exact Heap.get?_push_of_some _ ho
  · rw [Heap.get?_update_self _ (Heap.get?_push_of_some _ he) rfl]
    rfl
end
open PySem PySem.Spec PyProof.Rows L2 NdefX
open PySem.W (ks_superIn kxs_mw kxs_getMethod kxs_ValueError kxs_callWith)
def supBody (p0 p1 p2 p3 p4 p5 p6 p7 p8 : Pos) (msg : Expr) (arg fld : Str) : List Stmt :=
  [.Expr (.Call (.Attribute (.Call (.Name "super" p0) [] [] p1) "__init__" p2) [msg] [] p3) p4, .Assign [.Attribute (.Name "self" p5) fld p6] (.Name arg p7) p8]
/-- X.__init__(self, y): the exception at a gets its dict with the one field -/
def spSup (C : Addr) (fld : Str) (okv : V → Prop) : Sp := fun vs H Q _ => ∃ (a : Addr) (y : V), vs = [.ref a, y] ∧ okv y ∧ H a = some (exo a C none) ∧ ∀ dx, H dx = none → dx ≠ a → Q .non (upd (upd H dx (exd dx [(fld, y)])) a (exo a C (some dx)))
theorem fn_sup {CX : CXT} {P : Program} {w : World} {K : PySem.W.Frag} {mg : Str → Option Value} {base : Heap} {k : Nat} {f C cc cda : Addr} {qual arg fld file : Str} {params : Arguments} {scope : Scope} {msg : Expr} {p0 p1 p2 p3 p4 p5 p6 p7 p8 : Pos}
    {oc ccl cl dV kV doc pm ct : Value} {an od cdd cld : Option Addr} {osl ccs csl : Array (Option Value)} {vs0 : Array Value} {tf : Tok} {okv : V → Prop} {te : TE} {ar : Arg}
    (lk : K.lookup f = some ⟨oc, od, .func (PySem.W.fnX "__init__" qual params (supBody p0 p1 p2 p3 p4 p5 p6 p7 p8 msg arg fld) scope [("__class__", cc)] dV kV doc pm an (.ref cda) ct), osl⟩) (hcd : PySem.W.codeIn K (.ref cda) qual = true)
    (hcode : K.lookup cda = some ⟨ccl, cdd, .fields vs0, ccs⟩) (hvs : vs0[2]? = some (.str file tf)) (hfile : ((P.main.file : Str) == file) = true)
    (hcell : K.lookup cc = some ⟨cl, cld, .cell (some (.ref C)), csl⟩)
    (S : NScope ["self", arg, "__class__"] ["self", arg] ["__class__"] scope) (hks : scope.names.lookup ("super" : Str) = some .globalImplicit)
    (hpar : (params.posonlyargs ++ params.args).head? = some ar) (har : ar.arg = "self")
    (htop : (P.main.scope.names.lookup ("super" : Str)).isSome = false) (hsup : mg "super" = none)
    (T : OexC K C) (hmr : PySem.W.mroIn K C (.ref C) = some true) (hst : PySem.W.nsIn K cStatics "thirdparty.any" = some none) (hal : ks_superIn K C C "__init__" = some (some (.builtin "ValueError.__init__")))
    (hVE : PySem.W.subIn K (.ref C) (.type "ValueError") = some true) (hno : PySem.W.findIn K (.ref C) fld = some none)
    (hpa : ∀ (A : Around) (outer : List Env) (s : Shared) (H : Hp) (E : XK), PA (ncx CX P w K mg base ["self", arg, "__class__"] ⟨"__init__", qual, params, supBody p0 p1 p2 p3 p4 p5 p6 p7 p8 msg arg fld, scope, [("__class__", cc)], cda⟩ f A outer s H E) [msg] (tCons te tNil))
    (hpl : ∀ env : Env, starEach [msg] env = [(false, eval msg env)])
    (hte : ∀ (a : Addr) (y : V) (H : Hp) (Q : VK), okv y → (∀ z, Q z H) → te [some (.ref a), some y, some (.ref C)] H Q)
    (hdb : (arg == ("__debug__" : Str)) = false) (hdc : (arg == ("__classdict__" : Str)) = false) {pl : Env → Sem Bool} (hev : ∀ env : Env, eval (.Call (.Attribute (.Call (.Name "super" p0) [] [] p1) "__init__" p2) [msg] [] p3) env = (do
      let ov ← attributeBase (.Call (.Name "super" p0) [] [] p1) "__init__" env (eval (.Call (.Name "super" p0) [] [] p1) env)
      standAt p2.atName
      let (f, first) ← holding [ov] (getMethod ov "__init__" (pl env))
      callWith p3 f first (backTo p3 (starEach [msg] env)) [])) :
    FnOk P w K mg base CX (k + 1) f (PySem.W.fnX "__init__" qual params (supBody p0 p1 p2 p3 p4 p5 p6 p7 p8 msg arg fld) scope [("__class__", cc)] dV kV doc pm an (.ref cda) ct) ["self", arg] (spSup C fld okv) := by
  have len : ∀ vs H Q E, spSup C fld okv vs H Q E → vs.length = (["self", arg] : List Str).length := fun vs H Q E h => by
    obtain ⟨a, y, rfl, _⟩ := h
    rfl
  refine ⟨len, fun A outer s H args us vs Q E hr e0 hb r hsp => ?_⟩
  have hl := len _ _ _ _ hsp
  obtain ⟨a, y, rfl, oky, ea, q⟩ := hsp
  obtain ⟨hp0, g0, d0, tk0, os0⟩ := s
  have KX : K.In hp0 := e0.mod.kin.keeps fun b o e => (e0.bs b o e).1
  have lim : hp0.NoLimit := e0.mod.nolimit.keeps fun b o e => (e0.bs b o e).1
  have one : ∀ (y : Str) (c : Addr), ([(("__class__" : Str), cc)] : List (Str × Addr)).lookup y = some c → y = ("__class__" : Str) ∧ c = cc := fun y c e => by
    simp only [List.lookup] at e
    split at e
    · rename_i h
      exact ⟨eq_of_beq h, (Option.some.inj e).symm⟩
    · cases e
  have cls : CellsAt [(("__class__" : Str), cc)] ["__class__"] [some (.ref C)] hp0 H := by
    refine ⟨rfl, fun y c e => ?_, fun x y c e1 e2 => (one _ _ e1).1.trans (one _ _ e2).1.symm, fun i y hy => ?_⟩
    · obtain ⟨_, rfl⟩ := one _ _ e
      exact ⟨(e0.bs _ _ (e0.mod.kin _ _ hcell)).2, _, _, KX _ _ hcell, rfl⟩
    · match i, hy with
      | 0, hy =>
        cases Option.some.inj hy
        refine ⟨cc, by simp [List.lookup], fun v ev => ?_⟩
        cases Option.some.inj (Option.some.inj ev)
        exact ⟨.ref C, rfl, _, KX _ _ hcell, rfl⟩
      | i + 1, hy => simp at hy
  refine PySem.ks_codeAny_call_defAt (body := supBody p0 p1 p2 p3 p4 p5 p6 p7 p8 msg arg fld) (binds := (["self", arg] : List Str).zip us) hr.depth (KX _ _ lk) rfl lim (PySem.W.codeRec_of KX hcd) rfl hb S.nocell (fun ⟨n, v⟩ hy => S.par n (List.of_mem_zip hy).1) (fun h₁ hns kp => ?_) S.co S.gen S.kind
  let F : NF := ⟨"__init__", qual, params, supBody p0 p1 p2 p3 p4 p5 p6 p7 p8 msg arg fld, scope, [("__class__", cc)], cda⟩
  let X : Cx := ncx CX P w K mg base ["self", arg, "__class__"] F f A outer ⟨hp0, g0, d0, tk0, os0⟩ H E
  have I : Inv X [] (startF ["self", arg, "__class__"] [V.ref a, y] [some (.ref C)]) H ⟨h₁, g0, d0, tk0 + ((["self", arg] : List Str).zip us).length, os0⟩ :=
    inv_startN (CX := CX) (E := E) (N := ["self", arg, "__class__"]) (F := F) (f := f) (ws := [some (.ref C)]) S hr.hd e0 hl r cls hns kp
  have eσ : startF ["self", arg, "__class__"] [V.ref a, y] [some (.ref C)] = [some (.ref a), some y, some (.ref C)] := rfl
  rw [eσ] at I
  have pa : PA X [msg] (tCons te tNil) := hpa A outer ⟨hp0, g0, d0, tk0, os0⟩ H E
  generalize tk0 + ((["self", arg] : List Str).zip us).length = tk1 at I ⊢
  have KX1 : K.In h₁ := I.kIn
  obtain ⟨nm, q1, N, bs, bm, sn, sub, ab, col, dd, k0, k1, k2, k3, k5, hC, hbm⟩ := id T.cls
  obtain ⟨t1, hx⟩ := exo_at I.hok ea
  obtain ⟨mb, hb1, hb2⟩ := I.mod.blt
  have hself : scope.names.lookup ar.arg = some .local := by rw [har]; exact S.par "self" (by simp)
  obtain ⟨u, rfl⟩ : ∃ u, us = [Value.ref a, u] := by
    cases r with
    | @cons _ u0 _ ur ra rw' =>
      obtain rfl : u0 = Value.ref a := ra
      cases rw' with
      | cons rb rc => cases rc; exact ⟨_, rfl⟩
  have vself : (((["self", arg] : List Str).zip [Value.ref a, u]).reverse.lookup ar.arg) = some (.ref a) := by
    rw [har]
    have nd : (["self", arg] : List Str).Nodup := by
      have q := S.nd
      simp only [List.nodup_cons, List.mem_cons, not_or] at q ⊢
      exact ⟨⟨q.1.1, by simp⟩, by simp, by simp⟩
    exact zip_look (i := 0) nd rfl rfl
  show _root_.PySem.wpAt (model P w) X.A (.func (supBody p0 p1 p2 p3 p4 p5 p6 p7 p8 msg arg fld) X.env) (execs (supBody p0 p1 p2 p3 p4 p5 p6 p7 p8 msg arg fld) X.env) _ X.xe _
  refine PySem.ks_wpAt_execs_cons (PySem.ks_wpAt_Expr_any (PySem.ks_wpAt_MethodCall (PySem.ks_wpAt_super_base (env := X.env) (ar := ar) (f := f) hks (S.frk _ (by simp)) (by decide) rfl (KX1 _ _ lk) rfl hpar rfl (KX1 _ _ hcode) rfl hvs hfile htop ?_) (hev X.env)) I.quiet)
  refine PySem.W.ks_loadName_global S.kind hks (Calls.loadGlobal_builtin (mg := mg) (I.mod.glob.keeps I.bk) hsup (hb1.keeps I.bk) ((hb2 "super" (by decide)).trans (by decide +kernel : bootBuiltins "super" = some (.type "super"))) ⟨rfl, ?_⟩)
  refine wpAny_loadName_free S.kind (S.frk "__class__" (by simp)) (c := cc) rfl ⟨_, KX1 _ _ hcell, rfl⟩ ?_
  refine wpAny_loadName_local S.kind hself hns vself ?_
  have hCd := KX1 _ _ hC
  refine PySem.ks_wpAny_isType_cls hCd rfl ⟨rfl, ?_⟩
  refine PySem.ks_wpAny_call_super hCd rfl hx rfl (fun c e => by cases e) (PySem.W.looks_mroIn KX1 hmr) (fun h2 e2 kp2 => ?_)
  have I2 : Inv X [] [some (.ref a), some y, some (.ref C)] H ⟨h2, g0, d0, tk1, os0⟩ := I.kept (t' := tk1) kp2
  have KX2 : K.In h2 := I2.kIn
  have hx2 := kp2 _ _ hx
  have IA : PySem.W.InstAt h2 a _ C none := ⟨hx2, rfl, rfl, trivial⟩
  -- the bound __init__
  cases hcc : PySem.W.clsIn K C with
  | none => unfold ks_superIn at hal; rw [hcc] at hal; cases hal
  | some cd =>
    unfold ks_superIn at hal
    rw [hcc] at hal
    refine kxs_getMethod kxs_ValueError e2 (PySem.W.looks_opaque KX2 hst) (l₀ := cd.mro) (fun A Q E s k q => wpAny_bind ((PySem.W.looks_clsIn KX2 hcc) A _ E s k (wpAny_pure q))) rfl KX2 hal (IA.type.andThen (PySem.W.looks_subIn KX2 hVE)) (PySem.W.ks_ne KX2 IA hcc) (by decide) ?_
    have kp3 : ∀ b o, h2.get? b = some o → (h2.push (kxs_mw "ValueError.__init__" a)).get? b = some o := fun b o e => Heap.get?_push_of_some _ e
    have hu3 : (h2.push (kxs_mw "ValueError.__init__" a)).get? h2.objs.size = some (kxs_mw "ValueError.__init__" a) := Heap.get?_push_at rfl rfl
    have I3 : Inv X [] [some (.ref a), some y, some (.ref C)] H ⟨h2.push (kxs_mw "ValueError.__init__" a), g0, d0, tk1 + 1, os0⟩ := I2.kept (t' := tk1 + 1) kp3
    have I4 : Inv X [(h2.objs.size, kxs_mw "ValueError.__init__" a)] [some (.ref a), some y, some (.ref C)] H ⟨h2.push (kxs_mw "ValueError.__init__" a), g0, d0, tk1 + 1, os0⟩ := I3.pins_of fun p hp => by
      rw [List.mem_singleton.mp hp]
      exact ⟨hu3, I2.hok.fresh (Nat.le_refl _), Nat.ne_of_gt I2.lt, I2.nofs (Nat.le_refl _), fun v z => by cases z⟩
    show wpAny _ _ (callWith p3 (.ref h2.objs.size) [] (backTo p3 (starEach [msg] X.env)) []) _ _ _
    have ra := pa.run p3 _ _ _ H (fun vs H1 => ∃ z, vs = [z] ∧ H1 = H) I4 (hte a y H _ oky fun z => ⟨z, rfl, rfl⟩)
    rw [hpl] at ra ⊢
    refine kxs_callWith (i := "ValueError.__init__") (x := a) rfl (Calls.evalArgs_plain (thn ra fun us4 s4 hh => ?_))
    obtain ⟨vs4, H4, I5, r5, z, ev, eH⟩ := hh
    subst ev
    subst eH
    obtain ⟨h4, g4, d4, tk4, os4⟩ := s4
    have pin4 := I5.pin (h2.objs.size, kxs_mw "ValueError.__init__" a) (List.mem_append_right _ List.mem_cons_self)
    obtain ⟨t4, hx4⟩ := exo_at I5.hok ea
    refine ⟨pin4.1, call_mw (I5.kIn _ _ hC) hx4 pin4.1 (by show us4.length ≤ sizeLine; rw [← r5.length]; exact (show (1 : Nat) ≤ sizeLine by decide)) fun h5 t5 k5' hx5 => ?_⟩
    have J := I5.write (t' := tk4) (x := a) (e := a) (o := exo a C none) (by rw [ea]; exact True.intro) (.inl rfl) k5' ⟨_, hx5⟩ (exo_ok hx5)
    have eu : upd H4 a (exo a C none) = H4 := by
      funext b
      by_cases hb : b = a
      · rw [hb, upd_same, ea]
      · rw [upd_ne hb]
    rw [eu] at J
    -- self.f = y
    have hst2 : PSs X [.Assign [.Attribute (.Name "self" p5) fld p6] (.Name arg p7) p8] _ := pss_one (ps_ost (f := fld) (pe_var (i := 0) rfl (.inl (S.par "self" (by simp))) (by decide) (by decide)) (pe_var (i := 1) rfl (.inl (S.par arg (by simp))) hdb hdc))
    refine wpAt_of_wpAny (wpAny_mono (hst2.run _ _ _ _ { nx := fun _ H' => Q .non H', rt := Q } J ?_) (fun fl s' hs => ?_) fun e s' hs => hs)
    · exact ⟨_, rfl, _, rfl, a, C, rfl, T, hno, .inl ⟨ea, fun dx hdx n => q dx hdx n⟩⟩
    · have fin : ∀ {σ' : L2.St} {H' : Hp} {v : V} {u : Value}, Inv X [(h2.objs.size, kxs_mw "ValueError.__init__" a)] σ' H' s' → RelV v u → Q v H' → CE outer P w H4 ⟨hp0, g0, d0, tk0, os0⟩ Q u s' :=
        fun {σ' H' v u} J rv q => ⟨v, H', J.os, J.bare, J.base, J.hok, rv, q⟩
      cases fl with
      | ret u =>
        obtain ⟨v, σ', H', J, rv, q⟩ := hs
        exact fin J rv q
      | next =>
        obtain ⟨σ', H', J, q⟩ := hs
        exact fin (v := V.non) (u := Value.none) J rfl q
      | brk =>
        obtain ⟨_, _, _, q⟩ := hs
        exact False.elim q
      | cont =>
        obtain ⟨_, _, _, q⟩ := hs
        exact False.elim q
end TK

/-! raise X(e), X an own exception whose __init__ says super().__init__(..); self.f = e -/
namespace TK
open PySem PySem.Spec PyProof.Rows L2 NdefX
/-- what is told of X, at C, its __init__ at fI -/
structure SupT (P : Program) (w : World) (K : PySem.W.Frag) (mg : Str → Option Value) (base : Heap) (x arg fld : Str) (okv : V → Prop) (C fI : Addr) (fd : FuncData) : Prop where
  gC : mg x = some (.ref C)
  T : OexC K C
  iC : PySem.W.findIn K (.ref C) "__init__" = some (some (.ref fI))
  tI : PySem.W.typeIn K (.ref fI) = some (.type "function")
  F : FnOk P w K mg base CX0 1 fI fd ["self", arg] (spSup C fld okv)
  b : Binds K fd ["self", arg] []
  xf : XfC K C
  noN : PySem.W.findIn K (.ref C) fld = some none
  te : PySem.W.exmOne K (.ref C) (.ref C) = some true
/-- what the making asks -/
theorem sup_read {C : Addr} {fld : Str} {okv : V → Prop} {v : V} {H1 : Hp} {Q : XK} (ok : okv v) (q : ∀ d, H1 d = none → Q (.ref C) (some d) (upd H1 d (.xd [(fld, v)]))) :
    ([v] : List V).length ≤ 1000 ∧ ∀ a, H1 a = none → spSup C fld okv (.ref a :: ([v] ++ [])) (upd H1 a (exo a C none))
      (fun v H2 => v = .non ∧ ∃ (d : Addr) (fs : List (Str × V)), H2 a = some (exo a C (some d)) ∧ H2 d = some (exd d fs) ∧ H1 d = none ∧ Q (.ref C) (some d) (upd (del H2 a) d (.xd fs))) (fun _ _ _ => False) := by
  refine ⟨(show (1 : Nat) ≤ 1000 by decide), fun a na => ⟨a, v, rfl, ok, upd_same, fun dx hdx ne => ⟨rfl, dx, [(fld, v)], upd_same, ?_, ?_, ?_⟩⟩⟩
  · rw [upd_ne ne]; exact upd_same
  · rw [upd_ne ne] at hdx; exact hdx
  · rw [upd_ne ne] at hdx
    have e : upd (del (upd (upd (upd H1 a (exo a C none)) dx (exd dx [(fld, v)])) a (exo a C (some dx))) a) dx (.xd [(fld, v)]) = upd H1 dx (.xd [(fld, v)]) := by
      funext b
      by_cases h1 : b = dx
      · rw [h1, upd_same, upd_same]
      · rw [upd_ne h1, upd_ne h1]
        by_cases h2 : b = a
        · rw [h2, del_same, na]
        · rw [del_ne h2, upd_ne h2, upd_ne h1, upd_ne h2]
    rw [e]
    exact q dx hdx
section
variable {X : Cx} {W : WX} {x arg fld : Str} {okv : V → Prop} {C fI : Addr} {fd : FuncData} {e : Expr} {ta : TA} {p pos pos2 : Pos}
theorem ps_raiseSup (hc : X.calm = true) (T : SupT X.prog X.w X.K X.mg X.base x arg fld okv C fI fd) (hr : Room 2 X.A) (tk : Takes X W) (ha : PA X [e] ta) (hg : Gl X x)
    (hdb : (x == ("__debug__" : Str)) = false := by decide) (he : starEach (e :: []) X.env = (false, eval e X.env) :: starEach [] X.env := by rfl) (hpl : (backTo pos (starEach [] X.env)).any (·.1) = false := by rfl) :
    PS X (.Raise (some (.Call (.Name x p) [e] [] pos)) none pos2) (fun _ σ H => tMkO C (spSup C fld okv) [] ta σ H fun cls d H' => W cls d σ H') :=
  ps_raise hc tk (pmk_oex (dvs := []) T.T T.iC T.tI T.F hr T.b .nil (fun _ _ _ _ _ _ _ h => h.elim) hg T.gC ha hdb he hpl)
end
end TK

/-! X(), X an own exception without an __init__ -/
namespace TK
open PySem PySem.Spec PyProof.Rows L2
theorem pmk_own0 {X : Cx} {C : Addr} {bmB : List Value} {B newId initId : String} {x : Str} {p pos : Pos} (F : ExcBaseFacts B newId initId bmB) (q : PySem.W.excIn X.K C bmB newId = true) (gC : X.mg x = some (.ref C)) (kC : PySem.W.keepIn X.K (.ref C) = true) (r : Raises X (.ref C)) (hg : Gl X x)
    (hdb : (x == ("__debug__" : Str)) = false := by decide) : PMk X (.Call (.Name x p) [] [] pos) (fun _ H Q => Q (.ref C) none H) := by
  intro pins s σ H Q I h
  refine wpAny_Call_Name_kw (ld_glob I hg gC ?_ hdb)
  refine PySem.W.callWith_K0 I.kIn kC ?_
  show wpAny _ _ (call (.ref C) []) _ _ _
  obtain ⟨bm, N, nm, qn, bs, hdct, sn, sub, ab, col, dd, k0, k1, k2, k3, k5, mN, hC, hN, hni, T⟩ := exc_obj I.kIn q
  refine wpAny_call_exc_subT F T hC hN hni (fun h' e hm => ?_) (by show 0 ≤ sizeLine; exact Nat.zero_le _)
  exact mk_of I hm r h (I.hok.gone hm.new)
end TK

/-! isinstance of a caught exception that has its dict -/
namespace TK
section
open PySem PySem.W PySem.Spec PySem.Calls PyProof.Rows
variable {prog : Program} {w : World} {A : Around} {E : Value → Shared → Prop} {s : Shared} {K : Frag} {x D : Addr} {ox : Obj}
theorem findObj_dataO {C : Addr} {odc : Option Obj} {name : Str} {a g : Value} (hc : (clsIn K C).isSome = true) (ha : findIn K (.ref C) name = some (some a)) (hg : specialIn K a "__get__" = some (some g)) (ht : takesIn K a = some true) : findObj K C odc name = some (.bind g a) := by
  obtain ⟨cd, hc⟩ := Option.isSome_iff_exists.mp hc
  unfold findObj
  rw [hc, Option.bind_some, ha, Option.bind_some]
  simp [hg, ht]
theorem kin_classEo {Q : Option Value → Shared → Prop} (hga : findIn K (.ref D) "__getattribute__" = some (some (.builtin "BaseException.__getattribute__"))) (hgt : findIn K (.ref D) "__getattr__" = some none) (hsub : subIn K (.ref D) (.type "BaseException") = some true)
    (hdct : hasDictIn K D = true) (ha : findIn K (.ref D) "__class__" = some (some (.builtin "object.__class__")))
    (hn : specialIn K (.builtin "object.__class__") "__get__" = some (some (.builtin "getset_descriptor.__get__"))) (htk : takesIn K (.builtin "object.__class__") = some true) (hm : mroIn K D (.type "object") = some true)
    {odc : Option Obj} (X : K.In s.heap) (I : InstAt s.heap x ox D odc) (h : Q (some (.ref D)) { s with toks := s.toks + 1 }) : wpAny (model prog w) A (getAttr? (.ref x) "__class__") Q E s := by
  have hf : findObj K D odc "__class__" = some (.bind (.builtin "getset_descriptor.__get__") (.builtin "object.__class__")) := findObj_dataO (by obtain ⟨cd, hc, _⟩ := any_some hdct; rw [hc]; rfl) ha hn htk
  obtain ⟨hp, g, d, t, os⟩ := s
  have L0 := I.type (M := model prog w)
  have L1 := looks_findIn (M := model prog w) X hga
  have L2 := looks_findIn (M := model prog w) X hgt
  have L3 := looks_find (M := model prog w) X I hf
  have sub : Looks (model prog w) hp (isInstance (.ref x) (.type "BaseException")) true := L0.andThen (looks_subIn X hsub)
  have hx0 : (false && onTheHeap (Value.builtin "BaseException.__getattribute__")) = false := rfl
  have hx2 : (Value.builtin "BaseException.__getattribute__" == Value.builtin "object.__getattribute__") = false := by decide +kernel
  have hx1 : (onTheHeap (Value.ref D) && Value.builtin "BaseException.__getattribute__" == Value.builtin "object.__getattribute__") = false := by rw [hx2]; rfl
  unfold getAttr? getAttrBy? getAttrBy
  refine wpAny_bind (wpAny_mkText (wpAny_bind (wpAny_attempt (wpAny_holding (wpAny_bind (L0.at (wpAny_bind (L1.at ?_))))))))
  show wpAny _ _ (if (onTheHeap (Value.ref D) && Value.builtin "BaseException.__getattribute__" == Value.builtin "object.__getattribute__") = true then _ else _) _ _ _
  rw [hx1, if_neg Bool.false_ne_true]
  unfold getAttrByItsOwn hookBefore
  refine wpAny_bind ?_
  rw [if_pos (show onTheHeap (Value.ref D) = true from rfl)]
  refine L2.at ?_
  refine wpAny_bind (wpAny_attempt (wpAny_holding ?_))
  unfold callGetattribute
  rw [hx0, if_neg Bool.false_ne_true]
  unfold boundAndCalled
  rw [PySem.F.excAttr_ValueError.ga.bind (.ref x)]
  refine wpAny_bind (wpAny_pure ?_)
  show wpAny _ _ (call (.builtin "BaseException.__getattribute__") [.ref x, .str "__class__" t]) _ _ _
  refine wpAny_call (codeAny_call_builtin PySem.F.excAttr_ValueError.ga.plain PySem.F.entry_bexc_ga ?_)
  refine @check_slot (model prog w) _ _ ⟨hp, g, d, t + 1, os⟩ "BaseException.__getattribute__" "BaseException" "__getattribute__" (.ref x) [.str "__class__" t] [] _ (by decide +kernel) (by decide +kernel) sub (PySem.F.args_bexc_ga (.ref x) (.str "__class__" t)) ?_
  unfold Builtin.«object.__getattribute__»
  refine wpAny_bind (wpAny_of_eq (a := ((Value.ref x : Value), [Value.str "__class__" t])) (by first | rfl | (simp only [slotArgs]; rfl)) ?_)
  refine wpAny_bind (wpAny_pure (wpAny_bind (L0.at (wpAny_bind (L3.at ?_)))))
  show wpAny _ _ (holding [Value.builtin "object.__class__"] (call (.builtin "getset_descriptor.__get__") [.builtin "object.__class__", .ref x, .ref D]) >>= ret) _ _ _
  refine wpAny_bind (wpAny_holding (wpAny_call (class_get (s := ⟨hp, g, d, t + 1, os⟩) (ox := ox) (od := odc) X I hm ?_)))
  refine wpAny_pure ?_
  show wpAny _ _ (handedOut (.ref D)) _ _ _
  rw [handedOut_of (v := .ref D) rfl]
  first
    | exact wpAny_pure (wpAny_pure h)
    | exact wpAny_pure h
    | exact wpAny_pure (wpAny_bind (wpAny_pure (wpAny_pure h)))
theorem kitx_exco (hga : findIn K (.ref D) "__getattribute__" = some (some (.builtin "BaseException.__getattribute__"))) (hgt : findIn K (.ref D) "__getattr__" = some none) (hsub : subIn K (.ref D) (.type "BaseException") = some true) (hdct : hasDictIn K D = true) (ha : findIn K (.ref D) "__class__" = some (some (.builtin "object.__class__")))
    (hn : specialIn K (.builtin "object.__class__") "__get__" = some (some (.builtin "getset_descriptor.__get__"))) (htk : takesIn K (.builtin "object.__class__") = some true) (hm : mroIn K D (.type "object") = some true) {odc : Option Obj} :
    KitX K (.ref x) (.ref D) (fun h => InstAt h x ox D odc) where
  ty := fun _ _ _ I => I.type
  it := fun _ _ X _ => by
    obtain ⟨cdD, hcD, _⟩ := any_some hdct
    unfold clsIn at hcD
    split at hcD
    · rename_i c' d' cd' sl' ho
      intro A' Q' E' s' k q
      unfold isType loadHead
      exact wpAny_bind (wpAny_loadPart (k _ _ (X _ _ ho)) (wpAny_pure q))
    · cases hcD
  ne := fun h tp dd its n sl X htp => by
    obtain ⟨cdD, hcD, _⟩ := any_some hdct
    refine Bool.eq_false_iff.mpr fun q => ?_
    have e : D = tp := Value.ref.inj (beq_iff_eq.mp q)
    subst e
    unfold clsIn at hcD
    split at hcD
    · rename_i c' d' cd' sl' ho
      have z := (X _ _ ho).symm.trans htp
      cases z
    · cases hcD
  ca := fun X I k => kin_classEo hga hgt hsub hdct ha hn htk hm X I k
end
end TK

namespace TK
open PySem PySem.Spec PyProof.Rows L2
/-- the caught exception as it stands: its dict none, or told -/
def DctAt (d : Option Addr) (H : Hp) : Prop := d = none ∨ ∃ (dd : Addr) (fs : List (Str × V)), d = some dd ∧ H dd = some (.xd fs)
theorem inst_suite {X : Cx} {a D : Addr} {oe : Obj} {cls : Value} {d : Option Addr} {pn pins : List (Addr × Obj)} {σ : L2.St} {H : Hp} {s : Shared} (hz : Zc cls d oe) (hf : ∃ vs, oe.data = .fields vs) (I : Inv (X.suite a ((a, oe) :: pn)) pins σ H s) (ec : cls = .ref D) (hd : DctAt d H) :
    ∃ od, PySem.W.InstAt s.heap a oe D od := by
  obtain ⟨hget, _⟩ := I.pin (a, oe) (List.mem_append.mpr (.inl List.mem_cons_self))
  obtain ⟨vs, hv⟩ := hf
  subst ec
  rcases hd with rfl | ⟨dd, fs, rfl, e⟩
  · exact ⟨none, hget, hz.1, by unfold PySem.W.notCls; rw [hv] <;> rfl, by rw [hz.2]; exact True.intro⟩
  · have hx : ObjOk X.prog X.w H s.heap dd (.xd fs) := I.hok dd _ e
    obtain ⟨mA, hns, hr⟩ := hx
    obtain ⟨od, ho, hl⟩ := lookIn_ns hns
    exact ⟨some od, hget, hz.1, by unfold PySem.W.notCls; rw [hv] <;> rfl, by rw [hz.2]; exact ho⟩
/-- isinstance(e, c) -/
def rIsX (K : PySem.W.Frag) (D a : Addr) (cls : Value) (d : Option Addr) : List V → Hp → VK → Prop := fun xs H Q => ∃ (c : V) (cv : Value) (b : Bool), xs = [.ref a, c] ∧ cls = .ref D ∧ DctAt d H ∧ (∀ u, RelV c u → u = cv) ∧ PySem.W.kitOne K (.ref D) cv = some b ∧ Q (.bl b) H
theorem call_isX {X : Cx} {a D : Addr} {oe : Obj} {cls : Value} {d : Option Addr} {pn : List (Addr × Obj)} (C : ExcC X.K D) (hz : Zc cls d oe) (hf : ∃ vs, oe.data = .fields vs) : CallR (X.suite a ((a, oe) :: pn)) (.builtin "isinstance") (rIsX X.K D a cls d) := by
  intro pins s σ H xs us Q I r h
  obtain ⟨c, cv, b, rfl, ec, hd, hcv, e, q⟩ := h
  cases r with
  | cons rx rr =>
    cases rr with
    | cons rt rr =>
      cases rr
      cases rx
      have ec2 := hcv _ rt
      subst ec2
      obtain ⟨od, J⟩ := inst_suite hz hf I ec hd
      exact PySem.W.kia_one (kitx_exco C.hg C.hk C.hs C.hd C.ha C.hn C.ht C.hm) I.kIn J e (fun z => nomatch z) fun tk => ⟨.bl b, H, I.kept (t' := tk) fun _ _ z => z, rfl, q⟩
/-- isinstance(e, (c, ..)) -/
def rIsXT (K : PySem.W.Frag) (D a : Addr) (cls : Value) (d : Option Addr) : List V → Hp → VK → Prop := fun xs H Q => ∃ (tp : Addr) (cs : List V) (ws : List Value) (b : Bool), xs = [.ref a, .ref tp] ∧ cls = .ref D ∧ DctAt d H ∧ H tp = some (.tup cs) ∧ (∀ us, Vals cs us → us = ws) ∧ PySem.W.kitAny K (.ref D) ws = some b ∧ Q (.bl b) H
theorem call_isXT {X : Cx} {a D : Addr} {oe : Obj} {cls : Value} {d : Option Addr} {pn : List (Addr × Obj)} (C : ExcC X.K D) (hz : Zc cls d oe) (hf : ∃ vs, oe.data = .fields vs) : CallR (X.suite a ((a, oe) :: pn)) (.builtin "isinstance") (rIsXT X.K D a cls d) := by
  intro pins s σ H xs us Q I r h
  obtain ⟨tp, cs, ws, b, rfl, ec, hd, hT, hw, e, q⟩ := h
  cases r with
  | cons rx rr =>
    cases rr with
    | cons rt rr =>
      cases rr
      cases rx
      cases rt
      obtain ⟨od, J⟩ := inst_suite hz hf I ec hd
      obtain ⟨_, its, rv, o, h1, h2, n, h3⟩ := (show ObjOk X.prog X.w H s.heap tp (.tup cs) from I.hok tp _ hT)
      have e3 := hw _ rv
      subst e3
      obtain ⟨oc, odd, dt, sl⟩ := o
      simp only at h2 h3
      subst h2 h3
      exact PySem.W.kia_tup (kitx_exco C.hg C.hk C.hs C.hd C.ha C.hn C.ht C.hm) I.kIn J h1 e (fun z => nomatch z) fun tk => ⟨.bl b, H, I.kept (t' := tk) fun _ _ z => z, rfl, q⟩
end TK

/-! which classes an own exception is of, from simple facts -/
namespace TK
open PySem PySem.Spec PyProof.Rows L2 NdefX
/-- what is known of a class -/
structure ClsK (K : PySem.W.Frag) (N : Addr) : Prop where
  is_ : PySem.W.isClsIn K N = true
  ty : PySem.W.typeIn K (.ref N) = some (.type "type")
theorem kitCls_ref {K : PySem.W.Frag} {A N : Addr} {b : Bool} (h : ClsK K N) (s : PySem.W.subIn K (.ref A) (.ref N) = some b) : PySem.W.kitCls K (.ref A) (.ref N) = some b := by
  have h1 := h.is_
  unfold PySem.W.isClsIn at h1
  unfold PySem.W.kitCls
  simp [h1, h.ty, s]
theorem kit_no {K : PySem.W.Frag} {A N : Addr} (h : ClsK K N) (r : PySem.W.subIn K (.ref A) (.ref A) = some true) (s : PySem.W.subIn K (.ref A) (.ref N) = some false) : PySem.W.kitOne K (.ref A) (.ref N) = some false := by
  have ne : ((Value.ref A) == Value.ref N) = false := by
    cases e : ((Value.ref A) == Value.ref N) with
    | false => rfl
    | true =>
      have e2 := eq_of_beq e
      rw [← e2, r] at s
      cases s
  unfold PySem.W.kitOne
  rw [ne]
  exact kitCls_ref h s
theorem kit_yes {K : PySem.W.Frag} {A N : Addr} (h : ClsK K N) (s : PySem.W.subIn K (.ref A) (.ref N) = some true) : PySem.W.kitOne K (.ref A) (.ref N) = some true := by
  unfold PySem.W.kitOne
  split
  · rfl
  · exact kitCls_ref h s
theorem kitT_yes {K : PySem.W.Frag} {A : Addr} {T : String} (m : PySem.W.kitMeta T = true) (s : PySem.W.subIn K (.ref A) (.type T) = some true) : PySem.W.kitOne K (.ref A) (.type T) = some true := by
  unfold PySem.W.kitOne
  split
  · rfl
  · unfold PySem.W.kitCls
    simp [m, s]
theorem exm_self {K : PySem.W.Frag} {C : Addr} (h : ClsK K C) (b : PySem.W.subIn K (.ref C) (.type "BaseException") = some true) (r : PySem.W.subIn K (.ref C) (.ref C) = some true) : PySem.W.exmOne K (.ref C) (.ref C) = some true := by
  unfold PySem.W.exmOne
  rw [b, kitCls_ref h r]
  rfl
theorem kitAny_no {K : PySem.W.Frag} {t : Value} : ∀ {cs : List Value}, (∀ c ∈ cs, PySem.W.kitOne K t c = some false) → PySem.W.kitAny K t cs = some false
  | [], _ => rfl
  | c :: r, h => by
    unfold PySem.W.kitAny
    rw [h c (List.mem_cons_self ..)]
    exact kitAny_no fun d hd => h d (List.mem_cons_of_mem _ hd)
theorem kitAny_c {K : PySem.W.Frag} {t c : Value} {cs : List Value} (h : PySem.W.kitOne K t c = some false) (r : PySem.W.kitAny K t cs = some false) : PySem.W.kitAny K t (c :: cs) = some false := by
  unfold PySem.W.kitAny
  rw [h]
  exact r
theorem kitMeta_VE : PySem.W.kitMeta "ValueError" = true := by decide +kernel
/-- the facts of an exception's class, as the top's world tells them -/
theorem oexC_mk {K : PySem.W.Frag} {C : Addr} {nm q : Str} {N : Addr} {bs bm : List Value} {sn : List Str} {sub : List Value} {ab : Bool} {col : Option Bool} {dd : Option Addr} {k0 k1 k2 k3 k5 : Option Value}
    (lC : K.lookup C = some (excClassObj nm q C N bs bm true sn sub ab col dd k0 k1 k2 k3 k5 "ValueError.__new__")) (rf : PySem.HandSPX.refsVE bm = true) (sa : PySem.W.findIn K (.ref C) "__setattr__" = some (some (.builtin "object.__setattr__")))
    (bx : PySem.W.subIn K (.ref C) (.type "BaseException") = some true) (ty : PySem.W.typeIn K (.ref C) = some (.type "type")) (kc : PySem.W.keepIn K (.ref C) = true) : OexC K C := ⟨⟨_, _, _, _, _, _, _, _, _, _, _, _, _, _, _, lC, rf⟩, sa, bx, ty, kc⟩
end TK

/-! calls of methods that may raise, the exception's promise with the slots as they stand -/
namespace TK
open PySem PySem.Spec PyProof.Rows L2 NdefX
section
variable {X : Cx} {CX : CXT} {k : Nat} {f g C : Addr} {m : Str} {fd : FuncData} {ps : List Str} {sp : Sp} {E : L2.St → XK} {apos pos : Pos} {o e : Expr} {es : List Expr} {ta : TE} {t : TA}
def tMethAt (C : Addr) (m : Str) (sp : Sp) (E : L2.St → XK) (ta : TE) (t : TA) : TE := fun σ H Q => ta σ H fun x H1 => ∃ a dx fs, x = V.ref a ∧ H1 a = some (.ins C dx fs) ∧ fs.lookup m = none ∧
  t σ H1 fun vs H2 => sp (x :: vs) H2 Q (E σ)
/-- o.m(e, ..), that may raise -/
theorem pe_methAt {pl : Sem Bool} (he : PE X o ta) (c : Cls X.K C) (hm : Meth X.K C m f) (F : FnOk X.prog X.w X.K X.mg X.base CX k f fd ps sp) (hr : Room k X.A) (hb : Binds X.K fd ps []) (hx : ∀ σ, PassesAt CX X σ (E σ)) (ha : PA X (e :: es) t)
    (hst : starEach (e :: es) X.env = (false, eval e X.env) :: starEach es X.env := by rfl) (hpl : (backTo pos (starEach es X.env)).any (·.1) = false := by rfl)
    (ht : eval (.Call (.Attribute o m apos) (e :: es) [] pos) X.env = (do
      let ov ← eval o X.env
      standAt apos.atName
      let (f, first) ← holding [ov] (getMethod ov m pl)
      callWith pos f first (backTo pos (starEach (e :: es) X.env)) (backToKw pos (keywordEach [] X.env))) := by rfl) :
    PE X (.Call (.Attribute o m apos) (e :: es) [] pos) (tMethAt C m sp E ta t) := by
  refine ⟨fun pins s σ H Q I h => ?_⟩
  refine PySem.W.methodCall_KW (pl := pl) (thn (he.run pins s σ H _ I h) fun u s1 ⟨x, H1, I1, rx, a, dx, fs, ex, ea, l, q⟩ => ?_) ht
  subst ex
  obtain rfl : u = Value.ref a := rx
  refine getmeth_ok I1 ea c hm l ?_
  refine PySem.W.callWith_K (first := [.ref a]) (h₀ := X.base) I.ok.mod.kin hm.kp (thn (ha.run pos pins s1 σ H1 _ I1 q) fun us s2 ⟨vs, H2, I2, r, q2⟩ => ⟨I2.kIn, ?_⟩) hst hpl
  exact run_fnS (us := .ref a :: us) (vs := .ref a :: vs) F hr hb (hx σ) I2 (.cons rfl r) q2
/-- o.m(), that may raise -/
theorem pe_methAt0 {pl : Sem Bool} (he : PE X o ta) (c : Cls X.K C) (hm : Meth X.K C m f) (F : FnOk X.prog X.w X.K X.mg X.base CX k f fd ps sp) (hr : Room k X.A) (hb : Binds X.K fd ps []) (hx : ∀ σ, PassesAt CX X σ (E σ))
    (ht : eval (.Call (.Attribute o m apos) [] [] pos) X.env = (do
      let ov ← eval o X.env
      standAt apos.atName
      let (f, first) ← holding [ov] (getMethod ov m pl)
      callWith pos f first (backTo pos (starEach [] X.env)) (backToKw pos (keywordEach [] X.env))) := by rfl) :
    PE X (.Call (.Attribute o m apos) [] [] pos) (tMethAt C m sp E ta tNil) := by
  refine ⟨fun pins s σ H Q I h => ?_⟩
  refine PySem.W.methodCall_KW (pl := pl) (thn (he.run pins s σ H _ I h) fun u s1 ⟨x, H1, I1, rx, a, dx, fs, ex, ea, l, q⟩ => ?_) ht
  subst ex
  obtain rfl : u = Value.ref a := rx
  refine getmeth_ok I1 ea c hm l ?_
  exact PySem.W.callWith_K0 (first := [.ref a]) I1.kIn hm.kp (run_fnS (us := [.ref a]) (vs := [.ref a]) F hr hb (hx σ) I1 (.cons rfl .nil) q)
end
end TK

namespace TK
open PySem PySem.Spec PyProof.Rows L2 NdefX
/-! a value of another kind, compared with an own object -/
inductive OddX (K : PySem.W.Frag) (C : Addr) (H : Hp) : V → Prop where
  | non (h : PySem.W.notFirst K C (.type "NoneType") = true) : OddX K C H .non
  | str (z : Str) (h : PySem.W.notFirst K C (.type "str") = true) : OddX K C H (.str z)
  | int (i : Int) (h : PySem.W.notFirst K C (.type "int") = true) : OddX K C H (.int i)
  | bl (b : Bool) (h : PySem.W.notFirst K C (.type "bool") = true) : OddX K C H (.bl b)
  | lst {a : Addr} {xs : List V} (e : H a = some (.lst xs)) (h : PySem.W.notFirst K C (.type "list") = true) : OddX K C H (.ref a)
  | tup {a : Addr} {xs : List V} (e : H a = some (.tup xs)) (h : PySem.W.notFirst K C (.type "tuple") = true) : OddX K C H (.ref a)
section
variable {X : Cx} {K : PySem.W.Frag} {CX : CXT} {C g : Addr} {n : Nat} {fd : FuncData} {ps : List Str} {sp : Sp} {E : XK} {pins : List (Addr × Obj)} {σ : L2.St} {H : Hp} {s : Shared}
def rOwnX (K : PySem.W.Frag) (C : Addr) (sp : Sp) (E : XK) : R2 := fun x y H Q => IsIn H x C ∧ (IsIn H y C ∨ OddX K C H y) ∧ sp [x, y] H Q E
theorem oddX_looks {x : V} {u : Value} (I : Inv X pins σ H s) (rx : RelV x u) (o : OddX X.K C H x) : ∃ tb, PySem.W.Looks (model X.prog X.w) s.heap (typeOf u) tb ∧ PySem.W.notFirst X.K C tb = true := by
  cases o with
  | non h => cases (show u = Value.none from rx); exact ⟨_, .now, h⟩
  | str z h => obtain ⟨t, q⟩ := (show ∃ t, u = Value.str z t from rx); cases q; exact ⟨_, .now, h⟩
  | int z h => obtain ⟨t, q⟩ := (show ∃ t, u = Value.int z t from rx); cases q; exact ⟨_, .now, h⟩
  | bl z h => cases (show u = Value.bool z from rx); exact ⟨_, .now, h⟩
  | @lst a xs ea h =>
    cases (show u = Value.ref a from rx)
    obtain ⟨_, _, n, _, h1⟩ := (show ObjOk X.prog X.w H s.heap a (.lst xs) from I.hok a _ ea)
    exact ⟨.type "list", (PySem.W.Looks.ld h1).andThen .now, h⟩
  | @tup a xs ea h =>
    cases (show u = Value.ref a from rx)
    obtain ⟨_, _, _, o, h1, h2, _⟩ := (show ObjOk X.prog X.w H s.heap a (.tup xs) from I.hok a _ ea)
    exact ⟨_, h2 ▸ (PySem.W.Looks.ld h1).andThen .now, h⟩
theorem op_ownEqX {op : CmpOp} (hK : X.K = K) (hop : ∀ a b, compareOp op a b = richCompare op a b) (c : Own X.K C (cmpInfo op).2.1 g) (F : FnOk X.prog X.w X.K X.mg X.base CX n g fd ps sp) (hr : Room n X.A) (hb : Binds X.K fd ps []) (hx : Passes CX X E) :
    OpR X (compareOp op) (rOwnX K C sp E) := by
  subst hK
  intro pins s σ H x y v u Q I rx ry h
  obtain ⟨⟨a, dx, fs, rfl, ha⟩, hy, q⟩ := h
  cases rx
  obtain ⟨ox, od, J⟩ := own_at I ha
  obtain ⟨m, hF⟩ := I.fr
  rw [hop]
  have key : ∃ tb, PySem.W.Looks (model X.prog X.w) s.heap (typeOf u) tb ∧ PySem.W.notFirst X.K C tb = true := by
    rcases hy with ⟨b, dy, gs, rfl, hb'⟩ | o
    · cases ry
      obtain ⟨ox', od', J'⟩ := own_at I hb'
      exact ⟨_, J'.type, by simp [PySem.W.notFirst]⟩
    · exact oddX_looks I ry o
  obtain ⟨tb, L, nf⟩ := key
  refine PySem.W.cmp_K (op := op) (tb := tb) hr.units0 hF I.ok.mod.kin J L nf c.at_ c.fn (wpAny_mono (run_own F hr I.env0 hb hx I (vs := [.ref a, y]) (.cons rfl (.cons ry .nil)) q) (fun w s' z => ?_) fun _ _ x => x)
  obtain ⟨z', H', I', rz, qz⟩ := z
  exact SlX.cmpback rz ⟨z', H', I', rz, qz⟩
end
/-! o op p of two of one class, that may raise -/
section
variable {X : Cx} {CX : CXT} {n : Nat} {g C : Addr} {fd : FuncData} {ps : List Str} {sp : Sp} {E : L2.St → XK} {pos : Pos} {a b : Expr} {ta tb : TE} {pins : List (Addr × Obj)} {σ : L2.St} {H : Hp} {s : Shared}
theorem run_ownAt {E : XK} {A : Around} {Q : VK} {us : List Value} {vs : List V} (F : FnOk X.prog X.w X.K X.mg X.base CX n g fd ps sp) (hr : Room n A) (e0 : Env0 X.prog X.w X.K X.mg X.base A X.stack s H) (hb : Binds X.K fd ps []) (hx : PassesAt CX X σ E)
    (I : Inv X pins σ H s) (r : Vals vs us) (h : sp vs H Q E) : wpAny (model X.prog X.w) A (call (.ref g) us) (EP X pins σ Q) X.xe s := by
  have hl : (us ++ []).length = ps.length := by rw [List.append_nil, ← r.length]; exact F.len _ _ _ _ h
  have hbb := hb s us I.kIn hl
  rw [List.append_nil] at hbb
  refine wpAny_call (codeAny_mono (F.run A X.stack s H ⟨us, []⟩ us vs Q E hr e0 hbb r h) fun r s' hq => ?_)
  cases r with
  | error e => exact hx pins H s e s' I hq
  | ok fl =>
    cases fl with
    | ret u => exact I.after hq
    | next => exact False.elim hq
    | brk => exact False.elim hq
    | cont => exact False.elim hq
theorem pe_ownBinAt {op : Operator} (c : Own X.K C (PySem.dunder op.info.2) g) (sf : PySem.W.selfFirst X.K C = true) (F : FnOk X.prog X.w X.K X.mg X.base CX n g fd ps sp) (hr : Room n X.A) (hb : Binds X.K fd ps []) (hx : ∀ σ, PassesAt CX X σ (E σ))
    (ha : PE X a ta) (hb' : PE X b tb) : PE X (.BinOp a op b pos) (fun σ H Q => ta σ H fun x H1 => tb σ H1 fun y H2 => rOwn2 C sp (E σ) x y H2 Q) := by
  refine ⟨fun pins s σ H Q I h => ?_⟩
  refine wpAny_BinOp (binT (R := fun x y H2 => rOwn2 C sp (E σ) x y H2 Q) ha hb' I h fun v u s2 x y H2 I2 rx ry q => ?_)
  obtain ⟨⟨a, dx, fs, rfl, ha⟩, ⟨b, dy, gs, rfl, hb''⟩, q⟩ := q
  cases rx
  cases ry
  obtain ⟨ox, od, J⟩ := own_at I2 ha
  obtain ⟨ox', od', J'⟩ := own_at I2 hb''
  obtain ⟨m, hF⟩ := I2.fr
  refine PySem.W.binop_K hF I2.ok.mod.kin J J'.type sf c.at_ c.fn (wpAny_mono (run_ownAt F hr I2.env0 hb (hx σ) I2 (vs := [.ref a, .ref b]) (.cons rfl (.cons rfl .nil)) q) (fun w s' z => ?_) fun _ _ x => x)
  obtain ⟨z', H', I', rz, qz⟩ := z
  exact SlX.cmpback rz ⟨z', H', I', rz, qz⟩
end
end TK

/-! super().__init__(..) of a class over an own class -/
namespace TK
open PySem PySem.Spec PyProof.Rows L2 NdefX
open PySem.W (ks_superIn)
open ClX
def supSt (p0 p1 p2 p3 p4 : Pos) (es : List Expr) : Stmt := .Expr (.Call (.Attribute (.Call (.Name "super" p0) [] [] p1) "__init__" p2) es [] p3) p4
/-- what super().__init__ finds: the def f2 of a class over D, for objects of C -/
structure SupO (K : PySem.W.Frag) (C D f2 : Addr) : Prop where
  hst : PySem.W.nsIn K cStatics "thirdparty.any" = some none
  isD : PySem.W.isClsIn K D = true
  sub : PySem.W.mroIn K C (.ref D) = some true
  al : ks_superIn K C D "__init__" = some (some (.ref f2))
  ty : PySem.W.typeIn K (.ref f2) = some (.type "function")
  fi : PySem.W.fnIn K f2 = true
theorem fn_superO {P : Program} {w : World} {K : PySem.W.Frag} {mg : Str → Option Value} {base : Heap} {k kr : Nat} {f C D f2 cc cda : Addr} {qual file : Str} {params : Arguments} {scope : Scope} {e : Expr} {es : List Expr} {rest : List Stmt} {p0 p1 p2 p3 p4 : Pos}
    {oc ccl cl dV kV doc pm ct : Value} {an od cdd cld : Option Addr} {osl ccs csl : Array (Option Value)} {vs0 : Array Value} {tf : Tok} {ar : Arg} {N ps : List Str} {sp spR : Sp}
    (lk : K.lookup f = some ⟨oc, od, .func (PySem.W.fnX "__init__" qual params (supSt p0 p1 p2 p3 p4 (e :: es) :: rest) scope [("__class__", cc)] dV kV doc pm an (.ref cda) ct), osl⟩) (hcd : PySem.W.codeIn K (.ref cda) qual = true)
    (hcode : K.lookup cda = some ⟨ccl, cdd, .fields vs0, ccs⟩) (hvs : vs0[2]? = some (.str file tf)) (hfile : ((P.main.file : Str) == file) = true)
    (hcell : K.lookup cc = some ⟨cl, cld, .cell (some (.ref D)), csl⟩)
    (S : NScope N (("self" : Str) :: ps) ["__class__"] scope) (hks : scope.names.lookup ("super" : Str) = some .globalImplicit)
    (hpar : (params.posonlyargs ++ params.args).head? = some ar) (har : ar.arg = "self") (htop : (P.main.scope.names.lookup ("super" : Str)).isSome = false) (hsup : mg "super" = none)
    (O : SupO K C D f2) (FR : FnR P w K mg base CX0 kr f2 spR)
    (len : ∀ vs H Q E, sp vs H Q E → ∃ a vs' dx fs, vs = .ref a :: vs' ∧ vs'.length = ps.length ∧ H a = some (.ins C dx fs))
    (hbody : ∀ (A : Around) (outer : List Env) (s : Shared) (H : Hp) (vs : List V) (Q : VK) (E : XK) (a : Addr) (vs' : List V), Room k (A.deeper (envF ⟨"__init__", qual, params, supSt p0 p1 p2 p3 p4 (e :: es) :: rest, scope, [("__class__", cc)], cda⟩ f s.heap.objs.size)) → vs = .ref a :: vs' → sp vs H Q E →
      ∃ ta tr, Room kr (ncx CX0 P w K mg base N ⟨"__init__", qual, params, supSt p0 p1 p2 p3 p4 (e :: es) :: rest, scope, [("__class__", cc)], cda⟩ f A outer s H E).A ∧ PA (ncx CX0 P w K mg base N ⟨"__init__", qual, params, supSt p0 p1 p2 p3 p4 (e :: es) :: rest, scope, [("__class__", cc)], cda⟩ f A outer s H E) (e :: es) ta ∧
        PSs (ncx CX0 P w K mg base N ⟨"__init__", qual, params, supSt p0 p1 p2 p3 p4 (e :: es) :: rest, scope, [("__class__", cc)], cda⟩ f A outer s H E) rest tr ∧
        ta (startF N vs [some (.ref D)]) H (fun us H1 => spR (.ref a :: us) H1 (fun _ H2 => tr { nx := fun _ H' => Q .non H', rt := Q } (startF N vs [some (.ref D)]) H2) E0))
    (hst2 : ∀ env : Env, starEach (e :: es) env = (false, eval e env) :: starEach es env) (hpl : ∀ env : Env, (backTo p3 (starEach es env)).any (·.1) = false) {pl : Env → Sem Bool}
    (hev : ∀ env : Env, eval (.Call (.Attribute (.Call (.Name "super" p0) [] [] p1) "__init__" p2) (e :: es) [] p3) env = (do
      let ov ← attributeBase (.Call (.Name "super" p0) [] [] p1) "__init__" env (eval (.Call (.Name "super" p0) [] [] p1) env)
      standAt p2.atName
      let (f, first) ← holding [ov] (getMethod ov "__init__" (pl env))
      callWith p3 f first (backTo p3 (starEach (e :: es) env)) [])) :
    FnOk P w K mg base CX0 (k + 1) f (PySem.W.fnX "__init__" qual params (supSt p0 p1 p2 p3 p4 (e :: es) :: rest) scope [("__class__", cc)] dV kV doc pm an (.ref cda) ct) (("self" : Str) :: ps) sp := by
  refine ⟨fun vs H Q E h => by
    obtain ⟨a, vs', dx, fs, rfl, hl, _⟩ := len vs H Q E h
    rw [List.length_cons, List.length_cons, hl], fun A outer s H args us vs Q E hr e0 hb r hsp => ?_⟩
  obtain ⟨a, vs', dx, fs, rfl, hl', ea⟩ := len _ _ _ _ hsp
  have hl : (V.ref a :: vs').length = (("self" : Str) :: ps).length := by rw [List.length_cons, List.length_cons, hl']
  obtain ⟨hp0, g0, d0, tk0, os0⟩ := s
  have KX : K.In hp0 := e0.mod.kin.keeps fun b o e => (e0.bs b o e).1
  have lim : hp0.NoLimit := e0.mod.nolimit.keeps fun b o e => (e0.bs b o e).1
  have one : ∀ (y : Str) (c : Addr), ([(("__class__" : Str), cc)] : List (Str × Addr)).lookup y = some c → y = ("__class__" : Str) ∧ c = cc := fun y c e => by
    simp only [List.lookup] at e
    split at e
    · rename_i h
      exact ⟨eq_of_beq h, (Option.some.inj e).symm⟩
    · cases e
  have cls : CellsAt [(("__class__" : Str), cc)] ["__class__"] [some (.ref D)] hp0 H := by
    refine ⟨rfl, fun y c e => ?_, fun x y c e1 e2 => (one _ _ e1).1.trans (one _ _ e2).1.symm, fun i y hy => ?_⟩
    · obtain ⟨_, rfl⟩ := one _ _ e
      exact ⟨(e0.bs _ _ (e0.mod.kin _ _ hcell)).2, _, _, KX _ _ hcell, rfl⟩
    · match i, hy with
      | 0, hy =>
        cases Option.some.inj hy
        refine ⟨cc, by simp [List.lookup], fun v ev => ?_⟩
        cases Option.some.inj (Option.some.inj ev)
        exact ⟨.ref D, rfl, _, KX _ _ hcell, rfl⟩
      | i + 1, hy => simp at hy
  refine PySem.ks_codeAny_call_defAt (body := supSt p0 p1 p2 p3 p4 (e :: es) :: rest) (binds := ((("self" : Str) :: ps)).zip us) hr.depth (KX _ _ lk) rfl lim (PySem.W.codeRec_of KX hcd) rfl hb S.nocell (fun ⟨n, v⟩ hy => S.par n (List.of_mem_zip hy).1) (fun h₁ hns kp => ?_) S.co S.gen S.kind
  let F : NF := ⟨"__init__", qual, params, supSt p0 p1 p2 p3 p4 (e :: es) :: rest, scope, [("__class__", cc)], cda⟩
  obtain ⟨ta, tr, hrr, pa, ptr, ht⟩ := hbody A outer ⟨hp0, g0, d0, tk0, os0⟩ H _ Q E a vs' (hr.deeper _) rfl hsp
  let X : Cx := ncx CX0 P w K mg base N F f A outer ⟨hp0, g0, d0, tk0, os0⟩ H E
  have I : Inv X [] (startF N (V.ref a :: vs') [some (.ref D)]) H ⟨h₁, g0, d0, tk0 + ((((("self" : Str) :: ps)).zip us)).length, os0⟩ :=
    inv_startN (CX := CX0) (E := E) (N := N) (F := F) (f := f) (ws := [some (.ref D)]) S hr.hd e0 hl r cls hns kp
  generalize tk0 + ((((("self" : Str) :: ps)).zip us)).length = tk1 at I ⊢
  have KX1 : K.In h₁ := I.kIn
  obtain ⟨mb, hb1, hb2⟩ := I.mod.blt
  have hself : scope.names.lookup ar.arg = some .local := by rw [har]; exact S.par "self" (by simp)
  obtain ⟨us', rfl⟩ : ∃ us', us = Value.ref a :: us' := by
    cases r with
    | @cons _ u0 _ ur ra rw' =>
      obtain rfl : u0 = Value.ref a := ra
      exact ⟨_, rfl⟩
  have vself : (((("self" : Str) :: ps).zip (Value.ref a :: us')).reverse.lookup ar.arg) = some (.ref a) := by
    rw [har]
    have nd : ((("self" : Str) :: ps) ++ [("__class__" : Str)]).Nodup := by
      rw [← S.pre]
      exact List.Sublist.nodup (List.take_sublist ..) S.nd
    exact zip_look (i := 0) (List.nodup_append.mp nd).1 rfl rfl
  obtain ⟨oD, hD1, cdD, hD2⟩ : ∃ oD, h₁.get? D = some oD ∧ ∃ cdD, oD.data = .cls cdD := by
    have hD := O.isD
    obtain ⟨cd, hcd'⟩ := Option.isSome_iff_exists.mp (show (PySem.W.clsIn K D).isSome = true from hD)
    unfold PySem.W.clsIn at hcd'
    split at hcd'
    · rename_i c d cd' sl ho
      exact ⟨_, KX1 _ _ ho, cd', rfl⟩
    · cases hcd'
  show _root_.PySem.wpAt (model P w) X.A (.func (supSt p0 p1 p2 p3 p4 (e :: es) :: rest) X.env) (execs (supSt p0 p1 p2 p3 p4 (e :: es) :: rest) X.env) _ X.xe _
  refine PySem.ks_wpAt_execs_cons (PySem.ks_wpAt_Expr_any (PySem.ks_wpAt_MethodCall (PySem.ks_wpAt_super_base (env := X.env) (ar := ar) (f := f) hks (S.frk _ (by simp)) (by decide) rfl (KX1 _ _ lk) rfl hpar rfl (KX1 _ _ hcode) rfl hvs hfile htop ?_) (hev X.env)) I.quiet)
  refine PySem.W.ks_loadName_global S.kind hks (Calls.loadGlobal_builtin (mg := mg) (I.mod.glob.keeps I.bk) hsup (hb1.keeps I.bk) ((hb2 "super" (by decide)).trans (by decide +kernel : bootBuiltins "super" = some (.type "super"))) ⟨rfl, ?_⟩)
  refine wpAny_loadName_free S.kind (S.frk "__class__" (by simp)) (c := cc) rfl ⟨_, KX1 _ _ hcell, rfl⟩ ?_
  refine wpAny_loadName_local S.kind hself hns vself ?_
  refine PySem.ks_wpAny_isType_cls hD1 hD2 ⟨rfl, ?_⟩
  obtain ⟨ox, od', J⟩ := own_at I ea
  refine PySem.ks_wpAny_call_super hD1 hD2 J.at_ J.cls (fun c e => ?_) (PySem.W.looks_mroIn KX1 O.sub) (fun h2 e2 kp2 => ?_)
  · have := J.no
    unfold PySem.W.notCls at this
    rw [e] at this
    exact Bool.noConfusion this
  have I2 : Inv X [] (startF N (V.ref a :: vs') [some (.ref D)]) H ⟨h2, g0, d0, tk1, os0⟩ := I.kept (t' := tk1) kp2
  have KX2 : K.In h2 := I2.kIn
  obtain ⟨ox2, od2, J2⟩ := own_at I2 ea
  have hal := O.al
  cases hcc : PySem.W.clsIn K C with
  | none => unfold ks_superIn at hal; rw [hcc] at hal; cases hal
  | some cd =>
    unfold ks_superIn at hal
    rw [hcc] at hal
    obtain ⟨of, hof, hofc⟩ : ∃ of, h2.get? f2 = some of ∧ of.cls = .type "function" := by
      have ht' : (K.lookup f2).map (·.cls) = some (.type "function") := O.ty
      cases z : K.lookup f2 with
      | none => rw [z] at ht'; cases ht'
      | some of => rw [z] at ht'; exact ⟨of, KX2 _ _ z, Option.some.inj ht'⟩
    refine PySem.ks_wpAny_getMethod_super e2 (PySem.W.looks_opaque KX2 O.hst) (l₀ := cd.mro) (fun A Q E s k q => wpAny_bind ((PySem.W.looks_clsIn KX2 hcc) A _ E s k (wpAny_pure q))) rfl KX2 hal hof hofc (PySem.W.ks_ne KX2 J2 hcc) (by decide) ?_
    have I3 := met_new (g := f2) (C := a) I2
    refine callwith_cm (g := f2) (C := a) I3 (base_none I2 (Nat.le_refl _)) O.fi (thn (pa.run p3 _ _ _ H _ I3 ht) fun us3 s3 ⟨vs3, H3, I4, rv, q2⟩ => ⟨⟨pin_at I4, I4.kIn⟩, ?_⟩) (hst2 X.env) (hpl X.env)
    refine thn (run_cm FR hrr pass0 I4 rv q2) fun z s4 ⟨v4, H4, I5, r4, q3⟩ => ?_
    refine wpAt_of_wpAny (wpAny_mono (ptr.run _ _ _ _ { nx := fun _ H' => Q .non H', rt := Q } I5 q3) (fun fl s' hs => ?_) fun e s' hs => hs)
    have fin : ∀ {σ' : L2.St} {H' : Hp} {v : V} {u : Value}, Inv X [] σ' H' s' → RelV v u → Q v H' → CE outer P w H ⟨hp0, g0, d0, tk0, os0⟩ Q u s' :=
      fun {σ' H' v u} J rv q => ⟨v, H', J.os, J.bare, J.base, J.hok, rv, q⟩
    cases fl with
    | ret u =>
      obtain ⟨v, σ', H', J, rv, q⟩ := hs
      exact fin J rv q
    | next =>
      obtain ⟨σ', H', J, q⟩ := hs
      exact fin (v := V.non) (u := Value.none) J rfl q
    | brk =>
      obtain ⟨_, _, _, q⟩ := hs
      exact False.elim q
    | cont =>
      obtain ⟨_, _, _, q⟩ := hs
      exact False.elim q
end TK

namespace TK
open PySem PySem.Spec PyProof.Rows L2
def topS (i : Nat) : Stmt := PySem.Challenge.pw_turnsandkeys_k45_turn_lets.main.body.getD i (.Pass ⟨0, 0, 0, 0⟩)
abbrev s_wall : Stmt := topS 0
theorem sc_wall : FnScope ["k"] ["k"] (defScope s_wall) := ⟨rfl, rfl, rfl, by decide +kernel, rfl, by decide +kernel, by decide +kernel⟩
abbrev s_is_name : Stmt := topS 13
theorem sc_is_name : FnScope ["word", "sign"] ["word"] (defScope s_is_name) := ⟨rfl, rfl, rfl, by decide +kernel, rfl, by decide +kernel, by decide +kernel⟩
abbrev s_check_size : Stmt := topS 14
theorem sc_check_size : FnScope ["size", "low", "high"] ["size", "low", "high"] (defScope s_check_size) := ⟨rfl, rfl, rfl, by decide +kernel, rfl, by decide +kernel, by decide +kernel⟩
abbrev s_check_range : Stmt := topS 15
theorem sc_check_range : FnScope ["number", "low", "high"] ["number", "low", "high"] (defScope s_check_range) := ⟨rfl, rfl, rfl, by decide +kernel, rfl, by decide +kernel, by decide +kernel⟩
abbrev s_check_names : Stmt := topS 16
theorem sc_check_names : FnScope ["names", "most", "hook", "at", "name"] ["names", "most", "hook"] (defScope s_check_names) := ⟨rfl, rfl, rfl, by decide +kernel, rfl, by decide +kernel, by decide +kernel⟩
abbrev s_check_known : Stmt := topS 17
theorem sc_check_known : FnScope ["names", "known", "name"] ["names", "known"] (defScope s_check_known) := ⟨rfl, rfl, rfl, by decide +kernel, rfl, by decide +kernel, by decide +kernel⟩
abbrev s_check_picks : Stmt := topS 18
theorem sc_check_picks : FnScope ["picks", "known", "at", "pick"] ["picks", "known"] (defScope s_check_picks) := ⟨rfl, rfl, rfl, by decide +kernel, rfl, by decide +kernel, by decide +kernel⟩
abbrev s_plus : Stmt := topS 20
theorem sc_plus : FnScope ["price", "other"] ["price", "other"] (defScope s_plus) := ⟨rfl, rfl, rfl, by decide +kernel, rfl, by decide +kernel, by decide +kernel⟩
abbrev s_least : Stmt := topS 21
theorem sc_least : FnScope ["prices", "price"] ["prices"] (defScope s_least) := ⟨rfl, rfl, rfl, by decide +kernel, rfl, by decide +kernel, by decide +kernel⟩
abbrev s_check_entries : Stmt := topS 23
theorem sc_check_entries : FnScope ["names", "entries", "giver", "taker", "toll"] ["names", "entries"] (defScope s_check_entries) := ⟨rfl, rfl, rfl, by decide +kernel, rfl, by decide +kernel, by decide +kernel⟩
abbrev s_least_tolls : Stmt := topS 24
theorem sc_least_tolls : FnScope ["entries", "tolls", "giver", "taker", "toll"] ["entries"] (defScope s_least_tolls) := ⟨rfl, rfl, rfl, by decide +kernel, rfl, by decide +kernel, by decide +kernel⟩
abbrev s_check_links : Stmt := topS 29
theorem sc_check_links : FnScope ["names", "links", "giver", "taker", "toll"] ["names", "links"] (defScope s_check_links) := ⟨rfl, rfl, rfl, by decide +kernel, rfl, by decide +kernel, by decide +kernel⟩
abbrev s_hand_tolls : Stmt := topS 34
theorem sc_hand_tolls : FnScope ["links", "barred", "free", "link"] ["links", "barred"] (defScope s_hand_tolls) := ⟨rfl, rfl, rfl, by decide +kernel, rfl, by decide +kernel, by decide +kernel⟩
abbrev s_shared_parts : Stmt := topS 35
theorem sc_shared_parts : FnScope ["rule"] ["rule"] (defScope s_shared_parts) := ⟨rfl, rfl, rfl, by decide +kernel, rfl, by decide +kernel, by decide +kernel⟩
abbrev s_facts : Stmt := topS 36
theorem sc_facts : FnScope ["rule"] ["rule"] (defScope s_facts) := ⟨rfl, rfl, rfl, by decide +kernel, rfl, by decide +kernel, by decide +kernel⟩
abbrev s_are_picks : Stmt := topS 38
theorem sc_are_picks : FnScope ["picks", "known", "pick"] ["picks", "known"] (defScope s_are_picks) := ⟨rfl, rfl, rfl, by decide +kernel, rfl, by decide +kernel, by decide +kernel⟩
abbrev s_are_bids : Stmt := topS 39
theorem sc_are_bids : FnScope ["bids", "members", "member", "_", "bid"] ["bids", "members"] (defScope s_are_bids) := ⟨rfl, rfl, rfl, by decide +kernel, rfl, by decide +kernel, by decide +kernel⟩
abbrev s_check_pages : Stmt := topS 40
theorem sc_check_pages : FnScope ["members", "pages", "names", "at", "name", "bids", "_", "followers", "page"] ["members", "pages"] (defScope s_check_pages) := ⟨rfl, rfl, rfl, by decide +kernel, rfl, by decide +kernel, by decide +kernel⟩
abbrev s_check_ends : Stmt := topS 41
theorem sc_check_ends : FnScope ["names", "starts", "home"] ["names", "starts", "home"] (defScope s_check_ends) := ⟨rfl, rfl, rfl, by decide +kernel, rfl, by decide +kernel, by decide +kernel⟩
abbrev s_sorted_bids : Stmt := topS 44
theorem sc_sorted_bids : FnScope ["members", "bids", "member", "bidder", "bid"] ["members", "bids"] (defScope s_sorted_bids) := ⟨rfl, rfl, rfl, by decide +kernel, rfl, by decide +kernel, by decide +kernel⟩
abbrev s_L_cell : Stmt := topS 46
theorem sc_L_cell : FnScope ["_law_script", "_law_k", "_law_far", "_law_j"] ["_law_script", "_law_k"] (defScope s_L_cell) := ⟨rfl, rfl, rfl, by decide +kernel, rfl, by decide +kernel, by decide +kernel⟩
abbrev s_L_mixed : Stmt := topS 47
theorem sc_L_mixed : FnScope ["_law_cell_here", "_law_k", "_law_x"] ["_law_cell_here", "_law_k"] (defScope s_L_mixed) := ⟨rfl, rfl, rfl, by decide +kernel, rfl, by decide +kernel, by decide +kernel⟩
abbrev s_L_pool : Stmt := topS 48
theorem sc_L_pool : FnScope ["_law_cell_here", "_law_number", "_law_rest", "_law_deep", "_law_pool_here", "_law_k"] ["_law_cell_here", "_law_number"] (defScope s_L_pool) := ⟨rfl, rfl, rfl, by decide +kernel, rfl, by decide +kernel, by decide +kernel⟩
abbrev s_L_part : Stmt := topS 49
theorem sc_L_part : FnScope ["_law_pool_here", "_law_spot", "_law_under", "_law_size"] ["_law_pool_here", "_law_spot", "_law_under", "_law_size"] (defScope s_L_part) := ⟨rfl, rfl, rfl, by decide +kernel, rfl, by decide +kernel, by decide +kernel⟩
abbrev s_L_names : Stmt := topS 50
theorem sc_L_names : FnScope ["_law_pool_here", "_law_spot", "_law_number", "_law_letters", "_law_stem", "_law_k", "_law_turn", "_law_cut", "_law_first", "_law_short", "_law_tail", "_law_names_here", "_law_mark"] ["_law_pool_here", "_law_spot", "_law_number"] (defScope s_L_names) := ⟨rfl, rfl, rfl, by decide +kernel, rfl, by decide +kernel, by decide +kernel⟩
abbrev s_L_links : Stmt := topS 51
theorem sc_L_links : FnScope ["_law_pool_here", "_law_spot", "_law_members", "_law_number", "_law_ties", "_law_k", "_law_giver", "_law_taker", "_law_toll"] ["_law_pool_here", "_law_spot", "_law_members", "_law_number"] (defScope s_L_links) := ⟨rfl, rfl, rfl, by decide +kernel, rfl, by decide +kernel, by decide +kernel⟩
abbrev s_L_some : Stmt := topS 52
theorem sc_L_some : FnScope ["_law_pool_here", "_law_spot", "_law_names_here", "_law_some_here", "_law_k"] ["_law_pool_here", "_law_spot", "_law_names_here"] (defScope s_L_some) := ⟨rfl, rfl, rfl, by decide +kernel, rfl, by decide +kernel, by decide +kernel⟩
abbrev s_L_pages : Stmt := topS 53
theorem sc_L_pages : FnScope ["_law_pool_here", "_law_spot", "_law_members", "_law_names_here", "_law_pages_here", "_law_j", "_law_wishers", "_law_bids", "_law_k", "_law_followers"] ["_law_pool_here", "_law_spot", "_law_members", "_law_names_here"] (defScope s_L_pages) := ⟨rfl, rfl, rfl, by decide +kernel, rfl, by decide +kernel, by decide +kernel⟩
abbrev s_L_integer : Stmt := topS 54
theorem sc_L_integer : FnScope ["_law_got"] ["_law_got"] (defScope s_L_integer) := ⟨rfl, rfl, rfl, by decide +kernel, rfl, by decide +kernel, by decide +kernel⟩
abbrev s_L_same : Stmt := topS 55
theorem sc_L_same : FnScope ["_law_got", "_law_wanted", "_law_k"] ["_law_got", "_law_wanted"] (defScope s_L_same) := ⟨rfl, rfl, rfl, by decide +kernel, rfl, by decide +kernel, by decide +kernel⟩
abbrev s_L_shuffled : Stmt := topS 56
theorem sc_L_shuffled : FnScope ["_law_pool_here", "_law_spot", "_law_row", "_law_left", "_law_taken", "_law_k"] ["_law_pool_here", "_law_spot", "_law_row"] (defScope s_L_shuffled) := ⟨rfl, rfl, rfl, by decide +kernel, rfl, by decide +kernel, by decide +kernel⟩
abbrev s_L_rows : Stmt := topS 57
theorem sc_L_rows : FnScope ["_law_head", "_law_members", "_law_titles", "_law_rows_here", "_law_title", "_law_bids", "_law_followers", "_law_offered", "_law_member", "_law_bid"] ["_law_head", "_law_members", "_law_titles"] (defScope s_L_rows) := ⟨rfl, rfl, rfl, by decide +kernel, rfl, by decide +kernel, by decide +kernel⟩
abbrev s_L_turn_rule : Stmt := topS 58
theorem sc_L_turn_rule : FnScope ["_law_pool_here", "_law_name", "_law_members", "_law_shut", "_law_cap", "_law_ties"] ["_law_pool_here", "_law_name", "_law_members"] (defScope s_L_turn_rule) := ⟨rfl, rfl, rfl, by decide +kernel, rfl, by decide +kernel, by decide +kernel⟩
abbrev s_L_free : Stmt := topS 59
theorem sc_L_free : FnScope ["_law_row", "_law_members", "_law_shut", "_law_free_here", "_law_member", "_law_wished", "_law_who", "_law_bid"] ["_law_row", "_law_members", "_law_shut"] (defScope s_L_free) := ⟨rfl, rfl, rfl, by decide +kernel, rfl, by decide +kernel, by decide +kernel⟩
abbrev s_L_tells : Stmt := topS 60
theorem sc_L_tells : FnScope ["_law_rule", "_law_sheet", "_law_free_here", "_law_choice"] ["_law_rule", "_law_sheet", "_law_free_here"] (defScope s_L_tells) := ⟨rfl, rfl, rfl, by decide +kernel, rfl, by decide +kernel, by decide +kernel⟩
abbrev s_L_spoil : Stmt := topS 61
theorem sc_L_spoil : FnScope ["_law_rule", "_law_sheet", "_law_free_here", "_law_told", "_law_choice", "_law_given"] ["_law_rule", "_law_sheet", "_law_free_here"] (defScope s_L_spoil) := ⟨rfl, rfl, rfl, by decide +kernel, rfl, by decide +kernel, by decide +kernel⟩
abbrev s_law : Stmt := topS 62
theorem sc_law : FnScope ["_law_script", "_law_head", "_law_members", "_law_titles", "_law_rows_here", "_law_homes", "_law_book", "_law_rules", "_law_turn", "_law_row", "_law_sheet", "_law_rule", "_law_shut", "_law_spot", "_law_title", "_law_bids", "_law_after", "_law_k"] ["_law_script"] (defScope s_law) := ⟨rfl, rfl, rfl, by decide +kernel, rfl, by decide +kernel, by decide +kernel⟩
end TK

namespace TK
open PySem PySem.Spec PyProof.Rows L2
section
variable {P : Program} {w : World} {K : PySem.W.Frag} {mg : Str → Option Value} {base : Heap}
/-! check_size, check_range -/
theorem pz {n : Nat} : (0 : Int) < ((n + 1 : Nat) : Int) := by omega
theorem mb {a : Int} {n : Nat} (h : n + 1 ≤ 2 ^ 63) : -(2 ^ 64) < a % ((n + 1 : Nat) : Int) ∧ a % ((n + 1 : Nat) : Int) < 2 ^ 64 := by
  have h1 := Int.emod_nonneg a (b := ((n + 1 : Nat) : Int)) (by omega)
  have h2 := Int.emod_lt_of_pos a (b := ((n + 1 : Nat) : Int)) (by omega)
  omega
/-! _law_part -/
def partOf (ns : List Int) (s u z : Int) : Int := ns.getD s.toNat 0 / u % z
def spPart (K : PySem.W.Frag) : Sp := fun vs H Q _ => ∃ (a : Addr) (ns : List Int) (s u z : Int), vs = [.ref a, .int s, .int u, .int z] ∧ SqL K H a (ns.map V.int) ∧ 0 ≤ s ∧ s < ns.length ∧ 0 < u ∧ u < 1000000 ∧ 0 < z ∧ Q (.int (partOf ns s u z)) H
theorem get_int {ns : List Int} {s : Int} (h0 : 0 ≤ s) (h : s < ns.length) : atI (ns.map V.int) s = some (.int (ns.getD s.toNat 0)) := by
  have h1 : s.toNat < ns.length := by omega
  refine atI_in h0 ?_
  rw [List.getElem?_map, List.getElem?_eq_getElem h1, List.getD_eq_getElem?_getD, List.getElem?_eq_getElem h1]
  rfl
theorem ok_L_part {f : Addr} {fd : FuncData} (F : Fun K "_law_part" "_law_part" s_L_part f fd) (m_int : mg "int" = none) : FnOk P w K mg base CX0 1 f fd ["_law_pool_here", "_law_spot", "_law_under", "_law_size"] (spPart K) := by
  refine F.ok sc_L_part (fun vs H Q E h => ?_) (fun cdv A outer s H vs Q E hr h => ?_)
  · obtain ⟨a, ns, s, u, z, rfl, _⟩ := h
    rfl
  · obtain ⟨a, ns, s, u, z, rfl, hS, h0, h1, h2, h3, h4, q⟩ := h
    refine ⟨_, (pss_one (ps_ret (pe_op op_mod (pe_op op_fdiv (pe_callTy call_int1 (by rfl) m_int (by decide +kernel) (pa_cons (pe_ix ix_list (pv 0) (pv 1) (fun _ _ => rfl)) pa_nil)) (pv 2)) (pv 3)))), ?_⟩
    refine ⟨_, rfl, _, rfl, _, _, _, _, rfl, rfl, hS, get_int h0 h1, .inl ⟨_, rfl, _, rfl, _, _, rfl, rfl, ⟨h2, by omega⟩, _, rfl, _, _, rfl, rfl, h4, ?_⟩⟩
    exact q
theorem part_lo {ns : List Int} {s u z : Int} (h : 0 < z) : 0 ≤ partOf ns s u z := Int.emod_nonneg _ (by omega)
theorem part_hi {ns : List Int} {s u z : Int} (h : 0 < z) : partOf ns s u z < z := Int.emod_lt_of_pos _ h
/-! _law_mixed -/
def spMixed : Sp := fun vs H Q _ => ∃ c k : Int, vs = [.int c, .int k] ∧ 0 ≤ k ∧ k < 1000000 ∧ ∀ r : Int, 0 ≤ r → Q (.int r) H
theorem ok_L_mixed {f : Addr} {fd : FuncData} (F : Fun K "_law_mixed" "_law_mixed" s_L_mixed f fd) (m_abs : mg "abs" = none) : FnOk P w K mg base CX0 1 f fd ["_law_cell_here", "_law_k"] spMixed := by
  refine F.ok sc_L_mixed (fun vs H Q E h => ?_) (fun cdv A outer s H vs Q E hr h => ?_)
  · obtain ⟨c, k, rfl, _⟩ := h
    rfl
  · obtain ⟨c, k, rfl, h0, h1, q⟩ := h
    refine ⟨_, (pss_cons (ps_set (i := 2) sc_L_mixed.nd rfl (.inl rfl) (pe_op op_mod (pe_op op_add (pe_op op_mul (pe_op op_mod (pe_callB call_abs (by rfl) m_abs (by decide +kernel) (pa_cons (pv 0) pa_nil)) pe_int) pe_int) (pe_op op_mul (pe_op op_add (pv 1) pe_int) pe_int)) pe_int))
  (pss_cons (ps_set (i := 2) sc_L_mixed.nd rfl (.inl rfl) (pe_op op_mod (pe_op op_add (pe_op op_mul (pv 2) (pe_op op_add (pe_op op_mod (pv 2) pe_int) pe_int)) (pe_op op_mul (pe_op op_add (pv 1) pe_int) pe_int)) pe_int))
  (pss_cons (ps_set (i := 2) sc_L_mixed.nd rfl (.inl rfl) (pe_op op_mod (pe_op op_mul (pv 2) (pe_op op_add (pe_op op_mod (pv 2) pe_int) pe_int)) pe_int))
  (pss_one (ps_ret (pe_op op_fdiv (pv 2) pe_int)))))), ?_⟩
    refine ⟨_, rfl, _, rfl, _, _, rfl, rfl, pz, _, _, rfl, rfl, .inr (by decide), _, rfl, _, _, rfl, rfl, _, _, rfl, rfl, .inr (by decide), _, _, rfl, rfl, _, _, rfl, rfl, pz, ?_⟩
    refine ⟨_, rfl, _, rfl, _, _, rfl, rfl, pz, _, _, rfl, rfl, _, _, rfl, rfl, .inl (mb (by decide)), _, rfl, _, _, rfl, rfl, _, _, rfl, rfl, .inr (by decide), _, _, rfl, rfl, _, _, rfl, rfl, pz, ?_⟩
    refine ⟨_, rfl, _, rfl, _, _, rfl, rfl, pz, _, _, rfl, rfl, _, _, rfl, rfl, .inl (mb (by decide)), _, _, rfl, rfl, pz, _, rfl, _, _, rfl, rfl, ⟨by decide, by decide⟩, ?_⟩
    exact q _ (Int.ediv_nonneg (Int.emod_nonneg _ (by decide)) (by decide))
/-! _law_cell -/
def spCellA (K : PySem.W.Frag) : Sp := fun vs H Q _ => ∃ (a : Addr) (ns : List Int) (k : Int), vs = [.ref a, .int k] ∧ SqL K H a (ns.map V.int) ∧ 0 ≤ k ∧ k < 1000 ∧ ns.length ≤ 1000 ∧ ∀ r : Int, Q (.int r) H
theorem ok_L_cell {f : Addr} {fd : FuncData} (F : Fun K "_law_cell" "_law_cell" s_L_cell f fd) (m_len : mg "len" = none) (m_range : mg "range" = none) (m_abs : mg "abs" = none) : FnOk P w K mg base CX0 1 f fd ["_law_script", "_law_k"] (spCellA K) := by
  refine F.ok sc_L_cell (fun vs H Q E h => ?_) (fun cdv A outer s H vs Q E hr h => ?_)
  · obtain ⟨a, ns, k, rfl, _⟩ := h
    rfl
  · obtain ⟨a, ns, k, rfl, hS, h0, h1, h2, q⟩ := h
    refine ⟨_, (pss_cons (ps_if (pt_cmpR op_lt (pv 1) (pe_callB call_len_seq (by rfl) m_len (by decide +kernel) (pa_cons (pv 0) pa_nil)) (nomark _)) (pss_one (ps_ret (pe_ix ix_list (pv 0) (pv 1) (fun _ _ => rfl)))) pss_nil)
  (pss_cons (ps_set (i := 2) sc_L_cell.nd rfl (.inl rfl) (pe_op op_mul pe_int (pe_op op_add (pv 1) pe_int)))
  (pss_cons (ps_for PassesOwn.never rfl (pi_range1 (by rfl) m_range (pa_cons (pe_callB call_len_seq (by rfl) m_len (by decide +kernel) (pa_cons (pv 0) pa_nil)) pa_nil)) (pg_name (i := 3) sc_L_cell.nd rfl (.inl rfl))
    (pss_one (ps_set (i := 2) sc_L_cell.nd rfl (.inl rfl) (pe_op op_mod (pe_op op_add (pv 2) (pe_op op_mul (pe_op op_mul (pe_op op_add (pv 3) pe_int) (pe_op op_mod (pe_callB call_abs (by rfl) m_abs (by decide +kernel) (pa_cons (pe_ix ix_list (pv 0) (pv 3) (fun _ _ => rfl)) pa_nil)) pe_int)) pe_int)) pe_int))))
  (pss_one (ps_ret (pv 2)))))), ?_⟩
    refine ⟨_, rfl, _, rfl, _, _, rfl, .inl hS, _, _, rfl, rfl, _, rfl, ite2 (fun e => ?_) (fun e => ?_)⟩
    · have e1 : k < ((ns.map V.int).length : Nat) := of_decide_eq_true e
      rw [List.length_map] at e1
      exact ⟨_, rfl, _, rfl, _, _, _, _, rfl, rfl, hS, get_int h0 e1, q _⟩
    · refine ⟨_, rfl, _, _, rfl, rfl, _, _, rfl, rfl, .inl (by decide), ?_⟩
      refine ⟨_, rfl, _, _, rfl, .inl hS, _, rfl, by omega, by rw [List.length_map]; omega, for_range (fun i σ H' => H' = H ∧ ∃ (r : Int) (y : Option V), σ = [some (.ref a), some (.int k), some (.int r), y]) ⟨rfl, _, _, rfl⟩ ?_ ?_⟩
      · rintro i σ H' hi ⟨rfl, r, y, rfl⟩
        rw [List.length_map] at hi
        have hi' : i < ns.length := by omega
        refine ⟨_, rfl, _, rfl, _, _, rfl, rfl, _, rfl, _, rfl, _, _, _, _, rfl, rfl, hS, get_int (by omega) (by omega), _, rfl, _, _, rfl, rfl, pz, _, _, rfl, rfl, .inr (mb (by decide)), _, _, rfl, rfl, .inr (by decide), _, _, rfl, rfl, _, _, rfl, rfl, pz, rfl, _, _, rfl⟩
      · rintro σ H' ⟨rfl, r, y, rfl⟩
        exact ⟨_, rfl, q _⟩
end
end TK

namespace TK
open PySem PySem.Spec PyProof.Rows L2
theorem upd_twice {H : Hp} {p : Addr} {a b : HO} : upd (upd H p a) p b = upd H p b := by
  funext x
  unfold upd
  by_cases e : x = p
  · rw [if_pos e, if_pos e]
  · rw [if_neg e, if_neg e, if_neg e]
section
variable {P : Program} {w : World} {K : PySem.W.Frag} {mg : Str → Option Value} {base : Heap}
/-! _law_pool -/
def spPool : Sp := fun vs H Q _ => ∃ (c n : Int), vs = [.int c, .int n] ∧ 0 ≤ n ∧ n ≤ 1000 ∧ ∀ (p : Addr) (ns : List Int), H p = none → (ns.length : Int) = n → (∀ x ∈ ns, 0 ≤ x) → Q (.ref p) (upd H p (.lst (ns.map V.int)))
theorem ok_L_pool {f : Addr} {fd : FuncData} (F : Fun K "_law_pool" "_law_pool" s_L_pool f fd) (m_range : mg "range" = none) (m_abs : mg "abs" = none) (d_L_mixed : Def P w K mg base "_law_mixed" 1 ["_law_cell_here", "_law_k"] spMixed) : FnOk P w K mg base CX0 2 f fd ["_law_cell_here", "_law_number"] spPool := by
  refine F.ok sc_L_pool (fun vs H Q E h => ?_) (fun cdv A outer s H vs Q E hr h => ?_)
  · obtain ⟨c, n, rfl, _⟩ := h
    rfl
  · obtain ⟨c, n, rfl, h0, h1, q⟩ := h
    refine ⟨_, (pss_cons (ps_set (i := 2) sc_L_pool.nd rfl (.inl rfl) (pe_callB call_abs (by rfl) m_abs (by decide +kernel) (pa_cons (pv 0) pa_nil)))
  (pss_cons (ps_set (i := 3) sc_L_pool.nd rfl (.inl rfl) (pe_cmpR op_ge (pv 2) (pe_op op_pow pe_int pe_int) (nomark _)))
  (pss_cons (ps_set (i := 4) sc_L_pool.nd rfl (.inl rfl) (pe_lst pa_nil))
  (pss_cons (ps_for PassesOwn.never rfl (pi_range1 (by rfl) m_range (pa_cons (pv 1) pa_nil)) (pg_name (i := 5) sc_L_pool.nd rfl (.inl rfl))
    (pss_one (ps_if (PW.pt (pw_and (pt_val (pv 3)) (pw_and1 (pt_cmpR op_gt (pv 2) pe_int (nomark _))))) (pss_cons (ps_expr (pe_bm PySem.F.plainAttrs_list PySem.F.slot_list_append PySem.F.type_list_append mt_append (pv 4) (pa_cons (pe_op op_mod (pv 2) pe_int) pa_nil)))
  (pss_one (ps_set (i := 2) sc_L_pool.nd rfl (.inl rfl) (pe_op op_fdiv (pv 2) pe_int)))) (pss_one (ps_expr (pe_bm PySem.F.plainAttrs_list PySem.F.slot_list_append PySem.F.type_list_append mt_append (pv 4) (pa_cons (pe_callD d_L_mixed (hr.mono (by decide)) (by rfl) (pa_cons (pv 0) (pa_cons (pv 5) pa_nil))) pa_nil)))))))
  (pss_one (ps_ret (pv 4))))))), ?_⟩
    have ha : 0 ≤ (if c < 0 then -c else c) := by split <;> omega
    refine ⟨_, rfl, _, rfl, _, rfl, _, _, rfl, rfl, ⟨by decide, by decide, by decide⟩, _, _, rfl, rfl, ?_⟩
    refine ⟨Nat.zero_le _, fun p np => ?_⟩
    refine ⟨_, rfl, _, rfl, by omega, by omega, for_range (fun i σ H' => ∃ (r : Int) (b : Bool) (ns : List Int) (y : Option V), σ = [some (.int c), some (.int n), some (.int r), some (.bl b), some (.ref p), y] ∧ 0 ≤ r ∧ ns.length = i ∧ (∀ x ∈ ns, 0 ≤ x) ∧ H' = upd H p (.lst (ns.map V.int))) ⟨_, _, [], _, rfl, ha, rfl, (fun x hx => nomatch hx), rfl⟩ ?_ ?_⟩
    · rintro i σ H' hi ⟨r, b, ns, y, rfl, r0, hl, hx, rfl⟩
      have hz : (ns.map V.int).length < sizeLine := by rw [List.length_map]; exact small1000 (by omega)
      refine ⟨_, rfl, _, rfl, ite2 (fun e => ?_) (fun e => ?_)⟩
      · refine ⟨_, rfl, _, _, rfl, rfl, _, rfl, ite2 (fun e => ?_) (fun e => ?_)⟩
        · refine ⟨_, rfl, .inl ⟨rfl, _, lstAt upd_same⟩, _, rfl, _, _, rfl, rfl, pz, _, _, _, rfl, rfl, upd_same, hz, ?_⟩
          refine ⟨_, rfl, _, _, rfl, rfl, ⟨by decide, by decide⟩, ?_⟩
          refine ⟨_, b, ns ++ [r % 5040], _, rfl, Int.ediv_nonneg r0 (by decide), by rw [List.length_append, hl]; rfl, ?_, ?_⟩
          · intro x h
            rcases List.mem_append.mp h with h | h
            · exact hx x h
            · cases List.mem_singleton.mp h; exact Int.emod_nonneg _ (by decide)
          · rw [upd_twice, List.map_append]; rfl
        · refine ⟨_, rfl, .inl ⟨rfl, _, lstAt upd_same⟩, _, rfl, _, rfl, _, _, rfl, by omega, by omega, fun z z0 => ⟨_, _, _, rfl, rfl, upd_same, hz, r, b, ns ++ [z], _, rfl, r0, by rw [List.length_append, hl]; rfl, ?_, ?_⟩⟩
          · intro x h
            rcases List.mem_append.mp h with h | h
            · exact hx x h
            · cases List.mem_singleton.mp h; exact z0
          · rw [upd_twice, List.map_append]; rfl
      · refine iteF ?_
        refine ⟨_, rfl, .inl ⟨rfl, _, lstAt upd_same⟩, _, rfl, _, rfl, _, _, rfl, by omega, by omega, fun z z0 => ⟨_, _, _, rfl, rfl, upd_same, hz, r, b, ns ++ [z], _, rfl, r0, by rw [List.length_append, hl]; rfl, ?_, ?_⟩⟩
        · intro x h
          rcases List.mem_append.mp h with h | h
          · exact hx x h
          · cases List.mem_singleton.mp h; exact z0
        · rw [upd_twice, List.map_append]; rfl
    · rintro σ H' ⟨r, b, ns, y, rfl, r0, hl, hx, rfl⟩
      exact ⟨_, rfl, q p ns np (by omega) hx⟩
/-! _law_far -/
/-! _law_chosen: from 0 to the crest -/
end
end TK

namespace TK
open PySem PySem.Spec PyProof.Rows L2
/-! ### texts as lists of codes -/
def sOf (l : List Nat) : Str := ⟨l.toArray⟩
theorem sOf_codes (l : List Nat) : (sOf l).cps.toList = l := rfl
theorem sOf_len (l : List Nat) : (sOf l).length = l.length := by simp [sOf, Str.length]
theorem sOf_app (a b : List Nat) : sOf a ++ sOf b = sOf (a ++ b) := by
  show (⟨a.toArray ++ b.toArray⟩ : Str) = ⟨(a ++ b).toArray⟩
  simp
theorem sOf_inj {a b : List Nat} (h : sOf a = sOf b) : a = b := by
  have := congrArg (fun z : Str => z.cps.toList) h
  exact this
theorem sOf_one (c : Nat) : (⟨#[c]⟩ : Str) = sOf [c] := rfl
theorem cut_to (l : List Nat) {m : Int} (h : 0 ≤ m) : cutS (sOf l) none (some m) = sOf (l.take m.toNat) := by
  obtain ⟨k, rfl⟩ : ∃ k : Nat, m = (k : Int) := ⟨m.toNat, by omega⟩
  unfold cutS
  rw [HT.sIx_none, HT.sIx_nat, sOf_len, sOf_codes, List.drop_zero, Nat.sub_zero, Int.toNat_natCast]
  show sOf _ = sOf _
  congr 1
  by_cases hk : k ≤ l.length
  · rw [Nat.min_eq_left hk]
  · rw [Nat.min_eq_right (by omega), List.take_of_length_le (by omega), List.take_of_length_le (by omega)]
theorem cut_from (l : List Nat) {m : Int} (h : 0 ≤ m) : cutS (sOf l) (some m) none = sOf (l.drop m.toNat) := by
  obtain ⟨k, rfl⟩ : ∃ k : Nat, m = (k : Int) := ⟨m.toNat, by omega⟩
  unfold cutS
  rw [HT.sIx_none, HT.sIx_nat, sOf_len, sOf_codes, Int.toNat_natCast]
  show sOf _ = sOf _
  congr 1
  by_cases hk : k ≤ l.length
  · rw [Nat.min_eq_left hk, List.take_of_length_le (by rw [List.length_drop]; omega)]
  · rw [Nat.min_eq_right (by omega), List.drop_of_length_le (by omega), List.drop_of_length_le (by omega), List.take_nil]
def lettersZ : Str := Str.ofString "abcdefghijklmnopqrstuvwxyz"
theorem letters_codes : lettersZ.cps.toList = (List.range 26).map (97 + ·) := by decide +kernel
theorem letters_len : lettersZ.length = 26 := by decide +kernel
theorem letter_at {i : Int} (h0 : 0 ≤ i) (h1 : i < 26) : atI lettersZ.cps.toList i = some (97 + i.toNat) := by
  refine atI_in h0 ?_
  rw [letters_codes, List.getElem?_map, List.getElem?_range (by omega)]
  rfl
def Let (l : List Nat) : Prop := ∀ c ∈ l, 97 ≤ c ∧ c ≤ 122
theorem Let.app {a b : List Nat} (h : Let a) (k : Let b) : Let (a ++ b) := fun c hc => by
  rcases List.mem_append.mp hc with e | e
  · exact h c e
  · exact k c e
theorem Let.one {n : Nat} (h : n < 26) : Let [97 + n] := fun c hc => by
  cases List.mem_singleton.mp hc
  omega
theorem Let.take {a : List Nat} (h : Let a) (n : Nat) : Let (a.take n) := fun c hc => h c (List.mem_of_mem_take hc)
theorem Let.drop {a : List Nat} (h : Let a) (n : Nat) : Let (a.drop n) := fun c hc => h c (List.mem_of_mem_drop hc)
/-- a name: 1 to 8 letters -/
def Nm (l : List Nat) : Prop := 1 ≤ l.length ∧ l.length ≤ 8 ∧ Let l
def nameF (b : Bool) (stem short tail : List Nat) (cut first turn : Nat) (k : Nat) : List Nat :=
  if b = true then short.take cut ++ [97 + (first + 7 * ((k + turn) % 6)) % 26] ++ short.drop cut ++ tail else stem.take ((k + turn) % 6 + 1)
theorem nameF_nm {b : Bool} {stem short tail : List Nat} {cut first turn k : Nat} (hs : stem.length = 6) (hsh : short.length ≤ 6) (ht : tail.length ≤ 1) (l1 : Let stem) (l2 : Let short) (l3 : Let tail) : Nm (nameF b stem short tail cut first turn k) := by
  unfold nameF
  cases b with
  | true =>
    rw [if_pos rfl]
    have e : (short.take cut).length + (short.drop cut).length = short.length := by rw [← List.length_append, List.take_append_drop]
    refine ⟨?_, ?_, (((l2.take _).app (.one (Nat.mod_lt _ (by decide)))).app (l2.drop _)).app l3⟩
    · simp only [List.length_append, List.length_cons, List.length_nil]; omega
    · simp only [List.length_append, List.length_cons, List.length_nil]; omega
  | false =>
    rw [if_neg (by decide)]
    have := Nat.mod_lt (k + turn) (show 6 > 0 by decide)
    exact ⟨by rw [List.length_take]; omega, by rw [List.length_take]; omega, l1.take _⟩
theorem nameF_inj {b : Bool} {stem short tail : List Nat} {cut first turn k j : Nat} (hs : stem.length = 6) (hk : k < 6) (hj : j < 6) (h : nameF b stem short tail cut first turn k = nameF b stem short tail cut first turn j) : k = j := by
  unfold nameF at h
  cases b with
  | true =>
    rw [if_pos rfl, if_pos rfl] at h
    simp only [List.append_assoc, List.append_cancel_left_eq, List.cons_append, List.nil_append, List.cons.injEq] at h
    have := h.1
    omega
  | false =>
    rw [if_neg (by decide), if_neg (by decide)] at h
    have e := congrArg List.length h
    rw [List.length_take, List.length_take, hs] at e
    omega
theorem nodup_range {f : Nat → List Nat} : ∀ {n : Nat}, (∀ k j, k < n → j < n → f k = f j → k = j) → ((List.range n).map f).Nodup := by
  intro n h
  rw [List.nodup_iff_pairwise_ne, List.pairwise_map]
  refine List.Pairwise.imp_of_mem ?_ (List.nodup_iff_pairwise_ne.mp List.nodup_range)
  intro a b ha hb hne e
  exact hne (h a b (List.mem_range.mp ha) (List.mem_range.mp hb) e)
def vN (l : List Nat) : V := .str (sOf l)
section
variable {P : Program} {w : World} {K : PySem.W.Frag} {mg : Str → Option Value} {base : Heap}
/-! _law_names -/
def spNames (K : PySem.W.Frag) : Sp := fun vs H Q _ => ∃ (a : Addr) (ns : List Int) (s n : Int), vs = [.ref a, .int s, .int n] ∧ SqL K H a (ns.map V.int) ∧ 0 ≤ s ∧ s + 5 ≤ ns.length ∧ 0 ≤ n ∧ n ≤ 6 ∧
  ∀ (p : Addr) (zs : List (List Nat)), H p = none → (zs.length : Int) = n → (∀ z ∈ zs, Nm z) → zs.Nodup → Q (.ref p) (upd H p (.lst (zs.map vN)))
theorem small_len {l : List Nat} (h : l.length ≤ 1000) : (sOf l).length ≤ sizeLine := by rw [sOf_len]; exact Nat.le_of_lt (small1000 h)
theorem ok_L_names {f : Addr} {fd : FuncData} (F : Fun K "_law_names" "_law_names" s_L_names f fd) (m_range : mg "range" = none) (m_int : mg "int" = none) (d_L_part : Def P w K mg base "_law_part" 1 ["_law_pool_here", "_law_spot", "_law_under", "_law_size"] (spPart K)) : FnOk P w K mg base CX0 2 f fd ["_law_pool_here", "_law_spot", "_law_number"] (spNames K) := by
  refine F.ok sc_L_names (fun vs H Q E h => ?_) (fun cdv A outer s H vs Q E hr h => ?_)
  · obtain ⟨a, ns, s, n, rfl, _⟩ := h
    rfl
  · obtain ⟨a, ns, s, n, rfl, hS, h0, h1, h2, h3, q⟩ := h
    refine ⟨_, (pss_cons (ps_set (i := 3) sc_L_names.nd rfl (.inl rfl) pe_str)
  (pss_cons (ps_set (i := 4) sc_L_names.nd rfl (.inl rfl) pe_str)
  (pss_cons (ps_for PassesOwn.never rfl (pi_range1 (by rfl) m_range (pa_cons pe_int pa_nil)) (pg_name (i := 5) sc_L_names.nd rfl (.inl rfl))
    (pss_one (ps_set (i := 4) sc_L_names.nd rfl (.inl rfl) (pe_op op_add_str (pe_op op_add_str (pv 4) (pe_ix ix_str (pv 3) (pe_callD d_L_part (hr.mono (by decide)) (by rfl) (pa_cons (pv 0) (pa_cons (pe_op op_add (pv 1) (pv 5)) (pa_cons pe_int (pa_cons pe_int pa_nil))))) (fun _ _ => rfl))) (pe_ix ix_str (pv 3) (pe_callD d_L_part (hr.mono (by decide)) (by rfl) (pa_cons (pv 0) (pa_cons (pe_op op_add (pv 1) (pv 5)) (pa_cons pe_int (pa_cons pe_int pa_nil))))) (fun _ _ => rfl))))))
  (pss_cons (ps_set (i := 6) sc_L_names.nd rfl (.inl rfl) (pe_callD d_L_part (hr.mono (by decide)) (by rfl) (pa_cons (pv 0) (pa_cons (pe_op op_add (pv 1) pe_int) (pa_cons pe_int (pa_cons pe_int pa_nil))))))
  (pss_cons (ps_set (i := 7) sc_L_names.nd rfl (.inl rfl) (pe_callD d_L_part (hr.mono (by decide)) (by rfl) (pa_cons (pv 0) (pa_cons (pe_op op_add (pv 1) pe_int) (pa_cons pe_int (pa_cons pe_int pa_nil))))))
  (pss_cons (ps_set (i := 8) sc_L_names.nd rfl (.inl rfl) (pe_callD d_L_part (hr.mono (by decide)) (by rfl) (pa_cons (pv 0) (pa_cons (pe_op op_add (pv 1) pe_int) (pa_cons pe_int (pa_cons pe_int pa_nil))))))
  (pss_cons (ps_set (i := 9) sc_L_names.nd rfl (.inl rfl) (pe_slice sl_str (pv 4) po_none (po_some (pe_callD d_L_part (hr.mono (by decide)) (by rfl) (pa_cons (pv 0) (pa_cons (pe_op op_add (pv 1) pe_int) (pa_cons pe_int (pa_cons pe_int pa_nil))))))))
  (pss_cons (ps_set (i := 10) sc_L_names.nd rfl (.inl rfl) (pe_slice sl_str (pv 4) po_none (po_some (pe_callD d_L_part (hr.mono (by decide)) (by rfl) (pa_cons (pv 0) (pa_cons (pe_op op_add (pv 1) pe_int) (pa_cons pe_int (pa_cons pe_int pa_nil))))))))
  (pss_cons (ps_set (i := 11) sc_L_names.nd rfl (.inl rfl) (pe_lst pa_nil))
  (pss_cons (ps_for PassesOwn.never rfl (pi_range1 (by rfl) m_range (pa_cons (pv 2) pa_nil)) (pg_name (i := 5) sc_L_names.nd rfl (.inl rfl))
    (pss_cons (ps_set (i := 12) sc_L_names.nd rfl (.inl rfl) (pe_op op_mod (pe_callTy call_int1 (by rfl) m_int (by decide +kernel) (pa_cons (pe_op op_add (pv 5) (pv 6)) pa_nil)) pe_int))
  (pss_one (ps_if (pt_cmpR op_eq (pe_callD d_L_part (hr.mono (by decide)) (by rfl) (pa_cons (pv 0) (pa_cons (pe_op op_add (pv 1) pe_int) (pa_cons pe_int (pa_cons pe_int pa_nil))))) pe_int (nomark _)) (pss_one (ps_expr (pe_bm PySem.F.plainAttrs_list PySem.F.slot_list_append PySem.F.type_list_append mt_append (pv 11) (pa_cons (pe_op op_add_str (pe_op op_add_str (pe_op op_add_str (pe_slice sl_str (pv 9) po_none (po_some (pv 7))) (pe_ix ix_str (pv 3) (pe_op op_mod (pe_callTy call_int1 (by rfl) m_int (by decide +kernel) (pa_cons (pe_op op_add (pv 8) (pe_op op_mul pe_int (pv 12))) pa_nil)) pe_int) (fun _ _ => rfl))) (pe_slice sl_str (pv 9) (po_some (pv 7)) po_none)) (pv 10)) pa_nil)))) (pss_one (ps_expr (pe_bm PySem.F.plainAttrs_list PySem.F.slot_list_append PySem.F.type_list_append mt_append (pv 11) (pa_cons (pe_slice sl_str (pv 4) po_none (po_some (pe_op op_add (pv 12) pe_int))) pa_nil))))))))
  (pss_one (ps_ret (pv 11))))))))))))), ?_⟩
    refine ⟨_, rfl, by decide, by decide, for_range (fun i σ H' => H' = H ∧ ∃ (st : List Nat) (y : Option V), σ = [some (.ref a), some (.int s), some (.int n), some (.str lettersZ), some (vN st), y, none, none, none, none, none, none, none] ∧ st.length = 2 * i ∧ Let st) ⟨rfl, [], _, rfl, rfl, fun c hc => nomatch hc⟩ ?_ ?_⟩
    · rintro i σ H' hi ⟨rfl, st, y, rfl, hl, le⟩
      have hi3 : i < 3 := hi
      have b1 := part_lo (ns := ns) (s := s + (0 + (i : Int))) (u := 1) (z := 26) (by decide)
      have b2 := part_hi (ns := ns) (s := s + (0 + (i : Int))) (u := 1) (z := 26) (by decide)
      have c1 := part_lo (ns := ns) (s := s + (0 + (i : Int))) (u := 26) (z := 26) (by decide)
      have c2 := part_hi (ns := ns) (s := s + (0 + (i : Int))) (u := 26) (z := 26) (by decide)
      refine ⟨_, rfl, _, rfl, _, rfl, _, rfl, _, rfl, _, _, rfl, rfl, _, _, _, _, _, rfl, hS, by omega, by omega, by decide, by decide, by decide, ?_⟩
      refine ⟨_, _, _, rfl, rfl, by rw [letters_len]; decide, letter_at b1 b2, _, _, rfl, rfl, ?_, ?_⟩
      · rw [sOf_len, sOf_one, sOf_len]; exact Nat.le_of_lt (small1000 (by simp only [List.length_cons, List.length_nil]; omega))
      refine ⟨_, rfl, _, rfl, _, rfl, _, rfl, _, _, rfl, rfl, _, _, _, _, _, rfl, hS, by omega, by omega, by decide, by decide, by decide, ?_⟩
      refine ⟨_, _, _, rfl, rfl, by rw [letters_len]; decide, letter_at c1 c2, _, _, rfl, rfl, ?_, ?_⟩
      · rw [sOf_one, sOf_one, sOf_app, sOf_len, sOf_len]; exact Nat.le_of_lt (small1000 (by simp only [List.length_append, List.length_cons, List.length_nil]; omega))
      refine ⟨rfl, (st ++ [97 + (partOf ns (s + (0 + (i : Int))) 1 26).toNat]) ++ [97 + (partOf ns (s + (0 + (i : Int))) 26 26).toNat], some (.int (0 + (i : Int))), ?_, ?_, ?_⟩
      · rw [sOf_one, sOf_one, sOf_app, sOf_app]; rfl
      · simp only [List.length_append, List.length_cons, List.length_nil]; omega
      · exact (le.app (.one (by omega))).app (.one (by omega))
    · rintro σ H' ⟨rfl, st, y, rfl, hl, le⟩
      have hl : st.length = 6 := hl
      have t1 := part_lo (ns := ns) (s := s + 3) (u := 1) (z := 6) (by decide)
      have t2 := part_hi (ns := ns) (s := s + 3) (u := 1) (z := 6) (by decide)
      have u1 := part_lo (ns := ns) (s := s + 3) (u := 6) (z := 7) (by decide)
      have u2 := part_hi (ns := ns) (s := s + 3) (u := 6) (z := 7) (by decide)
      have v1 := part_lo (ns := ns) (s := s + 3) (u := 42) (z := 26) (by decide)
      have v2 := part_hi (ns := ns) (s := s + 3) (u := 42) (z := 26) (by decide)
      have w1 := part_lo (ns := ns) (s := s + 4) (u := 4) (z := 7) (by decide)
      have w2 := part_hi (ns := ns) (s := s + 4) (u := 4) (z := 7) (by decide)
      have x1 := part_lo (ns := ns) (s := s + 4) (u := 2) (z := 2) (by decide)
      have x2 := part_hi (ns := ns) (s := s + 4) (u := 2) (z := 2) (by decide)
      refine ⟨_, rfl, _, rfl, _, _, rfl, rfl, _, _, _, _, _, rfl, hS, by omega, by omega, by decide, by decide, by decide, ?_⟩
      refine ⟨_, rfl, _, rfl, _, _, rfl, rfl, _, _, _, _, _, rfl, hS, by omega, by omega, by decide, by decide, by decide, ?_⟩
      refine ⟨_, rfl, _, rfl, _, _, rfl, rfl, _, _, _, _, _, rfl, hS, by omega, by omega, by decide, by decide, by decide, ?_⟩
      refine ⟨_, rfl, _, rfl, _, rfl, _, _, rfl, rfl, _, _, _, _, _, rfl, hS, by omega, by omega, by decide, by decide, by decide, _, rfl, _, rfl, small_len (by omega), ?_⟩
      refine ⟨_, rfl, _, rfl, _, rfl, _, _, rfl, rfl, _, _, _, _, _, rfl, hS, by omega, by omega, by decide, by decide, by decide, _, rfl, _, rfl, small_len (by omega), ?_⟩
      rw [cut_to st w1, cut_to st x1]
      refine ⟨Nat.zero_le _, fun p np => ?_⟩
      have hS2 : ∀ o, SqL K (upd H' p o) a (ns.map V.int) := fun o => (same_upd np).seq hS
      let nf := nameF (decide (partOf ns (s + 4) 1 2 = 0)) st (st.take (partOf ns (s + 4) 4 7).toNat) (st.take (partOf ns (s + 4) 2 2).toNat) (partOf ns (s + 3) 6 7).toNat (partOf ns (s + 3) 42 26).toNat (partOf ns (s + 3) 1 6).toNat
      refine ⟨_, rfl, _, rfl, by omega, by omega, for_range (fun i σ H2 => H2 = upd H' p (.lst (((List.range i).map nf).map vN)) ∧ ∃ (y m : Option V), σ = [some (.ref a), some (.int s), some (.int n), some (.str lettersZ), some (vN st), y, some (.int (partOf ns (s + 3) 1 6)), some (.int (partOf ns (s + 3) 6 7)), some (.int (partOf ns (s + 3) 42 26)), some (vN (st.take (partOf ns (s + 4) 4 7).toNat)), some (vN (st.take (partOf ns (s + 4) 2 2).toNat)), some (.ref p), m]) ⟨rfl, _, _, rfl⟩ ?_ ?_⟩
      · rintro i σ H2 hi ⟨rfl, y, m, rfl⟩
        have hz : (((List.range i).map nf).map vN).length < sizeLine := by rw [List.length_map, List.length_map, List.length_range]; exact small1000 (by omega)
        have mk : (0 + (i : Int) + partOf ns (s + 3) 1 6) % 6 = (((i + (partOf ns (s + 3) 1 6).toNat) % 6 : Nat) : Int) := by omega
        have next : ∀ (l : List Nat), l = nf i → ((List.range i).map nf).map vN ++ [vN l] = ((List.range (i + 1)).map nf).map vN := by
          intro l e
          rw [List.range_succ, List.map_append, List.map_append, e]
          rfl
        refine ⟨_, rfl, _, rfl, _, _, rfl, rfl, .inl ⟨_, rfl, _, _, rfl, rfl, pz, ?_⟩⟩
        refine ⟨_, rfl, _, rfl, _, _, rfl, rfl, _, _, _, _, _, rfl, hS2 _, by omega, by omega, by decide, by decide, by decide, rfl, _, rfl, ite2 (fun e => ?_) (fun e => ?_)⟩
        · have e1 : decide (partOf ns (s + 4) 1 2 = 0) = true := by
            have := V.int.inj (of_decide_eq_true e)
            exact decide_eq_true this
          have f1 : 0 ≤ (partOf ns (s + 3) 42 26 + 7 * ((0 + (i : Int) + partOf ns (s + 3) 1 6) % 6)) % 26 := by omega
          have f2 : (partOf ns (s + 3) 42 26 + 7 * ((0 + (i : Int) + partOf ns (s + 3) 1 6) % 6)) % 26 < 26 := by omega
          refine ⟨_, rfl, .inl ⟨rfl, _, lstAt upd_same⟩, ?_⟩
          refine ⟨_, rfl, _, rfl, _, rfl, _, rfl, small_len (by rw [List.length_take]; omega), ?_⟩
          refine ⟨_, rfl, _, rfl, _, rfl, _, _, rfl, rfl, .inl (by decide), _, _, rfl, rfl, .inl ⟨_, rfl, _, _, rfl, rfl, pz, _, _, _, rfl, rfl, by rw [letters_len]; decide, letter_at f1 f2, ?_⟩⟩
          rw [cut_to _ u1]
          refine ⟨_, _, rfl, rfl, ?_, ?_⟩
          · rw [sOf_one, sOf_len, sOf_len]
            exact Nat.le_of_lt (small1000 (by rw [List.length_take, List.length_take]; simp only [List.length_cons, List.length_nil]; omega))
          refine ⟨_, rfl, _, rfl, _, rfl, _, rfl, small_len (by rw [List.length_take]; omega), ?_⟩
          rw [cut_from _ u1, sOf_one, sOf_app]
          refine ⟨_, _, rfl, rfl, ?_, ?_⟩
          · rw [sOf_len, sOf_len]
            exact Nat.le_of_lt (small1000 (by rw [List.length_append, List.length_take, List.length_take, List.length_drop, List.length_take]; simp only [List.length_cons, List.length_nil]; omega))
          refine ⟨_, rfl, _, _, rfl, rfl, ?_, ?_⟩
          · rw [sOf_app, sOf_len, sOf_len]
            exact Nat.le_of_lt (small1000 (by rw [List.length_append, List.length_append, List.length_take, List.length_take, List.length_drop, List.length_take, List.length_take]; simp only [List.length_cons, List.length_nil]; omega))
          rw [sOf_app, sOf_app]
          refine ⟨_, _, _, rfl, rfl, upd_same, hz, ?_, _, _, rfl⟩
          rw [upd_twice]
          congr 2
          refine next _ ?_
          show _ = nameF _ _ _ _ _ _ _ _
          unfold nameF
          rw [if_pos e1]
          congr 5
          omega
        · have e1 : ¬ decide (partOf ns (s + 4) 1 2 = 0) = true := by
            intro z
            have := of_decide_eq_true z
            exact e (decide_eq_true (congrArg V.int this))
          refine ⟨_, rfl, .inl ⟨rfl, _, lstAt upd_same⟩, ?_⟩
          refine ⟨_, rfl, _, rfl, _, _, rfl, rfl, _, rfl, _, rfl, small_len (by omega), ?_⟩
          rw [cut_to _ (show (0 : Int) ≤ (0 + (i : Int) + partOf ns (s + 3) 1 6) % 6 + 1 by omega)]
          refine ⟨_, _, _, rfl, rfl, upd_same, hz, ?_, _, _, rfl⟩
          rw [upd_twice]
          congr 2
          refine next _ ?_
          show _ = nameF _ _ _ _ _ _ _ _
          unfold nameF
          rw [if_neg e1]
          congr 1
          omega
      · rintro σ H2 ⟨rfl, y, m, rfl⟩
        refine ⟨_, rfl, q p ((List.range n.toNat).map nf) np ?_ ?_ ?_⟩
        · rw [List.length_map, List.length_range]; omega
        · intro z hz
          obtain ⟨k, hk, rfl⟩ := List.mem_map.mp hz
          exact nameF_nm hl (by rw [List.length_take]; omega) (by rw [List.length_take]; omega) le (le.take _) (le.take _)
        · refine nodup_range fun k j hk hj e => ?_
          exact nameF_inj hl (by omega) (by omega) e
end
end TK

namespace TK
open PySem PySem.Spec PyProof.Rows L2
section
variable {P : Program} {w : World} {K : PySem.W.Frag} {mg : Str → Option Value} {base : Heap}
/-! _law_integer: of an int -/
def spInteger : Sp := fun vs H Q _ => ∃ i : Int, vs = [.int i] ∧ Q (.bl true) H
theorem ok_L_integer {f : Addr} {fd : FuncData} (F : Fun K "_law_integer" "_law_integer" s_L_integer f fd) (m_isinstance : mg "isinstance" = none) (m_int : mg "int" = none) (m_bool : mg "bool" = none) :
    FnOk P w K mg base CX0 1 f fd ["_law_got"] spInteger := by
  refine F.ok sc_L_integer (fun vs H Q E h => ?_) (fun cdv A outer s H vs Q E hr h => ?_)
  · obtain ⟨i, rfl, _⟩ := h
    rfl
  · obtain ⟨i, rfl, q⟩ := h
    refine ⟨_, (pss_one (ps_ret (pe_and (pe_callB call_isi (by rfl) m_isinstance (by decide +kernel) (pa_cons (pv 0) (pa_cons (pe_bltn (v := .ty "int") (u := .type "int") (by rfl) m_int (by decide +kernel) rfl) pa_nil))) (pe_one (pe_not (pe_callB call_isi (by rfl) m_isinstance (by decide +kernel) (pa_cons (pv 0) (pa_cons (pe_bltn (v := .ty "bool") (u := .type "bool") (by rfl) m_bool (by decide +kernel) rfl) pa_nil)))))))), ?_⟩
    refine ⟨_, rfl, _, _, _, _, true, rfl, .ty "int", .base (.int i), rfl, _, rfl, iteT ?_⟩
    refine ⟨_, rfl, _, _, _, _, false, rfl, .ty "bool", .base (.int i), rfl, _, rfl, ?_⟩
    exact q
end
end TK

namespace TK
open PySem PySem.Spec PyProof.Rows L2
/-! ### the same data, down to a depth -/
def flat1 : V → Bool
  | .non => true | .bl _ => true | .int _ => true | .str _ => true | _ => false
/-- a tuple, known to the object or not -/
def TL (H : Hp) (a : Addr) (xs : List V) : Prop := H a = some (.tup xs) ∨ ∃ o, H a = some (.frz o (.tup xs))
theorem TL.ty {K : PySem.W.Frag} {H : Hp} {a : Addr} {xs : List V} (h : TL H a xs) : TyX K H (.ref a) (.type "tuple") := by
  rcases h with h | ⟨o, h⟩
  · exact .base (.tup h)
  · exact .fTuple h
theorem TL.sq {K : PySem.W.Frag} {H : Hp} {a : Addr} {xs : List V} (h : TL H a xs) : SqT K H a xs := .inl (h.elim .inl .inr)
def Eq2 (H : Hp) : Nat → V → V → Prop
  | 0, x, y => x = y ∧ flat1 x = true
  | n + 1, x, y => (x = y ∧ flat1 x = true) ∨ ∃ (a b : Addr) (xs ys : List V), x = .ref a ∧ y = .ref b ∧ ((H a = some (.lst xs) ∧ H b = some (.lst ys)) ∨ (TL H a xs ∧ TL H b ys)) ∧ xs.length = ys.length ∧ xs.length < 2 ^ 40 ∧
      ∀ (i : Nat) (x y : V), xs[i]? = some x → ys[i]? = some y → Eq2 H n x y
theorem bint {z : V} {H : Hp} {Q : VK} (h : z = .bl true) (q : Q (.bl true) H) : Q z H := h ▸ q
section
variable {P : Program} {w : World} {K : PySem.W.Frag} {mg : Str → Option Value} {base : Heap}
def spSame (n : Nat) : Sp := fun vs H Q _ => ∃ x y, vs = [x, y] ∧ Eq2 H n x y ∧ Q (.bl true) H
theorem same_tail {x y : V} {H : Hp} (ex : x = y) (fx : flat1 x = true) : (x = .non ∧ y = .non) ∨ (∃ b, x = .bl b ∧ y = .bl b) ∨ (∃ i, x = .int i ∧ y = .int i) ∨ ∃ z, x = .str z ∧ y = .str z := by
  subst ex
  cases x with
  | non => exact .inl ⟨rfl, rfl⟩
  | bl b => exact .inr (.inl ⟨b, rfl, rfl⟩)
  | int i => exact .inr (.inr (.inl ⟨i, rfl, rfl⟩))
  | str z => exact .inr (.inr (.inr ⟨z, rfl, rfl⟩))
  | byt _ => cases fx
  | flt _ => cases fx
  | ref _ => cases fx
  | ty _ => cases fx
structure SameTx (K : PySem.W.Frag) (mg : Str → Option Value) : Prop where
  m_isinstance : mg "isinstance" = none
  m_int : mg "int" = none
  m_bool : mg "bool" = none
  m_str : mg "str" = none
  m_tuple : mg "tuple" = none
  m_list : mg "list" = none
  m_len : mg "len" = none
  m_range : mg "range" = none
theorem ok_L_same {f : Addr} {fd : FuncData} (F : Fun K "_law_same" "_law_same" s_L_same f fd) (g : mg "_law_same" = some (.ref f)) (b : Binds K fd ["_law_got", "_law_wanted"] []) (T : SameTx K mg) (d_L_integer : Def P w K mg base "_law_integer" 1 ["_law_got"] spInteger) :
    ∀ n : Nat, n ≤ 10 → FnOk P w K mg base CX0 (n + 2) f fd ["_law_got", "_law_wanted"] (spSame n) := by
  obtain ⟨m_isinstance, m_int, m_bool, m_str, m_tuple, m_list, m_len, m_range⟩ := T
  intro n
  induction n with
  | zero =>
    intro _
    refine F.ok sc_L_same (fun vs H Q E h => ?_) (fun cdv A outer s H vs Q E hr h => ?_)
    · obtain ⟨x, y, rfl, _⟩ := h
      rfl
    · obtain ⟨x, y, rfl, ⟨ex, fx⟩, q⟩ := h
      refine ⟨_, (pss_cons (ps_if (pt_cmpR op_isN (pv 1) pe_non (nomark _)) (pss_one (ps_ret (pe_cmpR op_isN (pv 0) pe_non (nomark _)))) pss_nil)
  (pss_cons (ps_if (pt_cmpR op_isT (pv 1) pe_bl (nomark _)) (pss_one (ps_ret (pe_cmpR op_isT (pv 0) pe_bl (nomark _)))) pss_nil)
  (pss_cons (ps_if (pt_cmpR op_isT (pv 1) pe_bl (nomark _)) (pss_one (ps_ret (pe_cmpR op_isT (pv 0) pe_bl (nomark _)))) pss_nil)
  (pss_cons (ps_if (pt_val (pe_callB call_isi (by rfl) m_isinstance (by decide +kernel) (pa_cons (pv 1) (pa_cons (pe_bltn (v := .ty "int") (u := .type "int") (by rfl) m_int (by decide +kernel) rfl) pa_nil)))) (pss_one (ps_ret (pe_and (pe_callD d_L_integer (hr.mono (by omega)) (by rfl) (pa_cons (pv 0) pa_nil)) (pe_one (pe_cmpR op_eq (pv 0) (pv 1) (nomark _)))))) pss_nil)
  (pss_cons (ps_if (pt_val (pe_callB call_isi (by rfl) m_isinstance (by decide +kernel) (pa_cons (pv 1) (pa_cons (pe_bltn (v := .ty "str") (u := .type "str") (by rfl) m_str (by decide +kernel) rfl) pa_nil)))) (pss_one (ps_ret (pe_and (pe_callB call_isi (by rfl) m_isinstance (by decide +kernel) (pa_cons (pv 0) (pa_cons (pe_bltn (v := .ty "str") (u := .type "str") (by rfl) m_str (by decide +kernel) rfl) pa_nil))) (pe_one (pe_cmpR op_eq (pv 0) (pv 1) (nomark _)))))) pss_nil)
  (pss_cons (ps_if (PW.pt (pw_and (pt_val (pe_callB call_isi (by rfl) m_isinstance (by decide +kernel) (pa_cons (pv 1) (pa_cons (pe_bltn (v := .ty "tuple") (u := .type "tuple") (by rfl) m_tuple (by decide +kernel) rfl) pa_nil)))) (pw_and1 (pt_not (pt_val (pe_callB call_isi (by rfl) m_isinstance (by decide +kernel) (pa_cons (pv 0) (pa_cons (pe_bltn (v := .ty "tuple") (u := .type "tuple") (by rfl) m_tuple (by decide +kernel) rfl) pa_nil)))))))) (pss_one (ps_ret pe_bl)) pss_nil)
  (pss_cons (ps_if (PW.pt (pw_and (pt_val (pe_callB call_isi (by rfl) m_isinstance (by decide +kernel) (pa_cons (pv 1) (pa_cons (pe_bltn (v := .ty "list") (u := .type "list") (by rfl) m_list (by decide +kernel) rfl) pa_nil)))) (pw_and1 (pt_not (pt_val (pe_callB call_isi (by rfl) m_isinstance (by decide +kernel) (pa_cons (pv 0) (pa_cons (pe_bltn (v := .ty "list") (u := .type "list") (by rfl) m_list (by decide +kernel) rfl) pa_nil)))))))) (pss_one (ps_ret pe_bl)) pss_nil)
  (pss_cons (ps_if (pt_cmpR op_ne (pe_callB call_len_seq (by rfl) m_len (by decide +kernel) (pa_cons (pv 0) pa_nil)) (pe_callB call_len_seq (by rfl) m_len (by decide +kernel) (pa_cons (pv 1) pa_nil)) (nomark _)) (pss_one (ps_ret pe_bl)) pss_nil)
  (pss_cons ps_never (pss_one ps_never)))))))))), ?_⟩
      rcases same_tail (H := H) ex fx with ⟨rfl, rfl⟩ | ⟨b, rfl, rfl⟩ | ⟨i, rfl, rfl⟩ | ⟨z, rfl, rfl⟩
      · exact ⟨_, rfl, rfl, _, rfl, iteT ⟨_, rfl, rfl, q⟩⟩
      · refine ⟨_, rfl, rfl, _, rfl, iteF ⟨_, rfl, _, rfl, _, rfl, ?_⟩⟩
        cases b with
        | true => exact iteT ⟨_, rfl, _, rfl, q⟩
        | false => exact iteF ⟨_, rfl, _, rfl, _, rfl, iteT ⟨_, rfl, _, rfl, q⟩⟩
      · refine ⟨_, rfl, rfl, _, rfl, iteF ⟨_, rfl, _, rfl, _, rfl, iteF ⟨_, rfl, _, rfl, _, rfl, iteF ?_⟩⟩⟩
        refine ⟨_, rfl, _, _, _, _, true, rfl, .ty "int", .base (.int i), rfl, _, rfl, iteT ?_⟩
        refine ⟨_, rfl, i, rfl, _, rfl, iteT ⟨_, rfl, _, rfl, rfl, ?_⟩⟩
        exact bint (congrArg V.bl (decide_eq_true rfl)) q
      · refine ⟨_, rfl, rfl, _, rfl, iteF ⟨_, rfl, _, rfl, _, rfl, iteF ⟨_, rfl, _, rfl, _, rfl, iteF ?_⟩⟩⟩
        refine ⟨_, rfl, _, _, _, _, false, rfl, .ty "int", .base (.str z), rfl, _, rfl, iteF ?_⟩
        refine ⟨_, rfl, _, _, _, _, true, rfl, .ty "str", .base (.str z), rfl, _, rfl, iteT ?_⟩
        refine ⟨_, rfl, _, _, _, _, true, rfl, .ty "str", .base (.str z), rfl, _, rfl, iteT ⟨_, rfl, _, rfl, rfl, ?_⟩⟩
        exact bint (congrArg V.bl (decide_eq_true rfl)) q
  | succ n ih =>
    intro hn
    have d_L_same : Def P w K mg base "_law_same" (n + 2) ["_law_got", "_law_wanted"] (spSame n) := ⟨_, _, ih (by omega), g, F.kp, b⟩
    refine F.ok sc_L_same (fun vs H Q E h => ?_) (fun cdv A outer s H vs Q E hr h => ?_)
    · obtain ⟨x, y, rfl, _⟩ := h
      rfl
    · obtain ⟨x, y, rfl, hE, q⟩ := h
      rcases hE with ⟨ex, fx⟩ | ⟨a, c, xs, ys, rfl, rfl, hk, hl, hz, hi⟩
      · refine ⟨_, (pss_cons (ps_if (pt_cmpR op_isN (pv 1) pe_non (nomark _)) (pss_one (ps_ret (pe_cmpR op_isN (pv 0) pe_non (nomark _)))) pss_nil)
  (pss_cons (ps_if (pt_cmpR op_isT (pv 1) pe_bl (nomark _)) (pss_one (ps_ret (pe_cmpR op_isT (pv 0) pe_bl (nomark _)))) pss_nil)
  (pss_cons (ps_if (pt_cmpR op_isT (pv 1) pe_bl (nomark _)) (pss_one (ps_ret (pe_cmpR op_isT (pv 0) pe_bl (nomark _)))) pss_nil)
  (pss_cons (ps_if (pt_val (pe_callB call_isi (by rfl) m_isinstance (by decide +kernel) (pa_cons (pv 1) (pa_cons (pe_bltn (v := .ty "int") (u := .type "int") (by rfl) m_int (by decide +kernel) rfl) pa_nil)))) (pss_one (ps_ret (pe_and (pe_callD d_L_integer (hr.mono (by omega)) (by rfl) (pa_cons (pv 0) pa_nil)) (pe_one (pe_cmpR op_eq (pv 0) (pv 1) (nomark _)))))) pss_nil)
  (pss_cons (ps_if (pt_val (pe_callB call_isi (by rfl) m_isinstance (by decide +kernel) (pa_cons (pv 1) (pa_cons (pe_bltn (v := .ty "str") (u := .type "str") (by rfl) m_str (by decide +kernel) rfl) pa_nil)))) (pss_one (ps_ret (pe_and (pe_callB call_isi (by rfl) m_isinstance (by decide +kernel) (pa_cons (pv 0) (pa_cons (pe_bltn (v := .ty "str") (u := .type "str") (by rfl) m_str (by decide +kernel) rfl) pa_nil))) (pe_one (pe_cmpR op_eq (pv 0) (pv 1) (nomark _)))))) pss_nil)
  (pss_cons (ps_if (PW.pt (pw_and (pt_val (pe_callB call_isi (by rfl) m_isinstance (by decide +kernel) (pa_cons (pv 1) (pa_cons (pe_bltn (v := .ty "tuple") (u := .type "tuple") (by rfl) m_tuple (by decide +kernel) rfl) pa_nil)))) (pw_and1 (pt_not (pt_val (pe_callB call_isi (by rfl) m_isinstance (by decide +kernel) (pa_cons (pv 0) (pa_cons (pe_bltn (v := .ty "tuple") (u := .type "tuple") (by rfl) m_tuple (by decide +kernel) rfl) pa_nil)))))))) (pss_one (ps_ret pe_bl)) pss_nil)
  (pss_cons (ps_if (PW.pt (pw_and (pt_val (pe_callB call_isi (by rfl) m_isinstance (by decide +kernel) (pa_cons (pv 1) (pa_cons (pe_bltn (v := .ty "list") (u := .type "list") (by rfl) m_list (by decide +kernel) rfl) pa_nil)))) (pw_and1 (pt_not (pt_val (pe_callB call_isi (by rfl) m_isinstance (by decide +kernel) (pa_cons (pv 0) (pa_cons (pe_bltn (v := .ty "list") (u := .type "list") (by rfl) m_list (by decide +kernel) rfl) pa_nil)))))))) (pss_one (ps_ret pe_bl)) pss_nil)
  (pss_cons (ps_if (pt_cmpR op_ne (pe_callB call_len_seq (by rfl) m_len (by decide +kernel) (pa_cons (pv 0) pa_nil)) (pe_callB call_len_seq (by rfl) m_len (by decide +kernel) (pa_cons (pv 1) pa_nil)) (nomark _)) (pss_one (ps_ret pe_bl)) pss_nil)
  (pss_cons ps_never (pss_one ps_never)))))))))), ?_⟩
        rcases same_tail (H := H) ex fx with ⟨rfl, rfl⟩ | ⟨b, rfl, rfl⟩ | ⟨i, rfl, rfl⟩ | ⟨z, rfl, rfl⟩
        · exact ⟨_, rfl, rfl, _, rfl, iteT ⟨_, rfl, rfl, q⟩⟩
        · refine ⟨_, rfl, rfl, _, rfl, iteF ⟨_, rfl, _, rfl, _, rfl, ?_⟩⟩
          cases b with
          | true => exact iteT ⟨_, rfl, _, rfl, q⟩
          | false => exact iteF ⟨_, rfl, _, rfl, _, rfl, iteT ⟨_, rfl, _, rfl, q⟩⟩
        · refine ⟨_, rfl, rfl, _, rfl, iteF ⟨_, rfl, _, rfl, _, rfl, iteF ⟨_, rfl, _, rfl, _, rfl, iteF ?_⟩⟩⟩
          refine ⟨_, rfl, _, _, _, _, true, rfl, .ty "int", .base (.int i), rfl, _, rfl, iteT ?_⟩
          refine ⟨_, rfl, i, rfl, _, rfl, iteT ⟨_, rfl, _, rfl, rfl, ?_⟩⟩
          exact bint (congrArg V.bl (decide_eq_true rfl)) q
        · refine ⟨_, rfl, rfl, _, rfl, iteF ⟨_, rfl, _, rfl, _, rfl, iteF ⟨_, rfl, _, rfl, _, rfl, iteF ?_⟩⟩⟩
          refine ⟨_, rfl, _, _, _, _, false, rfl, .ty "int", .base (.str z), rfl, _, rfl, iteF ?_⟩
          refine ⟨_, rfl, _, _, _, _, true, rfl, .ty "str", .base (.str z), rfl, _, rfl, iteT ?_⟩
          refine ⟨_, rfl, _, _, _, _, true, rfl, .ty "str", .base (.str z), rfl, _, rfl, iteT ⟨_, rfl, _, rfl, rfl, ?_⟩⟩
          exact bint (congrArg V.bl (decide_eq_true rfl)) q
      · have step : ∀ (i : Nat) (hi1 : i < ys.length), ∃ x y, atI xs (0 + (i : Int)) = some x ∧ atI ys (0 + (i : Int)) = some y ∧ Eq2 H n x y := by
          intro i h1
          have h2 : i < xs.length := by omega
          refine ⟨xs[i], ys[i], ?_, ?_, hi i _ _ (List.getElem?_eq_getElem h2) (List.getElem?_eq_getElem h1)⟩
          · exact atI_in (by omega) (by rw [show (0 + (i : Int)).toNat = i by omega]; exact List.getElem?_eq_getElem h2)
          · exact atI_in (by omega) (by rw [show (0 + (i : Int)).toNat = i by omega]; exact List.getElem?_eq_getElem h1)
        rcases hk with ⟨ha, hc⟩ | ⟨ha, hc⟩
        · refine ⟨_, (pss_cons (ps_if (pt_cmpR op_isN (pv 1) pe_non (nomark _)) (pss_one (ps_ret (pe_cmpR op_isN (pv 0) pe_non (nomark _)))) pss_nil)
  (pss_cons (ps_if (pt_cmpR op_isT (pv 1) pe_bl (nomark _)) (pss_one (ps_ret (pe_cmpR op_isT (pv 0) pe_bl (nomark _)))) pss_nil)
  (pss_cons (ps_if (pt_cmpR op_isT (pv 1) pe_bl (nomark _)) (pss_one (ps_ret (pe_cmpR op_isT (pv 0) pe_bl (nomark _)))) pss_nil)
  (pss_cons (ps_if (pt_val (pe_callB call_isi (by rfl) m_isinstance (by decide +kernel) (pa_cons (pv 1) (pa_cons (pe_bltn (v := .ty "int") (u := .type "int") (by rfl) m_int (by decide +kernel) rfl) pa_nil)))) (pss_one (ps_ret (pe_and (pe_callD d_L_integer (hr.mono (by omega)) (by rfl) (pa_cons (pv 0) pa_nil)) (pe_one (pe_cmpR op_eq (pv 0) (pv 1) (nomark _)))))) pss_nil)
  (pss_cons (ps_if (pt_val (pe_callB call_isi (by rfl) m_isinstance (by decide +kernel) (pa_cons (pv 1) (pa_cons (pe_bltn (v := .ty "str") (u := .type "str") (by rfl) m_str (by decide +kernel) rfl) pa_nil)))) (pss_one (ps_ret (pe_and (pe_callB call_isi (by rfl) m_isinstance (by decide +kernel) (pa_cons (pv 0) (pa_cons (pe_bltn (v := .ty "str") (u := .type "str") (by rfl) m_str (by decide +kernel) rfl) pa_nil))) (pe_one (pe_cmpR op_eq (pv 0) (pv 1) (nomark _)))))) pss_nil)
  (pss_cons (ps_if (PW.pt (pw_and (pt_val (pe_callB call_isi (by rfl) m_isinstance (by decide +kernel) (pa_cons (pv 1) (pa_cons (pe_bltn (v := .ty "tuple") (u := .type "tuple") (by rfl) m_tuple (by decide +kernel) rfl) pa_nil)))) (pw_and1 (pt_not (pt_val (pe_callB call_isi (by rfl) m_isinstance (by decide +kernel) (pa_cons (pv 0) (pa_cons (pe_bltn (v := .ty "tuple") (u := .type "tuple") (by rfl) m_tuple (by decide +kernel) rfl) pa_nil)))))))) (pss_one (ps_ret pe_bl)) pss_nil)
  (pss_cons (ps_if (PW.pt (pw_and (pt_val (pe_callB call_isi (by rfl) m_isinstance (by decide +kernel) (pa_cons (pv 1) (pa_cons (pe_bltn (v := .ty "list") (u := .type "list") (by rfl) m_list (by decide +kernel) rfl) pa_nil)))) (pw_and1 (pt_not (pt_val (pe_callB call_isi (by rfl) m_isinstance (by decide +kernel) (pa_cons (pv 0) (pa_cons (pe_bltn (v := .ty "list") (u := .type "list") (by rfl) m_list (by decide +kernel) rfl) pa_nil)))))))) (pss_one (ps_ret pe_bl)) pss_nil)
  (pss_cons (ps_if (pt_cmpR op_ne (pe_callB call_len_seq (by rfl) m_len (by decide +kernel) (pa_cons (pv 0) pa_nil)) (pe_callB call_len_seq (by rfl) m_len (by decide +kernel) (pa_cons (pv 1) pa_nil)) (nomark _)) (pss_one (ps_ret pe_bl)) pss_nil)
  (pss_cons (ps_for PassesOwn.never rfl (pi_range1 (by rfl) m_range (pa_cons (pe_callB call_len_seq (by rfl) m_len (by decide +kernel) (pa_cons (pv 1) pa_nil)) pa_nil)) (pg_name (i := 2) sc_L_same.nd rfl (.inl rfl))
    (pss_one (ps_if (pt_not (pt_val (pe_callD d_L_same (hr.mono (by omega)) (by rfl) (pa_cons (pe_ix ix_list (pv 0) (pv 2) (fun _ _ => rfl)) (pa_cons (pe_ix ix_list (pv 1) (pv 2) (fun _ _ => rfl)) pa_nil))))) (pss_one (ps_ret pe_bl)) pss_nil)))
  (pss_one (ps_ret pe_bl))))))))))), ?_⟩
          refine ⟨_, rfl, rfl, _, rfl, iteF ⟨_, rfl, _, rfl, _, rfl, iteF ⟨_, rfl, _, rfl, _, rfl, iteF ?_⟩⟩⟩
          refine ⟨_, rfl, _, _, _, _, false, rfl, .ty "int", .base (.lst hc), rfl, _, rfl, iteF ?_⟩
          refine ⟨_, rfl, _, _, _, _, false, rfl, .ty "str", .base (.lst hc), rfl, _, rfl, iteF ?_⟩
          refine ⟨_, rfl, _, _, _, _, false, rfl, .ty "tuple", .base (.lst hc), rfl, _, rfl, iteF (iteF ?_)⟩
          refine ⟨_, rfl, _, _, _, _, true, rfl, .ty "list", .base (.lst hc), rfl, _, rfl, iteT ⟨_, rfl, _, _, _, _, true, rfl, .ty "list", .base (.lst ha), rfl, _, rfl, iteF ?_⟩⟩
          refine ⟨_, rfl, _, _, rfl, .inl (lstAt ha), _, rfl, _, _, rfl, .inl (lstAt hc), rfl, _, rfl, ?_⟩
          refine iteNS (congrArg (fun k : Nat => V.int (k : Int)) hl) ?_
          refine ⟨_, rfl, _, _, rfl, .inl (lstAt hc), _, rfl, by omega, by omega, for_range (fun i σ H' => H' = H ∧ ∃ y : Option V, σ = [some (.ref a), some (.ref c), y]) ⟨rfl, _, rfl⟩ ?_ ?_⟩
          · rintro i σ H' hlt ⟨rfl, y, rfl⟩
            obtain ⟨x1, y1, e1, e2, e3⟩ := step i (by omega)
            refine ⟨_, rfl, _, rfl, _, _, _, _, rfl, rfl, lstAt ha, e1, _, rfl, _, rfl, _, _, _, _, rfl, rfl, lstAt hc, e2, x1, y1, rfl, e3, _, rfl, iteF ⟨rfl, _, rfl⟩⟩
          · rintro σ H' ⟨rfl, y, rfl⟩
            exact q
        · refine ⟨_, (pss_cons (ps_if (pt_cmpR op_isN (pv 1) pe_non (nomark _)) (pss_one (ps_ret (pe_cmpR op_isN (pv 0) pe_non (nomark _)))) pss_nil)
  (pss_cons (ps_if (pt_cmpR op_isT (pv 1) pe_bl (nomark _)) (pss_one (ps_ret (pe_cmpR op_isT (pv 0) pe_bl (nomark _)))) pss_nil)
  (pss_cons (ps_if (pt_cmpR op_isT (pv 1) pe_bl (nomark _)) (pss_one (ps_ret (pe_cmpR op_isT (pv 0) pe_bl (nomark _)))) pss_nil)
  (pss_cons (ps_if (pt_val (pe_callB call_isi (by rfl) m_isinstance (by decide +kernel) (pa_cons (pv 1) (pa_cons (pe_bltn (v := .ty "int") (u := .type "int") (by rfl) m_int (by decide +kernel) rfl) pa_nil)))) (pss_one (ps_ret (pe_and (pe_callD d_L_integer (hr.mono (by omega)) (by rfl) (pa_cons (pv 0) pa_nil)) (pe_one (pe_cmpR op_eq (pv 0) (pv 1) (nomark _)))))) pss_nil)
  (pss_cons (ps_if (pt_val (pe_callB call_isi (by rfl) m_isinstance (by decide +kernel) (pa_cons (pv 1) (pa_cons (pe_bltn (v := .ty "str") (u := .type "str") (by rfl) m_str (by decide +kernel) rfl) pa_nil)))) (pss_one (ps_ret (pe_and (pe_callB call_isi (by rfl) m_isinstance (by decide +kernel) (pa_cons (pv 0) (pa_cons (pe_bltn (v := .ty "str") (u := .type "str") (by rfl) m_str (by decide +kernel) rfl) pa_nil))) (pe_one (pe_cmpR op_eq (pv 0) (pv 1) (nomark _)))))) pss_nil)
  (pss_cons (ps_if (PW.pt (pw_and (pt_val (pe_callB call_isi (by rfl) m_isinstance (by decide +kernel) (pa_cons (pv 1) (pa_cons (pe_bltn (v := .ty "tuple") (u := .type "tuple") (by rfl) m_tuple (by decide +kernel) rfl) pa_nil)))) (pw_and1 (pt_not (pt_val (pe_callB call_isi (by rfl) m_isinstance (by decide +kernel) (pa_cons (pv 0) (pa_cons (pe_bltn (v := .ty "tuple") (u := .type "tuple") (by rfl) m_tuple (by decide +kernel) rfl) pa_nil)))))))) (pss_one (ps_ret pe_bl)) pss_nil)
  (pss_cons (ps_if (PW.pt (pw_and (pt_val (pe_callB call_isi (by rfl) m_isinstance (by decide +kernel) (pa_cons (pv 1) (pa_cons (pe_bltn (v := .ty "list") (u := .type "list") (by rfl) m_list (by decide +kernel) rfl) pa_nil)))) (pw_and1 (pt_not (pt_val (pe_callB call_isi (by rfl) m_isinstance (by decide +kernel) (pa_cons (pv 0) (pa_cons (pe_bltn (v := .ty "list") (u := .type "list") (by rfl) m_list (by decide +kernel) rfl) pa_nil)))))))) (pss_one (ps_ret pe_bl)) pss_nil)
  (pss_cons (ps_if (pt_cmpR op_ne (pe_callB call_len_seq (by rfl) m_len (by decide +kernel) (pa_cons (pv 0) pa_nil)) (pe_callB call_len_seq (by rfl) m_len (by decide +kernel) (pa_cons (pv 1) pa_nil)) (nomark _)) (pss_one (ps_ret pe_bl)) pss_nil)
  (pss_cons (ps_for PassesOwn.never rfl (pi_range1 (by rfl) m_range (pa_cons (pe_callB call_len_seq (by rfl) m_len (by decide +kernel) (pa_cons (pv 1) pa_nil)) pa_nil)) (pg_name (i := 2) sc_L_same.nd rfl (.inl rfl))
    (pss_one (ps_if (pt_not (pt_val (pe_callD d_L_same (hr.mono (by omega)) (by rfl) (pa_cons (pe_ix ix_tup (pv 0) (pv 2) (fun _ _ => rfl)) (pa_cons (pe_ix ix_tup (pv 1) (pv 2) (fun _ _ => rfl)) pa_nil))))) (pss_one (ps_ret pe_bl)) pss_nil)))
  (pss_one (ps_ret pe_bl))))))))))), ?_⟩
          refine ⟨_, rfl, rfl, _, rfl, iteF ⟨_, rfl, _, rfl, _, rfl, iteF ⟨_, rfl, _, rfl, _, rfl, iteF ?_⟩⟩⟩
          refine ⟨_, rfl, _, _, _, _, false, rfl, .ty "int", hc.ty, rfl, _, rfl, iteF ?_⟩
          refine ⟨_, rfl, _, _, _, _, false, rfl, .ty "str", hc.ty, rfl, _, rfl, iteF ?_⟩
          refine ⟨_, rfl, _, _, _, _, true, rfl, .ty "tuple", hc.ty, rfl, _, rfl, iteT ⟨_, rfl, _, _, _, _, true, rfl, .ty "tuple", ha.ty, rfl, _, rfl, iteF ?_⟩⟩
          refine ⟨_, rfl, _, _, _, _, false, rfl, .ty "list", hc.ty, rfl, _, rfl, iteF (iteF ?_)⟩
          refine ⟨_, rfl, _, _, rfl, .inr (ha.sq), _, rfl, _, _, rfl, .inr (hc.sq), rfl, _, rfl, ?_⟩
          refine iteNS (congrArg (fun k : Nat => V.int (k : Int)) hl) ?_
          refine ⟨_, rfl, _, _, rfl, .inr (hc.sq), _, rfl, by omega, by omega, for_range (fun i σ H' => H' = H ∧ ∃ y : Option V, σ = [some (.ref a), some (.ref c), y]) ⟨rfl, _, rfl⟩ ?_ ?_⟩
          · rintro i σ H' hlt ⟨rfl, y, rfl⟩
            obtain ⟨x1, y1, e1, e2, e3⟩ := step i (by omega)
            refine ⟨_, rfl, _, rfl, _, _, _, _, rfl, rfl, ha.sq, e1, _, rfl, _, rfl, _, _, _, _, rfl, rfl, hc.sq, e2, x1, y1, rfl, e3, _, rfl, iteF ⟨rfl, _, rfl⟩⟩
          · rintro σ H' ⟨rfl, y, rfl⟩
            exact q
end
end TK

namespace TK
open PySem PySem.Spec PyProof.Rows L2
theorem eqv_nm {a b : List Nat} : eqV (vN a) (vN b) = decide (a = b) := by
  show (sOf a == sOf b) = _
  by_cases h : a = b
  · subst h; simp
  · rw [decide_eq_false h]
    exact beq_eq_false_iff_ne.mpr fun z => h (sOf_inj z)
theorem nms_flat (zs : List (List Nat)) : (zs.map vN).all flatV = true := by
  rw [List.all_eq_true]
  intro x hx
  obtain ⟨c, _, rfl⟩ := List.mem_map.mp hx
  rfl
theorem inV_nm {z : List Nat} {zs : List (List Nat)} : inV (vN z) (zs.map vN) = decide (z ∈ zs) := by
  unfold inV
  rw [List.any_map]
  by_cases h : z ∈ zs
  · rw [decide_eq_true h]
    exact List.any_eq_true.mpr ⟨z, h, by show eqV (vN z) (vN z) = true; rw [eqv_nm]; exact decide_eq_true rfl⟩
  · rw [decide_eq_false h]
    exact List.any_eq_false.mpr fun x hx => by
      show ¬ eqV (vN x) (vN z) = true
      rw [eqv_nm]
      intro e
      have := of_decide_eq_true e
      subst this
      exact h hx
theorem in_nm {z : List Nat} {zs : List (List Nat)} : (if false = true then !inV (vN z) (zs.map vN) else inV (vN z) (zs.map vN)) = decide (z ∈ zs) := by
  rw [if_neg (by decide), inV_nm]
theorem notin_nm {z : List Nat} {zs : List (List Nat)} : (if true = true then !inV (vN z) (zs.map vN) else inV (vN z) (zs.map vN)) = !decide (z ∈ zs) := by
  rw [if_pos rfl, inV_nm]
theorem eq_nm {a b : List Nat} : decide (vN a = vN b) = decide (a = b) := by
  by_cases h : a = b
  · subst h; simp
  · rw [decide_eq_false h]
    exact decide_eq_false fun z => h (sOf_inj (V.str.inj z))
theorem vN_at {zs : List (List Nat)} {i : Nat} {x : V} (h : (zs.map vN)[i]? = some x) : ∃ z, zs[i]? = some z ∧ x = vN z := by
  rw [List.getElem?_map] at h
  cases e : zs[i]? with
  | none => rw [e] at h; cases h
  | some z => rw [e] at h; exact ⟨z, rfl, (Option.some.inj h).symm⟩
theorem int_at {zs : List Int} {i : Nat} {x : V} (h : (zs.map V.int)[i]? = some x) : ∃ z, zs[i]? = some z ∧ x = .int z := by
  rw [List.getElem?_map] at h
  cases e : zs[i]? with
  | none => rw [e] at h; cases h
  | some z => rw [e] at h; exact ⟨z, rfl, (Option.some.inj h).symm⟩
section
variable {X : Cx} {K : PySem.W.Frag}
theorem mt_tup_indexK (h : X.K = K) : MtR X "tuple.index" (fun x xs H Q => ∃ p, ∃ ys : List Str, ∃ z j, x = .ref p ∧ xs = [.str z] ∧ SqT K H p (ys.map V.str) ∧ ys[j]? = some z ∧ (∀ m, m < j → ys[m]? ≠ some z) ∧ Q (.int (j : Nat)) H) := h ▸ L2.mt_tup_index
end
theorem vN_strs (zs : List (List Nat)) : zs.map vN = (zs.map sOf).map V.str := by rw [List.map_map]; rfl
theorem idx_first {zs : List (List Nat)} {z : List Nat} (h : z ∈ zs) (nd : zs.Nodup) : ∃ j : Nat, zs[j]? = some z ∧ (∀ m, m < j → zs[m]? ≠ some z) := by
  obtain ⟨j, hj⟩ := List.getElem?_of_mem h
  refine ⟨j, hj, fun m hm e => ?_⟩
  have hjl := (List.getElem?_eq_some_iff.mp hj).1
  have := (List.getElem?_inj hjl nd).mp (hj.trans e.symm)
  omega
theorem str_first {zs : List (List Nat)} {z : List Nat} {j : Nat} (h : zs[j]? = some z) (f : ∀ m, m < j → zs[m]? ≠ some z) : (zs.map sOf)[j]? = some (sOf z) ∧ ∀ m, m < j → (zs.map sOf)[m]? ≠ some (sOf z) := by
  refine ⟨by rw [List.getElem?_map, h]; rfl, fun m hm e => f m hm ?_⟩
  rw [List.getElem?_map] at e
  cases e1 : zs[m]? with
  | none => rw [e1] at e; cases e
  | some y => rw [e1] at e; exact congrArg some (sOf_inj (Option.some.inj e))
theorem take_map_succ {α β : Type} (f : α → β) {xs : List α} {i : Nat} {x : α} (h : xs[i]? = some x) : (xs.map f).take (i + 1) = (xs.map f).take i ++ [f x] := by
  rw [List.take_add_one, List.getElem?_map, h]; rfl
theorem take_all {α : Type} {xs : List α} {n : Nat} (h : xs.length = n) : xs.take n = xs := by rw [← h, List.take_length]
end TK

namespace TK
open PySem PySem.Spec PyProof.Rows L2
def SqS (K : PySem.W.Frag) (H : Hp) (a : Addr) (xs : List V) : Prop := SqL K H a xs ∨ SqT K H a xs
theorem SqS.same {K : PySem.W.Frag} {H H' : Hp} {a : Addr} {xs : List V} (h : SqS K H a xs) (s : Same H H') : SqS K H' a xs := by
  rcases h with h | h
  · exact .inl (s.seq h)
  · exact .inr (same_tup s h)
def spRange : Sp := fun vs H Q _ => ∃ a lo hi : Int, vs = [.int a, .int lo, .int hi] ∧ lo ≤ a ∧ a ≤ hi ∧ Q .non H
theorem cut_names (ws : List (List Nat)) (i : Nat) : cutV (ws.map vN) none (some ((i : Nat) : Int)) = (ws.take i).map vN := by
  unfold cutV
  rw [HT.sIx_none, HT.sIx_nat, List.drop_zero, Nat.sub_zero, List.map_take]
  by_cases h : i ≤ (ws.map vN).length
  · rw [Nat.min_eq_left h]
  · rw [Nat.min_eq_right (by omega), List.take_length, List.take_of_length_le (by omega)]
theorem not_before {zs : List (List Nat)} {i : Nat} {z : List Nat} (nd : zs.Nodup) (h : zs[i]? = some z) : z ∉ zs.take i := by
  intro m
  obtain ⟨j, hj⟩ := List.getElem?_of_mem m
  rw [List.getElem?_take] at hj
  split at hj
  · rename_i hji
    have hl := (List.getElem?_eq_some_iff.mp hj).1
    have := (List.getElem?_inj hl nd).mp (hj.trans h.symm)
    omega
  · cases hj
def capV : Option Int → V
  | none => .non
  | some x => .int x
section
variable {P : Program} {w : World} {K : PySem.W.Frag} {mg : Str → Option Value} {base : Heap}
theorem ok_check_size {f : Addr} {fd : FuncData} (F : Fun K "check_size" "check_size" s_check_size f fd) : FnOk P w K mg base CX0 1 f fd ["size", "low", "high"] spRange := by
  refine F.ok sc_check_size (fun vs H Q E h => ?_) (fun cdv A outer s H vs Q E hr h => ?_)
  · obtain ⟨a, lo, hi, rfl, _⟩ := h
    rfl
  · obtain ⟨a, lo, hi, rfl, h1, h2, q⟩ := h
    refine ⟨_, (pss_one (ps_if (pt_not (pt_chain op_le op_le (pv 1) (pv 0) (pv 2))) (pss_one ps_never) pss_nil)), ?_⟩
    refine ⟨_, rfl, _, rfl, _, _, rfl, rfl, _, rfl, ?_⟩
    rw [decide_eq_true h1]
    refine iteT ⟨_, rfl, _, _, rfl, rfl, _, rfl, ?_⟩
    rw [decide_eq_true h2]
    exact iteF q
/-! is_name, of a name or of the empty text -/
def nz (l : List Nat) : Bool := !l.isEmpty
theorem nz_nm {l : List Nat} (h : Nm l) : nz l = true := by
  obtain ⟨h1, _⟩ := h
  cases l with
  | nil => exact absurd h1 (by decide)
  | cons a l => rfl
def NmH (l : List Nat) : Prop := Nm l ∨ l = []
def spIsNameH : Sp := fun vs H Q _ => ∃ l : List Nat, vs = [vN l] ∧ NmH l ∧ ∀ H', Same H H' → Q (.bl (nz l)) H'
theorem all_true {n : Nat} : (List.replicate n true).all id = true := by
  induction n with
  | zero => rfl
  | succ n ih => rw [List.replicate_succ, List.all_cons, ih]; rfl
theorem ok_is_nameH {f : Addr} {fd : FuncData} (F : Fun K "is_name" "is_name" s_is_name f fd) (m_len : mg "len" = none) (m_all : mg "all" = none) {tk : Tok} (g_LETTERS : mg "LETTERS" = some (.str lettersZ tk)) : FnOk P w K mg base CX0 1 f fd ["word"] spIsNameH := by
  refine F.ok sc_is_name (fun vs H Q E h => ?_) (fun cdv A outer s H vs Q E hr h => ?_)
  · obtain ⟨l, rfl, _⟩ := h
    rfl
  · obtain ⟨l, rfl, hn, q⟩ := h
    refine ⟨_, (pss_one (ps_ret (pe_and (pe_chain op_le op_le pe_int (pe_callB call_len_str (by rfl) m_len (by decide +kernel) (pa_cons (pv 0) pa_nil)) pe_int) (pe_one (pe_callB (cr_all rfl) (by rfl) m_all (by decide +kernel) (pa_cons (pe_lc (own := [("sign", 1)]) (by rfl) sc_is_name.nd (pi_str (pv 0)) (blkOk_by (N := ["word", "sign"]) (sc := defScope s_is_name) (by decide +kernel)) (fun _ _ _ _ _ => (pg_name (i := 1) sc_is_name.nd rfl (.inl rfl))) (fun _ _ _ _ _ => pts_nil) (fun _ _ _ _ _ => (pe_cmpR op_in_sign (pv 1) (pe_glob (v := .str lettersZ) (by rfl) g_LETTERS ⟨_, rfl⟩) (by rfl)))) pa_nil)))))), ?_⟩
    rcases hn with hN | rfl
    · rw [nz_nm hN] at q
      obtain ⟨h1, h2, h3⟩ := hN
      refine ⟨_, rfl, _, rfl, small_len (by omega), _, _, rfl, rfl, _, rfl, ?_⟩
      rw [decide_eq_true (show (1 : Int) ≤ ((sOf l).length : Nat) by rw [sOf_len]; omega)]
      refine iteT ⟨_, _, rfl, rfl, _, rfl, ?_⟩
      rw [decide_eq_true (show (((sOf l).length : Nat) : Int) ≤ 8 by rw [sOf_len]; omega)]
      refine iteT ⟨_, rfl, _, rfl, fun D nD => ?_⟩
      refine lc_it walk_str (fun i H' => H' = upd H D (.lst ((List.replicate i true).map V.bl))) rfl (fun _ _ _ _ => True.intro) (fun i x H1 H2 hi hp hy => ?_) (fun H' hp => ?_)
      · subst hp
        obtain ⟨rfl, c, hc, rfl⟩ := hy
        have hcl : c ∈ l := by
          have : (sOf l).cps.toList[i]? = some c := by rw [Array.getElem?_toList]; exact hc
          exact List.mem_of_getElem? this
        have hin : c ∈ lettersZ.cps.toList := by
          rw [letters_codes]
          have := h3 c hcl
          exact List.mem_map.mpr ⟨c - 97, List.mem_range.mpr (by omega), by omega⟩
        have hil : i < l.length := by
          have : (sOf l).cps.size = l.length := sOf_len l
          omega
        refine ⟨rfl, yesT ⟨_, rfl, _, _, rfl, rfl, _, upd_same, ?_, ?_⟩⟩
        · rw [List.length_map, List.length_replicate]; exact small1000 (by omega)
        · rw [upd_twice, decide_eq_true hin, List.replicate_succ', List.map_append]
          rfl
      · subst hp
        refine ⟨_, _, rfl, lstAt upd_same, ?_⟩
        rw [all_true]
        exact q _ (same_upd nD)
    · refine ⟨_, rfl, _, rfl, small_len (by decide), _, _, rfl, rfl, _, rfl, iteF ⟨_, rfl, iteF (q H (Same.refl H))⟩⟩
/-! check_names, with the hook -/
def spCheckH (K : PySem.W.Frag) : Sp := fun vs H Q _ => ∃ (a : Addr) (m : Int) (zs : List (List Nat)), vs = [.ref a, .int m, .bl true] ∧ SqS K H a (zs.map vN) ∧ 1 ≤ zs.length ∧ (zs.length : Int) ≤ m ∧ zs.length ≤ 6 ∧ (∀ z ∈ zs, NmH z) ∧ zs.Nodup ∧ ∀ H', Same H H' → Q .non H'
theorem empty_nm : vN [] = V.str (Str.ofString "") := rfl
theorem ok_check_namesH {f : Addr} {fd : FuncData} {dvs : List V} {kws : List (Str × V)} (F : FunD K "check_names" "check_names" (defArgs s_check_names) (defBody s_check_names) (defScope s_check_names) dvs kws f fd) (m_len : mg "len" = none) (m_enumerate : mg "enumerate" = none)
    (d_check_size : Def P w K mg base "check_size" 1 ["size", "low", "high"] spRange) (d_is_name : Def P w K mg base "is_name" 1 ["word"] spIsNameH) : FnOk P w K mg base CX0 2 f fd ["names", "most", "hook"] (spCheckH K) := by
  refine F.ok (CX := CX0) sc_check_names (fun vs H Q E h => ?_) (fun cdv A outer s H vs Q E hr h => ?_)
  · obtain ⟨a, m, zs, rfl, _⟩ := h
    rfl
  · obtain ⟨a, m, zs, rfl, hS, l1, l2, l6, nm, nd, q⟩ := h
    have hp : ∀ (i : Nat) (x : V) (H2 : Hp), Same H H2 → (zs.map vN)[i]? = some x → ∃ z, zs[i]? = some z ∧ x = vN z ∧ NmH z := fun i x H2 _ hx => by
      obtain ⟨z, ez, rfl⟩ := vN_at hx
      exact ⟨z, ez, rfl, nm z (List.mem_of_getElem? ez)⟩
    rcases hS with hS | hS
    · refine ⟨_, PSs.nox (pss_cons (ps_expr (pe_callD d_check_size (hr.mono (by decide)) (by rfl) (pa_cons (pe_callB call_len_seq (by rfl) m_len (by decide +kernel) (pa_cons (pv 0) pa_nil)) (pa_cons pe_int (pa_cons (pv 1) pa_nil)))))
  (pss_one (ps_for PassesOwn.never rfl (pi_enum (by rfl) m_enumerate (pa_cons (pv 0) pa_nil)) (pg_tup (by rfl) (pgs_cons (pg_name (i := 3) sc_check_names.nd rfl (.inl rfl)) (pgs_cons (pg_name (i := 4) sc_check_names.nd rfl (.inl rfl)) pgs_nil)))
    (pss_cons (ps_if (PW.pt (pw_and (pt_not (pt_val (pe_callD d_is_name (hr.mono (by decide)) (by rfl) (pa_cons (pv 4) pa_nil)))) (pw_and1 (pt_not (PW.pt (pw_and (pt_val (pv 2)) (pw_and1 (pt_cmpR op_eq (pv 4) pe_str (nomark _))))))))) (pss_one ps_never) pss_nil)
  (pss_one (ps_if (pt_cmpR op_in_seq (pv 4) (pe_slice sl_list (pv 0) po_none (po_some (pv 3))) (by rfl)) (pss_one ps_never) pss_nil)))))), ?_⟩
      refine ⟨_, rfl, _, _, rfl, .inl hS, _, rfl, _, _, _, rfl, by rw [List.length_map]; omega, by rw [List.length_map]; omega, ?_⟩
      refine ⟨_, rfl, _, _, rfl, hS, for_it walk_enum (fun i σ H2 => Same H H2 ∧ ∃ y1 y2 : Option V, σ = [some (.ref a), some (.int m), some (.bl true), y1, y2]) ⟨Same.refl H, _, _, rfl⟩ (fun i σ H2 _ hp => hp.1.seq hS) ?_ ?_⟩
      · rintro i x σ H2 H3 hi ⟨sm, y1, y2, rfl⟩ ⟨T, v1, v2, rfl, nT, rfl, e1, e2⟩
        cases e1
        obtain ⟨z, ez, rfl, hz⟩ := hp i _ H2 sm e2
        have sm3 := sm.trans (same_upd (o := .tup [.int (i : Nat), vN z]) nT)
        refine ⟨_, _, rfl, tupAt upd_same, rfl, _, _, rfl, _, _, rfl, rfl, ?_⟩
        refine ⟨_, rfl, z, rfl, hz, fun H4 s4 => ⟨_, rfl, ?_⟩⟩
        have sm4 := sm3.trans s4
        rcases hz with hz | rfl
        · rw [nz_nm hz]
          refine iteF (iteF ?_)
          refine ⟨_, rfl, _, rfl, _, rfl, _, rfl, _, _, rfl, sm4.seq hS, fun p np => ?_⟩
          rw [cut_names]
          have sp := same_upd (o := .lst ((zs.take i).map vN)) np
          refine ⟨p, _, rfl, .inl (lstAt upd_same), rfl, nms_flat _, _, rfl, ?_⟩
          rw [in_nm, decide_eq_false (not_before nd ez)]
          exact iteF ⟨sm4.trans sp, _, _, rfl⟩
        · refine iteT ⟨_, rfl, _, rfl, iteT ⟨_, rfl, rfl, _, rfl, ?_⟩⟩
          rw [decide_eq_true empty_nm]
          refine iteF ?_
          refine ⟨_, rfl, _, rfl, _, rfl, _, rfl, _, _, rfl, sm4.seq hS, fun p np => ?_⟩
          rw [cut_names]
          have sp := same_upd (o := .lst ((zs.take i).map vN)) np
          refine ⟨p, _, rfl, .inl (lstAt upd_same), rfl, nms_flat _, _, rfl, ?_⟩
          rw [in_nm, decide_eq_false (not_before nd ez)]
          exact iteF ⟨sm4.trans sp, _, _, rfl⟩
      · rintro σ H2 ⟨sm, y1, y2, rfl⟩
        exact q _ sm
    · refine ⟨_, PSs.nox (pss_cons (ps_expr (pe_callD d_check_size (hr.mono (by decide)) (by rfl) (pa_cons (pe_callB call_len_seq (by rfl) m_len (by decide +kernel) (pa_cons (pv 0) pa_nil)) (pa_cons pe_int (pa_cons (pv 1) pa_nil)))))
  (pss_one (ps_for PassesOwn.never rfl (pi_enumT (by rfl) m_enumerate (pa_cons (pv 0) pa_nil)) (pg_tup (by rfl) (pgs_cons (pg_name (i := 3) sc_check_names.nd rfl (.inl rfl)) (pgs_cons (pg_name (i := 4) sc_check_names.nd rfl (.inl rfl)) pgs_nil)))
    (pss_cons (ps_if (PW.pt (pw_and (pt_not (pt_val (pe_callD d_is_name (hr.mono (by decide)) (by rfl) (pa_cons (pv 4) pa_nil)))) (pw_and1 (pt_not (PW.pt (pw_and (pt_val (pv 2)) (pw_and1 (pt_cmpR op_eq (pv 4) pe_str (nomark _))))))))) (pss_one ps_never) pss_nil)
  (pss_one (ps_if (pt_cmpR op_in_seq (pv 4) (pe_slice sl_tup (pv 0) po_none (po_some (pv 3))) (by rfl)) (pss_one ps_never) pss_nil)))))), ?_⟩
      refine ⟨_, rfl, _, _, rfl, .inr hS, _, rfl, _, _, _, rfl, by rw [List.length_map]; omega, by rw [List.length_map]; omega, ?_⟩
      refine ⟨_, rfl, _, _, rfl, hS, for_it walk_enumT (fun i σ H2 => Same H H2 ∧ ∃ y1 y2 : Option V, σ = [some (.ref a), some (.int m), some (.bl true), y1, y2]) ⟨Same.refl H, _, _, rfl⟩ (fun i σ H2 _ hp => same_tup (hp.1) hS) ?_ ?_⟩
      · rintro i x σ H2 H3 hi ⟨sm, y1, y2, rfl⟩ ⟨T, v1, v2, rfl, nT, rfl, e1, e2⟩
        cases e1
        obtain ⟨z, ez, rfl, hz⟩ := hp i _ H2 sm e2
        have sm3 := sm.trans (same_upd (o := .tup [.int (i : Nat), vN z]) nT)
        refine ⟨_, _, rfl, tupAt upd_same, rfl, _, _, rfl, _, _, rfl, rfl, ?_⟩
        refine ⟨_, rfl, z, rfl, hz, fun H4 s4 => ⟨_, rfl, ?_⟩⟩
        have sm4 := sm3.trans s4
        rcases hz with hz | rfl
        · rw [nz_nm hz]
          refine iteF (iteF ?_)
          refine ⟨_, rfl, _, rfl, _, rfl, _, rfl, _, _, rfl, same_tup (sm4) hS, (by rintro ⟨_, hw⟩; rw [HT.sIx_nat] at hw; have hi' : i < (zs.map vN).length := hi; omega), fun p np => ?_⟩
          rw [cut_names]
          have sp := same_upd (o := .tup ((zs.take i).map vN)) np
          refine ⟨p, _, rfl, .inr (tupAt upd_same), rfl, nms_flat _, _, rfl, ?_⟩
          rw [in_nm, decide_eq_false (not_before nd ez)]
          exact iteF ⟨sm4.trans sp, _, _, rfl⟩
        · refine iteT ⟨_, rfl, _, rfl, iteT ⟨_, rfl, rfl, _, rfl, ?_⟩⟩
          rw [decide_eq_true empty_nm]
          refine iteF ?_
          refine ⟨_, rfl, _, rfl, _, rfl, _, rfl, _, _, rfl, same_tup (sm4) hS, (by rintro ⟨_, hw⟩; rw [HT.sIx_nat] at hw; have hi' : i < (zs.map vN).length := hi; omega), fun p np => ?_⟩
          rw [cut_names]
          have sp := same_upd (o := .tup ((zs.take i).map vN)) np
          refine ⟨p, _, rfl, .inr (tupAt upd_same), rfl, nms_flat _, _, rfl, ?_⟩
          rw [in_nm, decide_eq_false (not_before nd ez)]
          exact iteF ⟨sm4.trans sp, _, _, rfl⟩
      · rintro σ H2 ⟨sm, y1, y2, rfl⟩
        exact q _ sm
/-! check_known -/
def spKnown (K : PySem.W.Frag) : Sp := fun vs H Q _ => ∃ (a b : Addr) (zs ks : List (List Nat)), vs = [.ref a, .ref b] ∧ SqS K H a (zs.map vN) ∧ SqS K H b (ks.map vN) ∧ (∀ z ∈ zs, z ∈ ks) ∧ Q .non H
theorem ok_check_known {f : Addr} {fd : FuncData} (F : Fun K "check_known" "check_known" s_check_known f fd) : FnOk P w K mg base CX0 1 f fd ["names", "known"] (spKnown K) := by
  refine F.ok sc_check_known (fun vs H Q E h => ?_) (fun cdv A outer s H vs Q E hr h => ?_)
  · obtain ⟨a, b, zs, ks, rfl, _⟩ := h
    rfl
  · obtain ⟨a, b, zs, ks, rfl, hA, hB, sub, q⟩ := h
    refine ⟨_, (pss_one (ps_for PassesOwn.never rfl (pi_or (pi_list (pv 0)) (pi_tup (pv 0))) (pg_name (i := 2) sc_check_known.nd rfl (.inl rfl))
    (pss_one (ps_if (pt_cmpR op_notIn_seq (pv 2) (pv 1) (by rfl)) (pss_one ps_never) pss_nil)))), ?_⟩
    have one : ∀ (i : Nat) (x : V) (σ : L2.St) (H2 : Hp), (zs.map vN)[i]? = some x → ∃ z, z ∈ ks ∧ x = vN z := fun i x σ H2 hx => by
      obtain ⟨z, ez, rfl⟩ := vN_at hx
      exact ⟨z, sub z (List.mem_of_getElem? ez), rfl⟩
    rcases hA with hA | hA
    · refine .inl ⟨_, rfl, a, rfl, ⟨_, hA⟩, for_list (K := K) (a := a) (xs := zs.map vN) (fun i σ H2 => H2 = H ∧ ∃ y : Option V, σ = [some (.ref a), some (.ref b), y]) ⟨rfl, _, rfl⟩ (fun i σ H2 _ hp => by rw [hp.1]; exact hA) ?_ ?_⟩
      · rintro i x σ H2 hx ⟨rfl, y, rfl⟩
        obtain ⟨z, hz, rfl⟩ := one i x [] H2 hx
        refine ⟨_, rfl, _, rfl, b, _, rfl, hB, rfl, nms_flat _, _, rfl, ?_⟩
        rw [notin_nm, decide_eq_true hz]
        exact iteF ⟨rfl, _, rfl⟩
      · rintro σ H2 ⟨rfl, y, rfl⟩
        exact q
    · refine .inr ⟨_, rfl, a, rfl, ⟨_, hA⟩, for_tup (K := K) (a := a) (xs := zs.map vN) (fun i σ H2 => H2 = H ∧ ∃ y : Option V, σ = [some (.ref a), some (.ref b), y]) ⟨rfl, _, rfl⟩ (fun i σ H2 _ hp => by rw [hp.1]; exact hA) ?_ ?_⟩
      · rintro i x σ H2 hx ⟨rfl, y, rfl⟩
        obtain ⟨z, hz, rfl⟩ := one i x [] H2 hx
        refine ⟨_, rfl, _, rfl, b, _, rfl, hB, rfl, nms_flat _, _, rfl, ?_⟩
        rw [notin_nm, decide_eq_true hz]
        exact iteF ⟨rfl, _, rfl⟩
      · rintro σ H2 ⟨rfl, y, rfl⟩
        exact q
end
abbrev Nam := List Nat
abbrev Tie := Nam × Nam × Int
/-! ties -/
def TieAt (H : Hp) (e : Addr) (t : Tie) : Prop := H e = some (.tup [vN t.1, vN t.2.1, .int t.2.2])
def TiesAt (H : Hp) (es : List Addr) (ts : List Tie) : Prop := es.length = ts.length ∧ ∀ (i : Nat) (e : Addr), es[i]? = some e → ∃ t, ts[i]? = some t ∧ TieAt H e t
theorem TiesAt.same {H H' : Hp} {es : List Addr} {ts : List Tie} (h : TiesAt H es ts) (s : Same H H') : TiesAt H' es ts := ⟨h.1, fun i e he => by
  obtain ⟨t, a, b⟩ := h.2 i e he
  exact ⟨t, a, s _ _ b⟩⟩
theorem ties_at {H : Hp} {es : List Addr} {ts : List Tie} (h : TiesAt H es ts) {i : Nat} {x : V} (hx : (es.map V.ref)[i]? = some x) : ∃ e t, x = .ref e ∧ es[i]? = some e ∧ ts[i]? = some t ∧ TieAt H e t := by
  rw [List.getElem?_map] at hx
  cases e : es[i]? with
  | none => rw [e] at hx; cases hx
  | some a =>
    rw [e] at hx
    obtain ⟨t, h1, h2⟩ := h.2 i a e
    exact ⟨a, t, (Option.some.inj hx).symm, rfl, h1, h2⟩
theorem TiesAt.snoc {H H' : Hp} {es : List Addr} {ts : List Tie} {e : Addr} {t : Tie} (h : TiesAt H es ts) (s : Same H H') (k : TieAt H' e t) : TiesAt H' (es ++ [e]) (ts ++ [t]) := by
  refine ⟨by rw [List.length_append, List.length_append, h.1]; rfl, fun i x hx => ?_⟩
  by_cases hi : i < es.length
  · rw [List.getElem?_append_left hi] at hx
    obtain ⟨t', h1, h2⟩ := h.2 i x hx
    exact ⟨t', by rw [List.getElem?_append_left (by rw [← h.1]; exact hi)]; exact h1, s _ _ h2⟩
  · rw [List.getElem?_append_right (by omega)] at hx
    have hi2 : i - es.length = 0 := by
      have := (List.getElem?_eq_some_iff.mp hx).1
      simp at this
      omega
    rw [hi2] at hx
    cases Option.some.inj hx
    exact ⟨t, by rw [List.getElem?_append_right (by rw [← h.1]; omega), ← h.1, hi2]; rfl, k⟩
def plusO : Option Int → Int → Option Int
  | none, _ => none
  | some a, c => some (a + c)
def minO : Option Int → Option Int → Option Int
  | none, b => b
  | some a, none => some a
  | some a, some b => some (if b < a then b else a)
theorem mem_at {α : Type} {xs : List α} {i : Nat} {x : α} (h : xs[i]? = some x) : x ∈ xs := List.mem_of_getElem? h
end TK

namespace TK
open PySem PySem.Spec PyProof.Rows L2
structure DefD (P : Program) (w : World) (K : PySem.W.Frag) (mg : Str → Option Value) (base : Heap) (x : Str) (k : Nat) (ps : List Str) (sp : Sp) (dvs : List V) : Prop where
  ex : ∃ (f : Addr) (fd : FuncData) (ds : List Value), FnOk P w K mg base CX0 k f fd ps sp ∧ mg x = some (.ref f) ∧ PySem.W.keepIn K (.ref f) = true ∧ Binds K fd ps ds ∧ Vals dvs ds
section
variable {X : Cx} {x : Str} {k : Nat} {ps : List Str} {sp : Sp} {dvs : List V} {e : Expr} {es : List Expr} {t : TA} {p pos : Pos}
theorem pe_callDD (D : DefD X.prog X.w X.K X.mg X.base x k ps sp dvs) (hr : Room k X.A) (hg : Gl X x) (ha : PA X (e :: es) t) (hdb : (x == ("__debug__" : Str)) = false := by decide)
    (he : starEach (e :: es) X.env = (false, eval e X.env) :: starEach es X.env := by rfl) (hpl : (backTo pos (starEach es X.env)).any (·.1) = false := by rfl) :
    PE X (.Call (.Name x p) (e :: es) [] pos) (tCall sp dvs E0 t) := by
  obtain ⟨f, fd, ds, F, g, kp, b, r⟩ := D.ex
  exact pe_call F hr hg g kp b r pass0 ha hdb he hpl
end
/-- right entries -/
structure EOk (zs : List Nam) (ts : List Tie) : Prop where
  a : ∀ t ∈ ts, t.1 ∈ zs
  b : ∀ t ∈ ts, t.2.1 ∈ zs
  h0 : ∀ t ∈ ts, 0 ≤ t.2.2
/-! the least toll of an entry -/
def isE (x y : Nam) (t : Tie) : Bool := decide (t.1 = x ∧ t.2.1 = y)
def leastE (ts : List Tie) (x y : Nam) : Option Int := ts.foldl (fun o t => if isE x y t then minO o (some t.2.2) else o) none
theorem leastE_snoc {ts : List Tie} {i : Nat} {t : Tie} (h : ts[i]? = some t) (x y : Nam) : leastE (ts.take (i + 1)) x y = if isE x y t then minO (leastE (ts.take i) x y) (some t.2.2) else leastE (ts.take i) x y := by
  unfold leastE
  rw [List.take_add_one, h, List.foldl_append]
  rfl
def keyE (x y : Nam) : List Key := [Sum.inr (sOf x), Sum.inr (sOf y)]
theorem keyE_inj {x y x' y' : Nam} (h : keyE x y = keyE x' y') : x = x' ∧ y = y' := by
  unfold keyE at h
  injection h with h1 h2
  injection h2 with h2 _
  exact ⟨sOf_inj (Sum.inr.inj h1), sOf_inj (Sum.inr.inj h2)⟩
def capI : Option Int → V
  | none => .non
  | some x => .int x
/-- what the dict of the prices holds -/
structure KvE (kvs : List (List Key × V)) (ts : List Tie) : Prop where
  at_ : ∀ x y : Nam, valV kvs (keyE x y) = (leastE ts x y).map V.int
  ks : ∀ p ∈ kvs, ∃ x y v, p = (keyE x y, V.int v)
  nd : (kvs.map (·.1)).Nodup
theorem nd_put {kvs : List (List Key × V)} {k : List Key} {v : V} (h : (kvs.map (·.1)).Nodup) : ((putK kvs k v).map (·.1)).Nodup := by
  unfold putK
  split
  · rw [List.map_map]
    have e : ((fun p : List Key × V => p.1) ∘ fun kv : List Key × V => if kv.1 = k then (kv.1, v) else kv) = fun p => p.1 := by
      funext p
      show (if p.1 = k then (p.1, v) else p).1 = p.1
      split <;> rfl
    rw [e]
    exact h
  · rename_i hn
    rw [List.map_append]
    refine List.nodup_append.mpr ⟨h, by simp, fun a ha b hb => ?_⟩
    obtain ⟨p, hp, rfl⟩ := List.mem_map.mp ha
    have hb : b = k := by simpa using hb
    subst hb
    exact fun e => hn (List.any_eq_true.mpr ⟨p, hp, decide_eq_true e⟩)
theorem ks_put {kvs : List (List Key × V)} {x y : Nam} {v : Int} (h : ∀ p ∈ kvs, ∃ x y v, p = (keyE x y, V.int v)) : ∀ p ∈ putK kvs (keyE x y) (.int v), ∃ x y v, p = (keyE x y, V.int v) := by
  intro p hp
  unfold putK at hp
  split at hp
  · obtain ⟨q, hq, rfl⟩ := List.mem_map.mp hp
    obtain ⟨x', y', v', rfl⟩ := h q hq
    dsimp only
    split
    · exact ⟨x', y', v, rfl⟩
    · exact ⟨x', y', v', rfl⟩
  · rcases List.mem_append.mp hp with m | m
    · exact h p m
    · rw [List.mem_singleton.mp m]; exact ⟨x, y, v, rfl⟩
theorem KvE.nil : KvE [] [] := ⟨fun _ _ => rfl, (fun _ h => nomatch h), List.nodup_nil⟩
/-- one entry more -/
theorem KvE.put {kvs : List (List Key × V)} {ts : List Tie} {i : Nat} {t : Tie} (h : KvE kvs (ts.take i)) (e : ts[i]? = some t) (c : minO (leastE (ts.take i) t.1 t.2.1) (some t.2.2) = some t.2.2) : KvE (putK kvs (keyE t.1 t.2.1) (.int t.2.2)) (ts.take (i + 1)) := by
  refine ⟨fun x y => ?_, ks_put h.ks, nd_put h.nd⟩
  rw [valV_put, leastE_snoc e]
  by_cases q : keyE x y = keyE t.1 t.2.1
  · obtain ⟨rfl, rfl⟩ := keyE_inj q
    rw [if_pos q, if_pos (show isE t.1 t.2.1 t = true from decide_eq_true ⟨rfl, rfl⟩), c]
    rfl
  · rw [if_neg q, if_neg (show ¬ isE x y t = true from fun z => by
      obtain ⟨e1, e2⟩ := of_decide_eq_true z
      exact q (by rw [e1, e2]))]
    exact h.at_ x y
theorem KvE.stay {kvs : List (List Key × V)} {ts : List Tie} {i : Nat} {t : Tie} (h : KvE kvs (ts.take i)) (e : ts[i]? = some t) (c : minO (leastE (ts.take i) t.1 t.2.1) (some t.2.2) = leastE (ts.take i) t.1 t.2.1) : KvE kvs (ts.take (i + 1)) := by
  refine ⟨fun x y => ?_, h.ks, h.nd⟩
  rw [h.at_, leastE_snoc e]
  by_cases q : isE x y t = true
  · obtain ⟨e1, e2⟩ := of_decide_eq_true q
    subst e1 e2
    rw [if_pos q, c]
  · rw [if_neg q]
theorem kvE_len {kvs : List (List Key × V)} {ts : List Tie} {i : Nat} (h : kvs.length ≤ i) (k : List Key) (v : V) : (putK kvs k v).length ≤ i + 1 := Nat.le_trans (length_putK _ _ _) (Nat.succ_le_succ h)
section
variable {P : Program} {w : World} {K : PySem.W.Frag} {mg : Str → Option Value} {base : Heap}
/-! _check_entries -/
def spCheckE (K : PySem.W.Frag) : Sp := fun vs H Q _ => ∃ (a b : Addr) (zs : List Nam) (es : List Addr) (ts : List Tie), vs = [.ref a, .ref b] ∧ SqS K H a (zs.map vN) ∧ SqS K H b (es.map V.ref) ∧ TiesAt H es ts ∧ EOk zs ts ∧ ∀ H', Same H H' → Q .non H'
theorem ok_check_entries {f : Addr} {fd : FuncData} (F : Fun K "_check_entries" "_check_entries" s_check_entries f fd) (d_check_known : Def P w K mg base "check_known" 1 ["names", "known"] (spKnown K)) :
    FnOk P w K mg base CX0 2 f fd ["names", "entries"] (spCheckE K) := by
  refine F.ok sc_check_entries (fun vs H Q E h => ?_) (fun cdv A outer s H vs Q E hr h => ?_)
  · obtain ⟨a, b, zs, es, ts, rfl, _⟩ := h
    rfl
  · obtain ⟨a, b, zs, es, ts, rfl, hA, hB, hT, ok, q⟩ := h
    rcases hB with hB | hB
    · refine ⟨_, (pss_one (ps_for PassesOwn.never rfl (pi_list (pv 1)) (pg_tup (by rfl) (pgs_cons (pg_name (i := 2) sc_check_entries.nd rfl (.inl rfl)) (pgs_cons (pg_name (i := 3) sc_check_entries.nd rfl (.inl rfl)) (pgs_cons (pg_name (i := 4) sc_check_entries.nd rfl (.inl rfl)) pgs_nil))))
    (pss_cons (ps_expr (pe_callD d_check_known (hr.mono (by decide)) (by rfl) (pa_cons (pe_lst (pa_cons (pv 2) (pa_cons (pv 3) pa_nil))) (pa_cons (pv 0) pa_nil))))
  (pss_one (ps_if (pt_cmpR op_lt (pv 4) pe_int (nomark _)) (pss_one ps_never) pss_nil))))), ?_⟩
      refine ⟨_, rfl, b, rfl, ⟨_, hB⟩, for_list (K := K) (a := b) (xs := es.map V.ref) (fun i σ H2 => Same H H2 ∧ ∃ y1 y2 y3 : Option V, σ = [some (.ref a), some (.ref b), y1, y2, y3]) ⟨Same.refl H, _, _, _, rfl⟩ (fun i σ H2 _ hp => hp.1.seq hB) ?_ ?_⟩
      · rintro i x σ H2 hx ⟨sm, y1, y2, y3, rfl⟩
        obtain ⟨e, t, rfl, _, et, ht⟩ := ties_at hT hx
        have tm := mem_at et
        refine ⟨_, _, rfl, tupAt (sm _ _ ht), rfl, _, _, rfl, _, _, rfl, _, _, rfl, rfl, ?_⟩
        refine ⟨_, rfl, _, rfl, (show (2 : Nat) ≤ sizeLine by decide), fun p np => ?_⟩
        have sp := same_upd (o := .lst [vN t.1, vN t.2.1]) np
        refine ⟨_, rfl, p, a, [t.1, t.2.1], zs, rfl, .inl (lstAt upd_same), hA.same (sm.trans sp), ?_, ?_⟩
        · intro z hz
          rcases List.mem_cons.mp hz with rfl | hz
          · exact ok.a _ tm
          · rw [List.mem_singleton.mp hz]; exact ok.b _ tm
        refine ⟨_, rfl, _, _, rfl, rfl, _, rfl, ?_⟩
        rw [decide_eq_false (show ¬ t.2.2 < 0 by have := ok.h0 _ tm; omega)]
        exact iteF ⟨sm.trans sp, _, _, _, rfl⟩
      · rintro σ H2 ⟨sm, y1, y2, y3, rfl⟩
        exact q _ sm
    · refine ⟨_, (pss_one (ps_for PassesOwn.never rfl (pi_tup (pv 1)) (pg_tup (by rfl) (pgs_cons (pg_name (i := 2) sc_check_entries.nd rfl (.inl rfl)) (pgs_cons (pg_name (i := 3) sc_check_entries.nd rfl (.inl rfl)) (pgs_cons (pg_name (i := 4) sc_check_entries.nd rfl (.inl rfl)) pgs_nil))))
    (pss_cons (ps_expr (pe_callD d_check_known (hr.mono (by decide)) (by rfl) (pa_cons (pe_lst (pa_cons (pv 2) (pa_cons (pv 3) pa_nil))) (pa_cons (pv 0) pa_nil))))
  (pss_one (ps_if (pt_cmpR op_lt (pv 4) pe_int (nomark _)) (pss_one ps_never) pss_nil))))), ?_⟩
      refine ⟨_, rfl, b, rfl, ⟨_, hB⟩, for_tup (K := K) (a := b) (xs := es.map V.ref) (fun i σ H2 => Same H H2 ∧ ∃ y1 y2 y3 : Option V, σ = [some (.ref a), some (.ref b), y1, y2, y3]) ⟨Same.refl H, _, _, _, rfl⟩ (fun i σ H2 _ hp => same_tup hp.1 hB) ?_ ?_⟩
      · rintro i x σ H2 hx ⟨sm, y1, y2, y3, rfl⟩
        obtain ⟨e, t, rfl, _, et, ht⟩ := ties_at hT hx
        have tm := mem_at et
        refine ⟨_, _, rfl, tupAt (sm _ _ ht), rfl, _, _, rfl, _, _, rfl, _, _, rfl, rfl, ?_⟩
        refine ⟨_, rfl, _, rfl, (show (2 : Nat) ≤ sizeLine by decide), fun p np => ?_⟩
        have sp := same_upd (o := .lst [vN t.1, vN t.2.1]) np
        refine ⟨_, rfl, p, a, [t.1, t.2.1], zs, rfl, .inl (lstAt upd_same), hA.same (sm.trans sp), ?_, ?_⟩
        · intro z hz
          rcases List.mem_cons.mp hz with rfl | hz
          · exact ok.a _ tm
          · rw [List.mem_singleton.mp hz]; exact ok.b _ tm
        refine ⟨_, rfl, _, _, rfl, rfl, _, rfl, ?_⟩
        rw [decide_eq_false (show ¬ t.2.2 < 0 by have := ok.h0 _ tm; omega)]
        exact iteF ⟨sm.trans sp, _, _, _, rfl⟩
      · rintro σ H2 ⟨sm, y1, y2, y3, rfl⟩
        exact q _ sm
/-! _least_tolls -/
def spLeastT (K : PySem.W.Frag) : Sp := fun vs H Q _ => ∃ (b : Addr) (es : List Addr) (ts : List Tie), vs = [.ref b] ∧ SqS K H b (es.map V.ref) ∧ TiesAt H es ts ∧ ts.length ≤ 10000 ∧
  ∀ H' p kvs, H p = none → Same H H' → H' p = some (.dT kvs) → KvE kvs ts → kvs.length ≤ ts.length → Q (.ref p) H'
theorem ok_least_tolls {f : Addr} {fd : FuncData} (F : Fun K "_least_tolls" "_least_tolls" s_least_tolls f fd) : FnOk P w K mg base CX0 1 f fd ["entries"] (spLeastT K) := by
  refine F.ok sc_least_tolls (fun vs H Q E h => ?_) (fun cdv A outer s H vs Q E hr h => ?_)
  · obtain ⟨b, es, ts, rfl, _⟩ := h
    rfl
  · obtain ⟨b, es, ts, rfl, hB, hT, l4, q⟩ := h
    have el : (es.map V.ref).length = ts.length := by rw [List.length_map, hT.1]
    rcases hB with hB | hB
    · refine ⟨_, (pss_cons (ps_set (i := 1) sc_least_tolls.nd rfl (.inl rfl) pe_dnewT)
  (pss_cons (ps_for PassesOwn.never rfl (pi_list (pv 0)) (pg_tup (by rfl) (pgs_cons (pg_name (i := 2) sc_least_tolls.nd rfl (.inl rfl)) (pgs_cons (pg_name (i := 3) sc_least_tolls.nd rfl (.inl rfl)) (pgs_cons (pg_name (i := 4) sc_least_tolls.nd rfl (.inl rfl)) pgs_nil))))
    (pss_one (ps_if (PW.pt (pw_or (pt_cmp (pc_dnotin (hu_of hr) (pe_tup (pa_cons (pv 2) (pa_cons (pv 3) pa_nil))) (pv 1))) (pw_or1 (pt_cmpR op_lt (pv 4) (pe_dget (hu_of hr) (pv 1) (pe_tup (pa_cons (pv 2) (pa_cons (pv 3) pa_nil))) (fun _ _ => rfl)) (nomark _))))) (pss_one (ps_dput (hu_of hr) (pv 1) (pe_tup (pa_cons (pv 2) (pa_cons (pv 3) pa_nil))) (pv 4) rfl)) pss_nil)))
  (pss_one (ps_ret (pv 1))))), fun D nD => ?_⟩
      refine ⟨_, rfl, b, rfl, ⟨_, (same_upd nD).seq hB⟩, for_list (K := K) (a := b) (xs := es.map V.ref) (fun i σ H2 => Same H H2 ∧ ∃ (kvs : List (List Key × V)) (y1 y2 y3 : Option V), H2 D = some (.dT kvs) ∧ KvE kvs (ts.take i) ∧ kvs.length ≤ i ∧ σ = [some (.ref b), some (.ref D), y1, y2, y3]) ⟨same_upd nD, [], _, _, _, upd_same, .nil, Nat.le_refl _, rfl⟩ (fun i σ H2 _ hp => hp.1.seq hB) ?_ ?_⟩
      · rintro i x σ H2 hx ⟨sm, kvs, y1, y2, y3, hD, kv, kl, rfl⟩
        obtain ⟨e, t, rfl, _, et, ht⟩ := ties_at hT hx
        have hi : i < ts.length := (List.getElem?_eq_some_iff.mp et).1
        have hz : kvs.length < sizeLine := Nat.lt_of_le_of_lt (show kvs.length ≤ 10000 by omega) (by decide)
        refine ⟨_, _, rfl, tupAt (sm _ _ ht), rfl, _, _, rfl, _, _, rfl, _, _, rfl, rfl, ?_⟩
        refine ⟨_, rfl, _, rfl, (show (2 : Nat) ≤ sizeLine by decide), fun k1 nk1 => ?_⟩
        have s1 := same_upd (o := .tup [vN t.1, vN t.2.1]) nk1
        have g1 : DGet (upd H2 k1 (.tup [vN t.1, vN t.2.1])) D (.ref k1) ((leastE (ts.take i) t.1 t.2.1).map V.int) := kv.at_ t.1 t.2.1 ▸ DGet.t (k := keyE t.1 t.2.1) (s1 _ _ hD) upd_same
        refine ⟨_, rfl, D, _, rfl, g1, _, rfl, ?_⟩
        have sm1 := sm.trans s1
        have put : ∀ H5 : Hp, Same H H5 → H5 D = some (.dT kvs) → minO (leastE (ts.take i) t.1 t.2.1) (some t.2.2) = some t.2.2 → ∀ k, H5 k = none → Same H (upd (upd H5 k (.tup [vN t.1, vN t.2.1])) D (.dT (putK kvs (keyE t.1 t.2.1) (.int t.2.2)))) ∧ KvE (putK kvs (keyE t.1 t.2.1) (.int t.2.2)) (ts.take (i + 1)) ∧ (putK kvs (keyE t.1 t.2.1) (.int t.2.2)).length ≤ i + 1 :=
          fun H5 s5 hD5 c k nk => ⟨same_at (s5.trans (same_upd nk)) nD, kv.put et c, kvE_len (ts := ts) kl _ _⟩
        cases el2 : leastE (ts.take i) t.1 t.2.1 with
        | none =>
          refine iteT ?_
          refine ⟨_, rfl, _, rfl, _, rfl, _, rfl, (show (2 : Nat) ≤ sizeLine by decide), fun k2 nk2 => ?_⟩
          obtain ⟨h1, h2, h3⟩ := put _ sm1 (s1 _ _ hD) (by rw [el2]; rfl) k2 nk2
          exact ⟨D, _, rfl, DPut.t (k := keyE t.1 t.2.1) ((same_upd nk2) _ _ (s1 _ _ hD)) upd_same hz, h1, _, _, _, _, upd_same, h2, h3, rfl⟩
        | some v =>
          refine iteF ?_
          refine ⟨_, rfl, _, rfl, _, rfl, _, rfl, (show (2 : Nat) ≤ sizeLine by decide), fun k2 nk2 => ?_⟩
          have s2 := same_upd (o := .tup [vN t.1, vN t.2.1]) nk2
          have g2 : DGet (upd (upd H2 k1 (.tup [vN t.1, vN t.2.1])) k2 (.tup [vN t.1, vN t.2.1])) D (.ref k2) (some (V.int v)) := by
            have := DGet.t (k := keyE t.1 t.2.1) (s2 _ _ (s1 _ _ hD)) upd_same
            rw [kv.at_, el2] at this
            exact this
          refine ⟨D, _, rfl, g2, _, _, rfl, rfl, _, rfl, ite2 (fun c => ?_) (fun c => ?_)⟩
          · have c := of_decide_eq_true c
            refine ⟨_, rfl, _, rfl, _, rfl, _, rfl, (show (2 : Nat) ≤ sizeLine by decide), fun k3 nk3 => ?_⟩
            obtain ⟨h1, h2, h3⟩ := put _ (sm1.trans s2) (s2 _ _ (s1 _ _ hD)) (by rw [el2]; show some (if t.2.2 < v then t.2.2 else v) = _; rw [if_pos c]) k3 nk3
            exact ⟨D, _, rfl, DPut.t (k := keyE t.1 t.2.1) ((same_upd nk3) _ _ (s2 _ _ (s1 _ _ hD))) upd_same hz, h1, _, _, _, _, upd_same, h2, h3, rfl⟩
          · have c : ¬ t.2.2 < v := of_decide_eq_false (Bool.eq_false_iff.mpr c)
            exact ⟨sm1.trans s2, kvs, _, _, _, s2 _ _ (s1 _ _ hD), kv.stay et (by rw [el2]; show some (if t.2.2 < v then t.2.2 else v) = _; rw [if_neg c]), Nat.le_succ_of_le kl, rfl⟩
      · rintro σ H2 ⟨sm, kvs, y1, y2, y3, hD, kv, kl, rfl⟩
        rw [el, List.take_length] at kv
        rw [el] at kl
        exact ⟨_, rfl, q _ D kvs nD sm hD kv kl⟩
    · refine ⟨_, (pss_cons (ps_set (i := 1) sc_least_tolls.nd rfl (.inl rfl) pe_dnewT)
  (pss_cons (ps_for PassesOwn.never rfl (pi_tup (pv 0)) (pg_tup (by rfl) (pgs_cons (pg_name (i := 2) sc_least_tolls.nd rfl (.inl rfl)) (pgs_cons (pg_name (i := 3) sc_least_tolls.nd rfl (.inl rfl)) (pgs_cons (pg_name (i := 4) sc_least_tolls.nd rfl (.inl rfl)) pgs_nil))))
    (pss_one (ps_if (PW.pt (pw_or (pt_cmp (pc_dnotin (hu_of hr) (pe_tup (pa_cons (pv 2) (pa_cons (pv 3) pa_nil))) (pv 1))) (pw_or1 (pt_cmpR op_lt (pv 4) (pe_dget (hu_of hr) (pv 1) (pe_tup (pa_cons (pv 2) (pa_cons (pv 3) pa_nil))) (fun _ _ => rfl)) (nomark _))))) (pss_one (ps_dput (hu_of hr) (pv 1) (pe_tup (pa_cons (pv 2) (pa_cons (pv 3) pa_nil))) (pv 4) rfl)) pss_nil)))
  (pss_one (ps_ret (pv 1))))), fun D nD => ?_⟩
      refine ⟨_, rfl, b, rfl, ⟨_, same_tup (same_upd nD) hB⟩, for_tup (K := K) (a := b) (xs := es.map V.ref) (fun i σ H2 => Same H H2 ∧ ∃ (kvs : List (List Key × V)) (y1 y2 y3 : Option V), H2 D = some (.dT kvs) ∧ KvE kvs (ts.take i) ∧ kvs.length ≤ i ∧ σ = [some (.ref b), some (.ref D), y1, y2, y3]) ⟨same_upd nD, [], _, _, _, upd_same, .nil, Nat.le_refl _, rfl⟩ (fun i σ H2 _ hp => same_tup hp.1 hB) ?_ ?_⟩
      · rintro i x σ H2 hx ⟨sm, kvs, y1, y2, y3, hD, kv, kl, rfl⟩
        obtain ⟨e, t, rfl, _, et, ht⟩ := ties_at hT hx
        have hi : i < ts.length := (List.getElem?_eq_some_iff.mp et).1
        have hz : kvs.length < sizeLine := Nat.lt_of_le_of_lt (show kvs.length ≤ 10000 by omega) (by decide)
        refine ⟨_, _, rfl, tupAt (sm _ _ ht), rfl, _, _, rfl, _, _, rfl, _, _, rfl, rfl, ?_⟩
        refine ⟨_, rfl, _, rfl, (show (2 : Nat) ≤ sizeLine by decide), fun k1 nk1 => ?_⟩
        have s1 := same_upd (o := .tup [vN t.1, vN t.2.1]) nk1
        have g1 : DGet (upd H2 k1 (.tup [vN t.1, vN t.2.1])) D (.ref k1) ((leastE (ts.take i) t.1 t.2.1).map V.int) := kv.at_ t.1 t.2.1 ▸ DGet.t (k := keyE t.1 t.2.1) (s1 _ _ hD) upd_same
        refine ⟨_, rfl, D, _, rfl, g1, _, rfl, ?_⟩
        have sm1 := sm.trans s1
        have put : ∀ H5 : Hp, Same H H5 → H5 D = some (.dT kvs) → minO (leastE (ts.take i) t.1 t.2.1) (some t.2.2) = some t.2.2 → ∀ k, H5 k = none → Same H (upd (upd H5 k (.tup [vN t.1, vN t.2.1])) D (.dT (putK kvs (keyE t.1 t.2.1) (.int t.2.2)))) ∧ KvE (putK kvs (keyE t.1 t.2.1) (.int t.2.2)) (ts.take (i + 1)) ∧ (putK kvs (keyE t.1 t.2.1) (.int t.2.2)).length ≤ i + 1 :=
          fun H5 s5 hD5 c k nk => ⟨same_at (s5.trans (same_upd nk)) nD, kv.put et c, kvE_len (ts := ts) kl _ _⟩
        cases el2 : leastE (ts.take i) t.1 t.2.1 with
        | none =>
          refine iteT ?_
          refine ⟨_, rfl, _, rfl, _, rfl, _, rfl, (show (2 : Nat) ≤ sizeLine by decide), fun k2 nk2 => ?_⟩
          obtain ⟨h1, h2, h3⟩ := put _ sm1 (s1 _ _ hD) (by rw [el2]; rfl) k2 nk2
          exact ⟨D, _, rfl, DPut.t (k := keyE t.1 t.2.1) ((same_upd nk2) _ _ (s1 _ _ hD)) upd_same hz, h1, _, _, _, _, upd_same, h2, h3, rfl⟩
        | some v =>
          refine iteF ?_
          refine ⟨_, rfl, _, rfl, _, rfl, _, rfl, (show (2 : Nat) ≤ sizeLine by decide), fun k2 nk2 => ?_⟩
          have s2 := same_upd (o := .tup [vN t.1, vN t.2.1]) nk2
          have g2 : DGet (upd (upd H2 k1 (.tup [vN t.1, vN t.2.1])) k2 (.tup [vN t.1, vN t.2.1])) D (.ref k2) (some (V.int v)) := by
            have := DGet.t (k := keyE t.1 t.2.1) (s2 _ _ (s1 _ _ hD)) upd_same
            rw [kv.at_, el2] at this
            exact this
          refine ⟨D, _, rfl, g2, _, _, rfl, rfl, _, rfl, ite2 (fun c => ?_) (fun c => ?_)⟩
          · have c := of_decide_eq_true c
            refine ⟨_, rfl, _, rfl, _, rfl, _, rfl, (show (2 : Nat) ≤ sizeLine by decide), fun k3 nk3 => ?_⟩
            obtain ⟨h1, h2, h3⟩ := put _ (sm1.trans s2) (s2 _ _ (s1 _ _ hD)) (by rw [el2]; show some (if t.2.2 < v then t.2.2 else v) = _; rw [if_pos c]) k3 nk3
            exact ⟨D, _, rfl, DPut.t (k := keyE t.1 t.2.1) ((same_upd nk3) _ _ (s2 _ _ (s1 _ _ hD))) upd_same hz, h1, _, _, _, _, upd_same, h2, h3, rfl⟩
          · have c : ¬ t.2.2 < v := of_decide_eq_false (Bool.eq_false_iff.mpr c)
            exact ⟨sm1.trans s2, kvs, _, _, _, s2 _ _ (s1 _ _ hD), kv.stay et (by rw [el2]; show some (if t.2.2 < v then t.2.2 else v) = _; rw [if_neg c]), Nat.le_succ_of_le kl, rfl⟩
      · rintro σ H2 ⟨sm, kvs, y1, y2, y3, hD, kv, kl, rfl⟩
        rw [el, List.take_length] at kv
        rw [el] at kl
        exact ⟨_, rfl, q _ D kvs nD sm hD kv kl⟩
end
end TK

namespace TK
open PySem PySem.Spec PyProof.Rows L2
abbrev s_Tolls_init : Stmt := inClass (topS 25) 0
theorem sc_Tolls_init : FnScope ["self", "names", "entries"] ["self", "names", "entries"] (defScope s_Tolls_init) := ⟨rfl, rfl, rfl, by decide +kernel, rfl, by decide +kernel, by decide +kernel⟩
abbrev s_Tolls_getitem : Stmt := inClass (topS 25) 2
theorem sc_Tolls_getitem : FnScope ["self", "at", "giver", "taker"] ["self", "at"] (defScope s_Tolls_getitem) := ⟨rfl, rfl, rfl, by decide +kernel, rfl, by decide +kernel, by decide +kernel⟩
abbrev s_Tolls_entries : Stmt := inClass (topS 25) 10
theorem sc_Tolls_entries : FnScope ["self", "giver", "taker"] ["self"] (defScope s_Tolls_entries) := ⟨rfl, rfl, rfl, by decide +kernel, rfl, by decide +kernel, by decide +kernel⟩
structure NsOk (zs : List Nam) : Prop where
  nm : ∀ z ∈ zs, NmH z
  nd : zs.Nodup
  l1 : 1 ≤ zs.length
  l6 : zs.length ≤ 6
theorem putF_len (f : Str) (v : V) : ∀ fs : List (Str × V), (putF f v fs).length ≤ fs.length + 1
  | [] => Nat.le_refl _
  | (g, x) :: r => by
    show (if g = f then _ else _ : List (Str × V)).length ≤ _
    split
    · exact Nat.le_succ _
    · exact Nat.succ_le_succ (putF_len f v r)
def fldsT (a d : Addr) : List (Str × V) := putF "_prices" (.ref d) (putF "names" (.ref a) [])
theorem fldsT_names (a b : Addr) : (fldsT a b).lookup ("names" : Str) = some (.ref a) := by
  unfold fldsT
  rw [lookup_putF, if_neg (by decide +kernel), lookup_putF, if_pos rfl]
theorem fldsT_prices (a b : Addr) : (fldsT a b).lookup ("_prices" : Str) = some (.ref b) := by
  unfold fldsT
  rw [lookup_putF, if_pos rfl]
structure TxtT (K : PySem.W.Frag) (C : Addr) : Prop where
  cl : Cls K C
  nN : NoAttr K C "names"
  nP : NoAttr K C "_prices"
def TkAt (K : PySem.W.Frag) (C : Addr) (H : Hp) (p : Addr) (zs : List Nam) (ts : List Tie) : Prop := ∃ dx a d kvs, H p = some (.ins C dx (fldsT a d)) ∧ TL H a (zs.map vN) ∧ H d = some (.dT kvs) ∧ KvE kvs ts ∧ kvs.length ≤ ts.length
theorem TkAt.same {K : PySem.W.Frag} {C : Addr} {H H' : Hp} {p : Addr} {zs : List Nam} {ts : List Tie} (h : TkAt K C H p zs ts) (s : Same H H') : TkAt K C H' p zs ts := by
  obtain ⟨dx, a, d, kvs, h1, h2, h3, h4, h5⟩ := h
  exact ⟨dx, a, d, kvs, s _ _ h1, h2.elim (fun h => .inl (s _ _ h)) (fun ⟨o, h⟩ => .inr ⟨o, s _ _ h⟩), s _ _ h3, h4, h5⟩
section
variable {P : Program} {w : World} {K : PySem.W.Frag} {mg : Str → Option Value} {base : Heap}
/-! Tolls[..] -/
def spGetT (K : PySem.W.Frag) (C : Addr) : Sp := fun vs H Q _ => ∃ (p k : Addr) (zs : List Nam) (ts : List Tie) (x y : Nam), vs = [.ref p, .ref k] ∧ TkAt K C H p zs ts ∧ H k = some (.tup [vN x, vN y]) ∧ x ∈ zs ∧ y ∈ zs ∧ ∀ H', Same H H' → Q (capI (leastE ts x y)) H'
theorem ok_Tolls_getitem {f C : Addr} {fd : FuncData} (F : Fun K "__getitem__" "Tolls.__getitem__" s_Tolls_getitem f fd) (T : TxtT K C) (d_check_known : Def P w K mg base "check_known" 1 ["names", "known"] (spKnown K)) :
    FnOk P w K mg base CX0 2 f fd ["self", "at"] (spGetT K C) := by
  refine F.ok sc_Tolls_getitem (fun vs H Q E h => ?_) (fun cdv A outer s H vs Q E hr h => ?_)
  · obtain ⟨p, k, zs, ts, x, y, rfl, _⟩ := h
    rfl
  · obtain ⟨p, k, zs, ts, x, y, rfl, tk, hk, hx, hy, q⟩ := h
    obtain ⟨dx, a, d, kvs, hp, ha, hd, kv, kl⟩ := id tk
    refine ⟨_, (pss_cons (ps_asg (pv 1) (pg_tup (by rfl) (pgs_cons (pg_name (i := 2) sc_Tolls_getitem.nd rfl (.inl rfl)) (pgs_cons (pg_name (i := 3) sc_Tolls_getitem.nd rfl (.inl rfl)) pgs_nil))))
  (pss_cons (ps_expr (pe_callD d_check_known (hr.mono (by decide)) (by rfl) (pa_cons (pe_lst (pa_cons (pv 2) (pa_cons (pv 3) pa_nil))) (pa_cons (pe_fld (pv 0) rfl) pa_nil))))
  (pss_one (ps_ret (pe_dget1 (hu_of hr) (pe_fld (pv 0) rfl) (pe_tup (pa_cons (pv 2) (pa_cons (pv 3) pa_nil))) ⟨rfl, by rfl, by rfl, rfl⟩))))), ?_⟩
    refine ⟨_, rfl, _, _, rfl, tupAt hk, rfl, _, _, rfl, _, _, rfl, rfl, ?_⟩
    refine ⟨_, rfl, _, rfl, (show (2 : Nat) ≤ sizeLine by decide), fun l nl => ?_⟩
    have s1 := same_upd (o := .lst [vN x, vN y]) nl
    refine ⟨_, rfl, p, C, dx, _, _, rfl, s1 _ _ hp, T.cl, T.nN, fldsT_names _ _, l, a, [x, y], zs, rfl, .inl (lstAt upd_same), .inr (same_tup s1 ha.sq), ?_, ?_⟩
    · intro z hz
      rcases List.mem_cons.mp hz with rfl | hz
      · exact hx
      · rw [List.mem_singleton.mp hz]; exact hy
    refine ⟨_, rfl, p, C, dx, _, _, rfl, s1 _ _ hp, T.cl, T.nP, fldsT_prices _ _, d, rfl, .inr ⟨kvs, .inl (s1 _ _ hd)⟩, _, rfl, _, rfl, (show (2 : Nat) ≤ sizeLine by decide), fun k2 nk2 => ?_⟩
    have s2 := same_upd (o := .tup [vN x, vN y]) nk2
    refine ⟨_, DGet.t (k := keyE x y) (s2 _ _ (s1 _ _ hd)) upd_same, ?_⟩
    have := q _ (s1.trans s2)
    rw [kv.at_]
    cases e : leastE ts x y with
    | none => rw [e] at this; exact this
    | some v => rw [e] at this; exact this
/-! Tolls.__init__ -/
def spInitT (K : PySem.W.Frag) (C : Addr) : Sp := fun vs H Q _ => ∃ (p a b dx : Addr) (zs : List Nam) (es : List Addr) (ts : List Tie), vs = [.ref p, .ref a, .ref b] ∧ H p = some (.ins C dx []) ∧ (SqL K H a (zs.map vN) ∨ TL H a (zs.map vN)) ∧ SqS K H b (es.map V.ref) ∧ TiesAt H es ts ∧ NsOk zs ∧ EOk zs ts ∧ ts.length ≤ 10000 ∧
  ∀ H', TkAt K C H' p zs ts → (∀ c o, H c = some o → c ≠ p → H' c = some o) → Q .non H'
end
end TK

namespace TK
open PySem PySem.Spec PyProof.Rows L2
theorem rd_frame {H H' : Hp} {a p : Addr} {o ins : HO} (h : Rd H a o) (hp : H p = some ins) (n1 : o ≠ ins) (n2 : ∀ ob, HO.frz ob o ≠ ins) (f : ∀ c x, H c = some x → c ≠ p → H' c = some x) : Rd H' a o := by
  rcases h with h | ⟨ob, h⟩
  · exact .inl (f _ _ h (ne_of h hp n1))
  · exact .inr ⟨ob, f _ _ h (ne_of h hp (n2 ob))⟩
theorem sqT_frame {K : PySem.W.Frag} {H H' : Hp} {a p C dx : Addr} {fs : List (Str × V)} {xs : List V} (h : SqT K H a xs) (hp : H p = some (.ins C dx fs)) (f : ∀ c x, H c = some x → c ≠ p → H' c = some x) : SqT K H' a xs := by
  rcases h with h | h
  · exact .inl (rd_frame h hp (by intro z; cases z) (by intro _ z; cases z) f)
  · exact .inr h
theorem sqS_frame {K : PySem.W.Frag} {H H' : Hp} {a p C dx : Addr} {fs : List (Str × V)} {xs : List V} (h : SqS K H a xs) (hp : H p = some (.ins C dx fs)) (f : ∀ c x, H c = some x → c ≠ p → H' c = some x) : SqS K H' a xs := by
  rcases h with h | h
  · rcases h with h | h
    · exact .inl (.inl (rd_frame h hp (by intro z; cases z) (by intro _ z; cases z) f))
    · exact .inl (.inr h)
  · exact .inr (sqT_frame h hp f)
theorem TL.same {H H' : Hp} {a : Addr} {xs : List V} (h : TL H a xs) (s : Same H H') : TL H' a xs := h.elim (fun h => .inl (s _ _ h)) (fun ⟨o, h⟩ => .inr ⟨o, s _ _ h⟩)
theorem tl_frame {H H' : Hp} {a p C dx : Addr} {fs : List (Str × V)} {xs : List V} (h : TL H a xs) (hp : H p = some (.ins C dx fs)) (f : ∀ c x, H c = some x → c ≠ p → H' c = some x) : TL H' a xs := rd_frame h hp (by intro z; cases z) (by intro _ z; cases z) f
section
variable {P : Program} {w : World} {K : PySem.W.Frag} {mg : Str → Option Value} {base : Heap}
theorem ok_Tolls {f C : Addr} {fd : FuncData} {dvs : List V} {kws : List (Str × V)} (F : FunD K "__init__" "Tolls.__init__" (defArgs s_Tolls_init) (defBody s_Tolls_init) (defScope s_Tolls_init) dvs kws f fd) (T : TxtT K C) (m_tuple : mg "tuple" = none)
    (d_check_names : DefD P w K mg base "check_names" 2 ["names", "most", "hook"] (spCheckH K) []) (d_check_entries : Def P w K mg base "_check_entries" 2 ["names", "entries"] (spCheckE K)) (d_least_tolls : Def P w K mg base "_least_tolls" 1 ["entries"] (spLeastT K)) :
    FnOk P w K mg base CX0 3 f fd ["self", "names", "entries"] (spInitT K C) := by
  refine F.ok (CX := CX0) sc_Tolls_init (fun vs H Q E h => ?_) (fun cdv A outer s H vs Q E hr h => ?_)
  · obtain ⟨p, a, b, dx, zs, es, ts, rfl, _⟩ := h
    rfl
  · obtain ⟨p, a, b, dx, zs, es, ts, rfl, hp, hA, hB, hT, nok, eok, l4, q⟩ := h
    have l6 := nok.l6
    refine ⟨_, PSs.nox (pss_cons (ps_expr (pe_callDD d_check_names (hr.mono (by decide)) (by rfl) (pa_cons (pv 1) (pa_cons pe_int (pa_cons pe_bl pa_nil)))))
  (pss_cons (ps_expr (pe_callD d_check_entries (hr.mono (by decide)) (by rfl) (pa_cons (pv 1) (pa_cons (pv 2) pa_nil))))
  (pss_cons (ps_fld (pv 0) (pe_callTy call_tuple_of (by rfl) m_tuple (by decide +kernel) (pa_cons (pv 1) pa_nil)) rfl)
  (pss_one (ps_fld (pv 0) (pe_callD d_least_tolls (hr.mono (by decide)) (by rfl) (pa_cons (pv 2) pa_nil)) rfl))))), ?_⟩
    have hS : SqS K H a (zs.map vN) := hA.elim .inl fun h => .inr h.sq
    refine ⟨_, rfl, a, 6, zs, rfl, hS, nok.l1, by omega, l6, nok.nm, nok.nd, fun H1 s1 => ?_⟩
    refine ⟨_, rfl, _, rfl, a, b, zs, es, ts, rfl, hS.same s1, hB.same s1, hT.same s1, eok, fun H2 s2 => ?_⟩
    have s12 := s1.trans s2
    refine ⟨_, rfl, a, zs.map vN, rfl, ?_⟩
    rcases hA with hL | hU
    · refine .inl ⟨s12.seq hL, fun l nl => ?_⟩
      have s3 := s12.trans (same_upd (o := .tup (zs.map vN)) nl)
      have hl3 : TL (upd H2 l (.tup (zs.map vN))) l (zs.map vN) := .inl upd_same
      have hp3 := s3 _ _ hp
      refine ⟨_, rfl, p, C, dx, [], rfl, hp3, T.cl, T.nN, by decide, ?_⟩
      generalize eH3 : (upd H2 l (.tup (zs.map vN)) : Hp) = H3 at s3 hp3 hl3 ⊢
      clear eH3
      have f4 : ∀ (fs : List (Str × V)) c x, H3 c = some x → c ≠ p → (upd H3 p (.ins C dx fs)) c = some x := fun fs c x e n => by rw [upd_ne n]; exact e
      have hB4 := sqS_frame (hB.same s3) hp3 (f4 (putF "names" (.ref l) []))
      have hT4 : TiesAt (upd H3 p (.ins C dx (putF "names" (.ref l) []))) es ts := ⟨hT.1, fun i e he => by
        obtain ⟨t, h1, h2⟩ := hT.2 i e he
        exact ⟨t, h1, f4 _ _ _ (s3 _ _ h2) (ne_of (s3 _ _ h2) hp3 (by intro z; cases z))⟩⟩
      refine ⟨_, rfl, b, es, ts, rfl, hB4, hT4, l4, fun H5 d kvs nd5 s5 ed kv kl => ?_⟩
      have hp5 := s5 _ _ upd_same
      have dp : d ≠ p := (ne_of_none upd_same nd5).symm
      refine ⟨_, rfl, p, C, dx, _, rfl, hp5, T.cl, T.nP, Nat.lt_of_le_of_lt (putF_len _ _ _) (by decide), ?_⟩
      have f6 : ∀ c x, H3 c = some x → c ≠ p → (upd H5 p (.ins C dx (putF "_prices" (.ref d) (putF "names" (.ref l) [])))) c = some x := fun c x e n => by rw [upd_ne n]; exact s5 _ _ (f4 _ c x e n)
      exact q _ ⟨dx, l, d, kvs, upd_same, tl_frame hl3 hp3 f6, by rw [upd_ne dp]; exact ed, kv, kl⟩ fun c x e n => f6 c x (s3 _ _ e) n
    · refine .inr ⟨(hU.same s12).sq, ?_⟩
      have s3 := s12
      have hl3 := hU.same s12
      have hp3 := s3 _ _ hp
      refine ⟨_, rfl, p, C, dx, [], rfl, hp3, T.cl, T.nN, by decide, ?_⟩
      generalize eH3 : (H2 : Hp) = H3 at s3 hp3 hl3 ⊢
      clear eH3
      have f4 : ∀ (fs : List (Str × V)) c x, H3 c = some x → c ≠ p → (upd H3 p (.ins C dx fs)) c = some x := fun fs c x e n => by rw [upd_ne n]; exact e
      have hB4 := sqS_frame (hB.same s3) hp3 (f4 (putF "names" (.ref a) []))
      have hT4 : TiesAt (upd H3 p (.ins C dx (putF "names" (.ref a) []))) es ts := ⟨hT.1, fun i e he => by
        obtain ⟨t, h1, h2⟩ := hT.2 i e he
        exact ⟨t, h1, f4 _ _ _ (s3 _ _ h2) (ne_of (s3 _ _ h2) hp3 (by intro z; cases z))⟩⟩
      refine ⟨_, rfl, b, es, ts, rfl, hB4, hT4, l4, fun H5 d kvs nd5 s5 ed kv kl => ?_⟩
      have hp5 := s5 _ _ upd_same
      have dp : d ≠ p := (ne_of_none upd_same nd5).symm
      refine ⟨_, rfl, p, C, dx, _, rfl, hp5, T.cl, T.nP, Nat.lt_of_le_of_lt (putF_len _ _ _) (by decide), ?_⟩
      have f6 : ∀ c x, H3 c = some x → c ≠ p → (upd H5 p (.ins C dx (putF "_prices" (.ref d) (putF "names" (.ref a) [])))) c = some x := fun c x e n => by rw [upd_ne n]; exact s5 _ _ (f4 _ c x e n)
      exact q _ ⟨dx, a, d, kvs, upd_same, tl_frame hl3 hp3 f6, by rw [upd_ne dp]; exact ed, kv, kl⟩ fun c x e n => f6 c x (s3 _ _ e) n
/-! entries -/
def cellE (ts : List Tie) (x y : Nam) : Option Tie := (leastE ts x y).map fun v => (x, y, v)
def listE (zs : List Nam) (ts : List Tie) : List Tie := zs.flatMap fun x => zs.filterMap (cellE ts x)
def spEntries (K : PySem.W.Frag) (C : Addr) : Sp := fun vs H Q _ => ∃ (p : Addr) (zs : List Nam) (ts : List Tie), vs = [.ref p] ∧ TkAt K C H p zs ts ∧ zs.length ≤ 6 ∧
  ∀ H' q es, H q = none → Same H H' → H' q = some (.lst (es.map V.ref)) → TiesAt H' es (listE zs ts) → es.length ≤ 36 → Q (.ref q) H'
theorem fm_snoc {α β : Type} {f : α → Option β} {xs : List α} {i : Nat} {x : α} (h : xs[i]? = some x) : (xs.take (i + 1)).filterMap f = (xs.take i).filterMap f ++ (f x).toList := by
  rw [List.take_add_one, h, List.filterMap_append]
  cases e : f x <;> simp [e]
theorem ok_Tolls_entries {f C : Addr} {fd : FuncData} (F : Fun K "entries" "Tolls.entries" s_Tolls_entries f fd) (T : TxtT K C) : FnOk P w K mg base CX0 1 f fd ["self"] (spEntries K C) := by
  refine F.ok sc_Tolls_entries (fun vs H Q E h => ?_) (fun cdv A outer s H vs Q E hr h => ?_)
  · obtain ⟨p, zs, ts, rfl, _⟩ := h
    rfl
  · obtain ⟨p, zs, ts, rfl, tk, l6, q⟩ := h
    obtain ⟨dx, a, d, kvs, hp, ha, hd, kv, kl⟩ := id tk
    have zl : (zs.map vN).length = zs.length := List.length_map ..
    refine ⟨_, (pss_one (ps_ret (pe_lc2 (own := [("giver", 1), ("taker", 2)]) (vs1 := [2]) (by rfl) sc_Tolls_entries.nd (pi_tup (pe_fld (pv 0) rfl)) (blkOk_by (N := ["self", "giver", "taker"]) (sc := defScope s_Tolls_entries) (by decide +kernel)) (by decide) (fun _ _ _ _ _ => (pg_name (i := 1) sc_Tolls_entries.nd rfl (.inl rfl))) (fun _ _ _ _ _ => pts_nil) (fun _ _ _ _ _ => (pi_tupK (K := K) rfl (pe_fldK (K := K) rfl (pv 0) rfl))) (fun _ _ _ _ _ => (pg_name (i := 2) sc_Tolls_entries.nd rfl (.inl rfl))) (fun _ _ _ _ _ => (pts_one (pt_cmp (pc_din (hu_of hr) (pe_tup (pa_cons (pv 1) (pa_cons (pv 2) pa_nil))) (pe_fldK (K := K) rfl (pv 0) rfl))))) (fun _ _ _ _ _ => (pe_tup (pa_cons (pv 1) (pa_cons (pv 2) (pa_cons (pe_dget (hu_of hr) (pe_fldK (K := K) rfl (pv 0) rfl) (pe_tup (pa_cons (pv 1) (pa_cons (pv 2) pa_nil))) (fun _ _ => rfl)) pa_nil)))))))), ?_⟩
    refine ⟨_, rfl, p, C, dx, _, _, rfl, hp, T.cl, T.nN, fldsT_names _ _, a, rfl, ⟨_, ha.sq⟩, fun D nD => ?_⟩
    refine walk_go (walk_tup (K := K) (a := a) (xs := zs.map vN)) (fun i H' => ∃ es : List Addr, Same H H' ∧ H' D = some (.lst (es.map V.ref)) ∧ TiesAt H' es ((zs.take i).flatMap fun x => zs.filterMap (cellE ts x)) ∧ es.length ≤ 6 * i) ⟨[], same_upd nD, upd_same, ⟨rfl, fun _ _ h => nomatch h⟩, Nat.le_refl _⟩ (fun i H' _ hq => same_tup hq.choose_spec.1 ha.sq) (fun i x H1 H2 hi hq hy => ?_) (fun H' hq => ?_)
    · obtain ⟨es, s1, eD, hT, l1⟩ := hq
      obtain ⟨rfl, hx⟩ := hy
      obtain ⟨z, ez, rfl⟩ := vN_at hx
      have hi6 : i < 6 := by have := (List.getElem?_eq_some_iff.mp ez).1; omega
      refine ⟨rfl, yesT ⟨_, rfl, p, C, dx, _, _, rfl, s1 _ _ hp, T.cl, T.nN, fldsT_names _ _, a, rfl, ⟨_, same_tup s1 ha.sq⟩, ?_⟩⟩
      refine walk_go (walk_tup (K := K) (a := a) (xs := zs.map vN)) (fun j H' => ∃ es : List Addr, Same H H' ∧ H' D = some (.lst (es.map V.ref)) ∧ TiesAt H' es (((zs.take i).flatMap fun x => zs.filterMap (cellE ts x)) ++ (zs.take j).filterMap (cellE ts z)) ∧ es.length ≤ 6 * i + j) ⟨es, s1, eD, by rw [List.take_zero, List.filterMap_nil, List.append_nil]; exact hT, by omega⟩ (fun j H' _ hq => same_tup hq.choose_spec.1 ha.sq) (fun j x H3 H4 hj hq hy => ?_) (fun H' hq => ?_)
      · obtain ⟨es, s3, eD3, hT3, l3⟩ := hq
        obtain ⟨rfl, hx2⟩ := hy
        obtain ⟨y, ey, rfl⟩ := vN_at hx2
        have hj6 : j < 6 := by have := (List.getElem?_eq_some_iff.mp ey).1; omega
        refine ⟨rfl, _, rfl, _, rfl, (show (2 : Nat) ≤ sizeLine by decide), fun k nk => ?_⟩
        have sk := same_upd (o := .tup [vN z, vN y]) nk
        have s4 := s3.trans sk
        refine ⟨_, rfl, p, C, dx, _, _, rfl, s4 _ _ hp, T.cl, T.nP, fldsT_prices _ _, d, _, rfl, kv.at_ z y ▸ DGet.t (k := keyE z y) (s4 _ _ hd) upd_same, _, rfl, ?_⟩
        rw [fm_snoc ey]
        cases e : leastE ts z y with
        | none =>
          refine iteF ⟨es, s4, sk _ _ eD3, ?_, by omega⟩
          rw [show cellE ts z y = none by unfold cellE; rw [e]; rfl]
          show TiesAt _ es (_ ++ (_ ++ []))
          rw [List.append_nil]
          exact hT3.same sk
        | some v =>
          refine iteT ?_
          refine ⟨_, rfl, _, rfl, _, rfl, p, C, dx, _, _, rfl, s4 _ _ hp, T.cl, T.nP, fldsT_prices _ _, _, rfl, _, rfl, (show (2 : Nat) ≤ sizeLine by decide), fun k2 nk2 => ?_⟩
          have sk2 := same_upd (o := .tup [vN z, vN y]) nk2
          have g2 : DGet (upd (upd H4 k (.tup [vN z, vN y])) k2 (.tup [vN z, vN y])) d (.ref k2) (some (V.int v)) := by
            have := DGet.t (k := keyE z y) (sk2 _ _ (s4 _ _ hd)) upd_same
            rw [kv.at_, e] at this
            exact this
          refine ⟨d, _, rfl, g2, (show (3 : Nat) ≤ sizeLine by decide), fun t nt => ?_⟩
          have st := same_upd (o := .tup [vN z, vN y, .int v]) nt
          have s5 := (s4.trans sk2).trans st
          have skt := (sk.trans sk2).trans st
          have eD5 := skt _ _ eD3
          refine ⟨_, eD5, by rw [List.length_map]; exact small1000 (by omega), es ++ [t], same_at s5 nD, by rw [List.map_append]; exact upd_same, ?_, by rw [List.length_append]; simp only [List.length_singleton]; omega⟩
          rw [show cellE ts z y = some (z, y, v) by unfold cellE; rw [e]; rfl, ← List.append_assoc]
          have tD : t ≠ D := (ne_of_none ((sk.trans sk2) _ _ eD3) nt).symm
          refine TiesAt.snoc (H := upd (upd (upd (upd H4 k (.tup [vN z, vN y])) k2 (.tup [vN z, vN y])) t (.tup [vN z, vN y, .int v])) D (.lst (es.map V.ref ++ [.ref t]))) ⟨hT3.1, fun m e he => ?_⟩ (Same.refl _) ?_
          · obtain ⟨t', h1, h2⟩ := hT3.2 m e he
            have h3 := skt _ _ h2
            exact ⟨t', h1, by show _ = _; rw [upd_ne (ne_of h3 eD5 (by intro z; cases z))]; exact h3⟩
          · show _ = _
            rw [upd_ne tD]; exact upd_same
      · obtain ⟨es, s3, eD3, hT3, l3⟩ := hq
        rw [zl, List.take_length] at hT3
        rw [zl] at l3
        refine ⟨es, s3, eD3, ?_, by omega⟩
        rw [List.take_add_one, ez, List.flatMap_append]
        show TiesAt H' es (_ ++ List.flatMap _ [z])
        rw [List.flatMap_singleton]
        exact hT3
    · obtain ⟨es, s1, eD, hT, l1⟩ := hq
      rw [zl, List.take_length] at hT
      exact q _ D es nD s1 eD hT (by rw [zl] at l1; omega)
end
end TK

namespace TK
open PySem PySem.Spec PyProof.Rows L2
theorem nd_len {p zs : List Nam} (h : p.Nodup) (s : ∀ w ∈ p, w ∈ zs) : p.length ≤ zs.length := by
  induction p generalizing zs with
  | nil => exact Nat.zero_le _
  | cons a p ih =>
    have ha := s a List.mem_cons_self
    obtain ⟨n1, n2⟩ := List.nodup_cons.mp h
    have := ih (zs := zs.erase a) n2 fun w hw => (List.mem_erase_of_ne (fun e => n1 (by rw [← e]; exact hw))).mpr (s w (List.mem_cons_of_mem _ hw))
    rw [List.length_erase_of_mem ha] at this
    have hp : 0 < zs.length := List.length_pos_of_mem ha
    simp only [List.length_cons]
    omega
theorem none_of {H H' : Hp} {p : Addr} (s : Same H H') (n : H' p = none) : H p = none := by
  cases e : H p with
  | none => rfl
  | some o => rw [s _ _ e] at n; cases n
theorem letters_nd : ((List.range 26).map fun j => [97 + j]).Nodup := nodup_range fun k j _ _ e => by
  have := List.cons.inj e
  omega
section
variable {P : Program} {w : World} {K : PySem.W.Frag} {mg : Str → Option Value} {base : Heap}
/-! _law_strange -/
def spStrange (K : PySem.W.Frag) : Sp := fun vs H Q _ => ∃ (a : Addr) (zs : List Nam), vs = [.ref a] ∧ SqL K H a (zs.map vN) ∧ zs.length ≤ 25 ∧ ∀ n : Nat, n < 26 → [97 + n] ∉ zs → Q (vN [97 + n]) H
/-! _law_words -/
def spWords : Sp := fun vs H Q _ => ∃ (c n : Int), vs = [.int c, .int n] ∧ 1 ≤ n ∧ n ≤ 6 ∧
  ∀ (H' : Hp) (p : Addr) (zs : List Nam), H p = none → Same H H' → H' p = some (.lst (zs.map vN)) → (zs.length : Int) = n → (∀ z ∈ zs, Nm z) → zs.Nodup → Q (.ref p) H'
end
end TK

namespace TK
open PySem PySem.Spec PyProof.Rows L2
/-- what right links keep -/
structure LOk (zs : List Nam) (ts : List Tie) : Prop where
  nm : ∀ z ∈ zs, Nm z
  nd : zs.Nodup
  l1 : 1 ≤ zs.length
  l6 : zs.length ≤ 6
  t12 : ts.length ≤ 12
  a : ∀ t ∈ ts, t.1 ∈ zs
  b : ∀ t ∈ ts, t.2.1 ∈ zs
  ne : ∀ t ∈ ts, t.1 ≠ t.2.1
  h0 : ∀ t ∈ ts, 0 ≤ t.2.2
  h9 : ∀ t ∈ ts, t.2.2 ≤ 1000000000
/-! the object -/
def fldsL (a b : Addr) : List (Str × V) := putF "links" (.ref b) (putF "names" (.ref a) [])
theorem fldsL_names (a b : Addr) : (fldsL a b).lookup ("names" : Str) = some (.ref a) := by
  unfold fldsL
  rw [lookup_putF, if_neg (by decide +kernel), lookup_putF, if_pos rfl]
theorem fldsL_links (a b : Addr) : (fldsL a b).lookup ("links" : Str) = some (.ref b) := by
  unfold fldsL
  rw [lookup_putF, if_pos rfl]
structure TxtL (K : PySem.W.Frag) (C : Addr) : Prop where
  cl : Cls K C
  nN : NoAttr K C "names"
  nL : NoAttr K C "links"
def LkAt (C : Addr) (H : Hp) (p : Addr) (zs : List Nam) (ts : List Tie) : Prop := ∃ dx a b es, H p = some (.ins C dx (fldsL a b)) ∧ TL H a (zs.map vN) ∧ H b = some (.tup (es.map V.ref)) ∧ TiesAt H es ts
theorem LkAt.same {C : Addr} {H H' : Hp} {p : Addr} {zs : List Nam} {ts : List Tie} (h : LkAt C H p zs ts) (s : Same H H') : LkAt C H' p zs ts := by
  obtain ⟨dx, a, b, es, h1, h2, h5, h6⟩ := h
  exact ⟨dx, a, b, es, s _ _ h1, h2.same s, s _ _ h5, h6.same s⟩
theorem LOk.ns {zs : List Nam} {ts : List Tie} (h : LOk zs ts) : NsOk zs := ⟨fun z hz => .inl (h.nm z hz), h.nd, h.l1, h.l6⟩
theorem LOk.eo {zs : List Nam} {ts : List Tie} (h : LOk zs ts) : EOk zs ts := ⟨h.a, h.b, h.h0⟩
def spCheckN (K : PySem.W.Frag) : Sp := fun vs H Q _ => ∃ (a : Addr) (m : Int) (zs : List (List Nat)), vs = [.ref a, .int m, .bl false] ∧ SqS K H a (zs.map vN) ∧ 1 ≤ zs.length ∧ (zs.length : Int) ≤ m ∧ zs.length ≤ 6 ∧ (∀ z ∈ zs, Nm z) ∧ zs.Nodup ∧ ∀ H', Same H H' → Q .non H'
section
variable {P : Program} {w : World} {K : PySem.W.Frag} {mg : Str → Option Value} {base : Heap}
theorem ok_check_range {f : Addr} {fd : FuncData} (F : Fun K "check_range" "check_range" s_check_range f fd) : FnOk P w K mg base CX0 1 f fd ["number", "low", "high"] spRange := by
  refine F.ok sc_check_range (fun vs H Q E h => ?_) (fun cdv A outer s H vs Q E hr h => ?_)
  · obtain ⟨a, lo, hi, rfl, _⟩ := h
    rfl
  · obtain ⟨a, lo, hi, rfl, h1, h2, q⟩ := h
    refine ⟨_, (pss_one (ps_if (pt_not (pt_chain op_le op_le (pv 1) (pv 0) (pv 2))) (pss_one ps_never) pss_nil)), ?_⟩
    refine ⟨_, rfl, _, rfl, _, _, rfl, rfl, _, rfl, ?_⟩
    rw [decide_eq_true h1]
    refine iteT ⟨_, rfl, _, _, rfl, rfl, _, rfl, ?_⟩
    rw [decide_eq_true h2]
    exact iteF q
theorem ok_check_namesN {f : Addr} {fd : FuncData} {dvs : List V} {kws : List (Str × V)} (F : FunD K "check_names" "check_names" (defArgs s_check_names) (defBody s_check_names) (defScope s_check_names) dvs kws f fd) (m_len : mg "len" = none) (m_enumerate : mg "enumerate" = none)
    (d_check_size : Def P w K mg base "check_size" 1 ["size", "low", "high"] spRange) (d_is_name : Def P w K mg base "is_name" 1 ["word"] spIsNameH) : FnOk P w K mg base CX0 2 f fd ["names", "most", "hook"] (spCheckN K) := by
  refine F.ok (CX := CX0) sc_check_names (fun vs H Q E h => ?_) (fun cdv A outer s H vs Q E hr h => ?_)
  · obtain ⟨a, m, zs, rfl, _⟩ := h
    rfl
  · obtain ⟨a, m, zs, rfl, hS, l1, l2, l6, nm, nd, q⟩ := h
    have hp : ∀ (i : Nat) (x : V) (H2 : Hp), Same H H2 → (zs.map vN)[i]? = some x → ∃ z, zs[i]? = some z ∧ x = vN z ∧ Nm z := fun i x H2 _ hx => by
      obtain ⟨z, ez, rfl⟩ := vN_at hx
      exact ⟨z, ez, rfl, nm z (List.mem_of_getElem? ez)⟩
    rcases hS with hS | hS
    · refine ⟨_, PSs.nox (pss_cons (ps_expr (pe_callD d_check_size (hr.mono (by decide)) (by rfl) (pa_cons (pe_callB call_len_seq (by rfl) m_len (by decide +kernel) (pa_cons (pv 0) pa_nil)) (pa_cons pe_int (pa_cons (pv 1) pa_nil)))))
  (pss_one (ps_for PassesOwn.never rfl (pi_enum (by rfl) m_enumerate (pa_cons (pv 0) pa_nil)) (pg_tup (by rfl) (pgs_cons (pg_name (i := 3) sc_check_names.nd rfl (.inl rfl)) (pgs_cons (pg_name (i := 4) sc_check_names.nd rfl (.inl rfl)) pgs_nil)))
    (pss_cons (ps_if (PW.pt (pw_and (pt_not (pt_val (pe_callD d_is_name (hr.mono (by decide)) (by rfl) (pa_cons (pv 4) pa_nil)))) (pw_and1 (pt_not (PW.pt (pw_and (pt_val (pv 2)) (pw_and1 (pt_cmpR op_eq (pv 4) pe_str (nomark _))))))))) (pss_one ps_never) pss_nil)
  (pss_one (ps_if (pt_cmpR op_in_seq (pv 4) (pe_slice sl_list (pv 0) po_none (po_some (pv 3))) (by rfl)) (pss_one ps_never) pss_nil)))))), ?_⟩
      refine ⟨_, rfl, _, _, rfl, .inl hS, _, rfl, _, _, _, rfl, by rw [List.length_map]; omega, by rw [List.length_map]; omega, ?_⟩
      refine ⟨_, rfl, _, _, rfl, hS, for_it walk_enum (fun i σ H2 => Same H H2 ∧ ∃ y1 y2 : Option V, σ = [some (.ref a), some (.int m), some (.bl false), y1, y2]) ⟨Same.refl H, _, _, rfl⟩ (fun i σ H2 _ hp => hp.1.seq hS) ?_ ?_⟩
      · rintro i x σ H2 H3 hi ⟨sm, y1, y2, rfl⟩ ⟨T, v1, v2, rfl, nT, rfl, e1, e2⟩
        cases e1
        obtain ⟨z, ez, rfl, hz⟩ := hp i _ H2 sm e2
        have sm3 := sm.trans (same_upd (o := .tup [.int (i : Nat), vN z]) nT)
        refine ⟨_, _, rfl, tupAt upd_same, rfl, _, _, rfl, _, _, rfl, rfl, ?_⟩
        refine ⟨_, rfl, z, rfl, .inl hz, fun H4 s4 => ⟨_, rfl, ?_⟩⟩
        have sm4 := sm3.trans s4
        rw [nz_nm hz]
        refine iteF (iteF ?_)
        refine ⟨_, rfl, _, rfl, _, rfl, _, rfl, _, _, rfl, sm4.seq hS, fun p np => ?_⟩
        rw [cut_names]
        have sp := same_upd (o := .lst ((zs.take i).map vN)) np
        refine ⟨p, _, rfl, .inl (lstAt upd_same), rfl, nms_flat _, _, rfl, ?_⟩
        rw [in_nm, decide_eq_false (not_before nd ez)]
        exact iteF ⟨sm4.trans sp, _, _, rfl⟩
      · rintro σ H2 ⟨sm, y1, y2, rfl⟩
        exact q _ sm
    · refine ⟨_, PSs.nox (pss_cons (ps_expr (pe_callD d_check_size (hr.mono (by decide)) (by rfl) (pa_cons (pe_callB call_len_seq (by rfl) m_len (by decide +kernel) (pa_cons (pv 0) pa_nil)) (pa_cons pe_int (pa_cons (pv 1) pa_nil)))))
  (pss_one (ps_for PassesOwn.never rfl (pi_enumT (by rfl) m_enumerate (pa_cons (pv 0) pa_nil)) (pg_tup (by rfl) (pgs_cons (pg_name (i := 3) sc_check_names.nd rfl (.inl rfl)) (pgs_cons (pg_name (i := 4) sc_check_names.nd rfl (.inl rfl)) pgs_nil)))
    (pss_cons (ps_if (PW.pt (pw_and (pt_not (pt_val (pe_callD d_is_name (hr.mono (by decide)) (by rfl) (pa_cons (pv 4) pa_nil)))) (pw_and1 (pt_not (PW.pt (pw_and (pt_val (pv 2)) (pw_and1 (pt_cmpR op_eq (pv 4) pe_str (nomark _))))))))) (pss_one ps_never) pss_nil)
  (pss_one (ps_if (pt_cmpR op_in_seq (pv 4) (pe_slice sl_tup (pv 0) po_none (po_some (pv 3))) (by rfl)) (pss_one ps_never) pss_nil)))))), ?_⟩
      refine ⟨_, rfl, _, _, rfl, .inr hS, _, rfl, _, _, _, rfl, by rw [List.length_map]; omega, by rw [List.length_map]; omega, ?_⟩
      refine ⟨_, rfl, _, _, rfl, hS, for_it walk_enumT (fun i σ H2 => Same H H2 ∧ ∃ y1 y2 : Option V, σ = [some (.ref a), some (.int m), some (.bl false), y1, y2]) ⟨Same.refl H, _, _, rfl⟩ (fun i σ H2 _ hp => same_tup (hp.1) hS) ?_ ?_⟩
      · rintro i x σ H2 H3 hi ⟨sm, y1, y2, rfl⟩ ⟨T, v1, v2, rfl, nT, rfl, e1, e2⟩
        cases e1
        obtain ⟨z, ez, rfl, hz⟩ := hp i _ H2 sm e2
        have sm3 := sm.trans (same_upd (o := .tup [.int (i : Nat), vN z]) nT)
        refine ⟨_, _, rfl, tupAt upd_same, rfl, _, _, rfl, _, _, rfl, rfl, ?_⟩
        refine ⟨_, rfl, z, rfl, .inl hz, fun H4 s4 => ⟨_, rfl, ?_⟩⟩
        have sm4 := sm3.trans s4
        rw [nz_nm hz]
        refine iteF (iteF ?_)
        refine ⟨_, rfl, _, rfl, _, rfl, _, rfl, _, _, rfl, same_tup (sm4) hS, (by rintro ⟨_, hw⟩; rw [HT.sIx_nat] at hw; have hi' : i < (zs.map vN).length := hi; omega), fun p np => ?_⟩
        rw [cut_names]
        have sp := same_upd (o := .tup ((zs.take i).map vN)) np
        refine ⟨p, _, rfl, .inr (tupAt upd_same), rfl, nms_flat _, _, rfl, ?_⟩
        rw [in_nm, decide_eq_false (not_before nd ez)]
        exact iteF ⟨sm4.trans sp, _, _, rfl⟩
      · rintro σ H2 ⟨sm, y1, y2, rfl⟩
        exact q _ sm
/-! _check_links -/
def spCheckL (K : PySem.W.Frag) : Sp := fun vs H Q _ => ∃ (a b : Addr) (zs : List Nam) (es : List Addr) (ts : List Tie), vs = [.ref a, .ref b] ∧ SqS K H a (zs.map vN) ∧ SqS K H b (es.map V.ref) ∧ TiesAt H es ts ∧ LOk zs ts ∧ ∀ H', Same H H' → Q .non H'
theorem ok_check_links {f : Addr} {fd : FuncData} {t1 t2 : Tok} (F : Fun K "_check_links" "_check_links" s_check_links f fd) (m_len : mg "len" = none) (g_MOST_LINKS : mg "MOST_LINKS" = some (.int 12 t1)) (g_MOST_TOLL : mg "MOST_TOLL" = some (.int 1000000000 t2))
    (d_check_size : Def P w K mg base "check_size" 1 ["size", "low", "high"] spRange) (d_check_range : Def P w K mg base "check_range" 1 ["number", "low", "high"] spRange) (d_check_known : Def P w K mg base "check_known" 1 ["names", "known"] (spKnown K)) :
    FnOk P w K mg base CX0 2 f fd ["names", "links"] (spCheckL K) := by
  refine F.ok sc_check_links (fun vs H Q E h => ?_) (fun cdv A outer s H vs Q E hr h => ?_)
  · obtain ⟨a, b, zs, es, ts, rfl, _⟩ := h
    rfl
  · obtain ⟨a, b, zs, es, ts, rfl, hA, hB, hT, ok, q⟩ := h
    have el : (es.map V.ref).length = ts.length := by rw [List.length_map, hT.1]
    have t12 := ok.t12
    rcases hB with hB | hB
    · refine ⟨_, (pss_cons (ps_expr (pe_callD d_check_size (hr.mono (by decide)) (by rfl) (pa_cons (pe_callB call_len_seq (by rfl) m_len (by decide +kernel) (pa_cons (pv 1) pa_nil)) (pa_cons pe_int (pa_cons (pe_glob (v := .int 12) (by rfl) g_MOST_LINKS ⟨_, rfl⟩) pa_nil)))))
  (pss_one (ps_for PassesOwn.never rfl (pi_list (pv 1)) (pg_tup (by rfl) (pgs_cons (pg_name (i := 2) sc_check_links.nd rfl (.inl rfl)) (pgs_cons (pg_name (i := 3) sc_check_links.nd rfl (.inl rfl)) (pgs_cons (pg_name (i := 4) sc_check_links.nd rfl (.inl rfl)) pgs_nil))))
    (pss_cons (ps_expr (pe_callD d_check_known (hr.mono (by decide)) (by rfl) (pa_cons (pe_lst (pa_cons (pv 2) (pa_cons (pv 3) pa_nil))) (pa_cons (pv 0) pa_nil))))
  (pss_cons (ps_if (pt_cmpR op_eq (pv 2) (pv 3) (nomark _)) (pss_one ps_never) pss_nil)
  (pss_one (ps_expr (pe_callD d_check_range (hr.mono (by decide)) (by rfl) (pa_cons (pv 4) (pa_cons pe_int (pa_cons (pe_glob (v := .int 1000000000) (by rfl) g_MOST_TOLL ⟨_, rfl⟩) pa_nil))))))))))), ?_⟩
      refine ⟨_, rfl, _, _, rfl, .inl hB, _, _, _, rfl, by omega, by rw [el]; omega, ?_⟩
      refine ⟨_, rfl, b, rfl, ⟨_, hB⟩, for_list (K := K) (a := b) (xs := es.map V.ref) (fun i σ H2 => Same H H2 ∧ ∃ y1 y2 y3 : Option V, σ = [some (.ref a), some (.ref b), y1, y2, y3]) ⟨Same.refl H, _, _, _, rfl⟩ (fun i σ H2 _ hp => hp.1.seq hB) ?_ ?_⟩
      · rintro i x σ H2 hx ⟨sm, y1, y2, y3, rfl⟩
        obtain ⟨e, t, rfl, _, et, ht⟩ := ties_at hT hx
        have tm := mem_at et
        have ht2 := sm _ _ ht
        refine ⟨_, _, rfl, tupAt ht2, rfl, _, _, rfl, _, _, rfl, _, _, rfl, rfl, ?_⟩
        refine ⟨_, rfl, _, rfl, (show (2 : Nat) ≤ sizeLine by decide), fun p np => ?_⟩
        have sp := same_upd (o := .lst [vN t.1, vN t.2.1]) np
        refine ⟨_, rfl, p, a, [t.1, t.2.1], zs, rfl, .inl (lstAt upd_same), hA.same (sm.trans sp), ?_, ?_⟩
        · intro z hz
          rcases List.mem_cons.mp hz with rfl | hz
          · exact ok.a _ tm
          · rw [List.mem_singleton.mp hz]; exact ok.b _ tm
        refine ⟨_, rfl, _, rfl, rfl, _, rfl, ?_⟩
        rw [eq_nm, decide_eq_false (ok.ne _ tm)]
        refine iteF ⟨_, rfl, _, _, _, rfl, ok.h0 _ tm, ok.h9 _ tm, sm.trans sp, _, _, _, rfl⟩
      · rintro σ H2 ⟨sm, y1, y2, y3, rfl⟩
        exact q _ sm
    · refine ⟨_, (pss_cons (ps_expr (pe_callD d_check_size (hr.mono (by decide)) (by rfl) (pa_cons (pe_callB call_len_seq (by rfl) m_len (by decide +kernel) (pa_cons (pv 1) pa_nil)) (pa_cons pe_int (pa_cons (pe_glob (v := .int 12) (by rfl) g_MOST_LINKS ⟨_, rfl⟩) pa_nil)))))
  (pss_one (ps_for PassesOwn.never rfl (pi_tup (pv 1)) (pg_tup (by rfl) (pgs_cons (pg_name (i := 2) sc_check_links.nd rfl (.inl rfl)) (pgs_cons (pg_name (i := 3) sc_check_links.nd rfl (.inl rfl)) (pgs_cons (pg_name (i := 4) sc_check_links.nd rfl (.inl rfl)) pgs_nil))))
    (pss_cons (ps_expr (pe_callD d_check_known (hr.mono (by decide)) (by rfl) (pa_cons (pe_lst (pa_cons (pv 2) (pa_cons (pv 3) pa_nil))) (pa_cons (pv 0) pa_nil))))
  (pss_cons (ps_if (pt_cmpR op_eq (pv 2) (pv 3) (nomark _)) (pss_one ps_never) pss_nil)
  (pss_one (ps_expr (pe_callD d_check_range (hr.mono (by decide)) (by rfl) (pa_cons (pv 4) (pa_cons pe_int (pa_cons (pe_glob (v := .int 1000000000) (by rfl) g_MOST_TOLL ⟨_, rfl⟩) pa_nil))))))))))), ?_⟩
      refine ⟨_, rfl, _, _, rfl, .inr hB, _, _, _, rfl, by omega, by rw [el]; omega, ?_⟩
      refine ⟨_, rfl, b, rfl, ⟨_, hB⟩, for_tup (K := K) (a := b) (xs := es.map V.ref) (fun i σ H2 => Same H H2 ∧ ∃ y1 y2 y3 : Option V, σ = [some (.ref a), some (.ref b), y1, y2, y3]) ⟨Same.refl H, _, _, _, rfl⟩ (fun i σ H2 _ hp => same_tup hp.1 hB) ?_ ?_⟩
      · rintro i x σ H2 hx ⟨sm, y1, y2, y3, rfl⟩
        obtain ⟨e, t, rfl, _, et, ht⟩ := ties_at hT hx
        have tm := mem_at et
        have ht2 := sm _ _ ht
        refine ⟨_, _, rfl, tupAt ht2, rfl, _, _, rfl, _, _, rfl, _, _, rfl, rfl, ?_⟩
        refine ⟨_, rfl, _, rfl, (show (2 : Nat) ≤ sizeLine by decide), fun p np => ?_⟩
        have sp := same_upd (o := .lst [vN t.1, vN t.2.1]) np
        refine ⟨_, rfl, p, a, [t.1, t.2.1], zs, rfl, .inl (lstAt upd_same), hA.same (sm.trans sp), ?_, ?_⟩
        · intro z hz
          rcases List.mem_cons.mp hz with rfl | hz
          · exact ok.a _ tm
          · rw [List.mem_singleton.mp hz]; exact ok.b _ tm
        refine ⟨_, rfl, _, rfl, rfl, _, rfl, ?_⟩
        rw [eq_nm, decide_eq_false (ok.ne _ tm)]
        refine iteF ⟨_, rfl, _, _, _, rfl, ok.h0 _ tm, ok.h9 _ tm, sm.trans sp, _, _, _, rfl⟩
      · rintro σ H2 ⟨sm, y1, y2, y3, rfl⟩
        exact q _ sm
end
end TK

/-! picks and bids of pages -/
namespace TK
open PySem PySem.Spec PyProof.Rows L2
theorem gTup2w {K : PySem.W.Frag} {i j : Nat} {e : Addr} {x y : V} {σ : L2.St} {H : Hp} {Q : L2.St → Hp → Prop} (he : H e = some (.tup [x, y])) (σ' : L2.St) (hσ : (σ.set i (some x)).set j (some y) = σ') (h : Q σ' H) :
    gTup K 2 (gCons (gName i) (gCons (gName j) gNil)) (.ref e) σ H Q := by
  subst hσ
  exact ⟨_, _, rfl, tupAt he, rfl, _, _, rfl, _, _, rfl, rfl, h⟩
abbrev BidD := Nam × Int
def BidsAt (H : Hp) (es : List Addr) (ds : List BidD) : Prop := es.length = ds.length ∧ ∀ (i : Nat) (e : Addr), es[i]? = some e → ∃ d, ds[i]? = some d ∧ H e = some (.tup [vN d.1, .int d.2])
theorem BidsAt.same {H H' : Hp} {es : List Addr} {ds : List BidD} (h : BidsAt H es ds) (s : Same H H') : BidsAt H' es ds := ⟨h.1, fun i e he => by
  obtain ⟨d, a, b⟩ := h.2 i e he
  exact ⟨d, a, s _ _ b⟩⟩
theorem bids_at {H : Hp} {es : List Addr} {ds : List BidD} (h : BidsAt H es ds) {i : Nat} {x : V} (hx : (es.map V.ref)[i]? = some x) : ∃ e d, x = .ref e ∧ ds[i]? = some d ∧ H e = some (.tup [vN d.1, .int d.2]) := by
  rw [List.getElem?_map] at hx
  obtain ⟨e, he, rfl⟩ := Option.map_eq_some_iff.mp hx
  obtain ⟨d, a, b⟩ := h.2 i e he
  exact ⟨e, d, rfl, a, b⟩
theorem BidsAt.app {H : Hp} {es fs : List Addr} {ds us : List BidD} (h : BidsAt H es ds) (k : BidsAt H fs us) : BidsAt H (es ++ fs) (ds ++ us) := by
  refine ⟨by rw [List.length_append, List.length_append, h.1, k.1], fun i e he => ?_⟩
  by_cases hi : i < es.length
  · rw [List.getElem?_append_left hi] at he
    rw [List.getElem?_append_left (by rw [← h.1]; exact hi)]
    exact h.2 i e he
  · rw [List.getElem?_append_right (by omega)] at he
    rw [List.getElem?_append_right (by rw [← h.1]; omega), ← h.1]
    exact k.2 _ e he
theorem BidsAt.one {H : Hp} {e : Addr} {d : BidD} (h : H e = some (.tup [vN d.1, .int d.2])) : BidsAt H [e] [d] := ⟨rfl, fun i a ha => by
  match i, ha with
  | 0, ha => cases Option.some.inj ha; exact ⟨d, rfl, h⟩⟩
theorem BidsAt.wrote {H : Hp} {es : List Addr} {ds : List BidD} {D : Addr} {xs : List V} {o : HO} (h : BidsAt H es ds) (eD : H D = some (.lst xs)) : BidsAt (upd H D o) es ds := ⟨h.1, fun i e he => by
  obtain ⟨d, a, b⟩ := h.2 i e he
  exact ⟨d, a, by rw [upd_ne (ne_of b eD (by intro z; cases z))]; exact b⟩⟩
/-- right bids of the members -/
structure BOk (zs : List Nam) (ds : List BidD) : Prop where
  nd : (ds.map (·.1)).Nodup
  sub : ∀ x ∈ ds.map (·.1), x ∈ zs
  h0 : ∀ d ∈ ds, 0 ≤ d.2
  h9 : ∀ d ∈ ds, d.2 ≤ 1000000000
theorem strs_nd {xs : List Nam} (h : xs.Nodup) : (xs.map sOf).Nodup := by
  rw [List.nodup_iff_pairwise_ne, List.pairwise_map]
  exact (List.nodup_iff_pairwise_ne.mp h).imp fun hne e => hne (sOf_inj e)
section
variable {P : Program} {w : World} {K : PySem.W.Frag} {mg : Str → Option Value} {base : Heap}
def spArePicks (K : PySem.W.Frag) : Sp := fun vs H Q _ => ∃ (a b : Addr) (xs ys : List Nam), vs = [.ref a, .ref b] ∧ SqL K H a (xs.map vN) ∧ SqS K H b (ys.map vN) ∧ xs.Nodup ∧ (∀ x ∈ xs, x ∈ ys) ∧ xs.length < 64 ∧ ∀ H', Same H H' → Q (.bl true) H'
theorem ok_are_picks {f : Addr} {fd : FuncData} (F : Fun K "_are_picks" "_are_picks" s_are_picks f fd) (m_all : mg "all" = none) (m_len : mg "len" = none) (m_set : mg "set" = none) : FnOk P w K mg base CX0 1 f fd ["picks", "known"] (spArePicks K) := by
  refine F.ok sc_are_picks (fun vs H Q E h => ?_) (fun cdv A outer s H vs Q E hr h => ?_)
  · obtain ⟨a, b, xs, ys, rfl, _⟩ := h
    rfl
  · obtain ⟨a, b, xs, ys, rfl, hA, hB, nd, sub, l64, q⟩ := h
    have xl : (xs.map vN).length = xs.length := List.length_map ..
    refine ⟨_, (pss_one (ps_ret (pe_and (pe_callB (cr_all rfl) (by rfl) m_all (by decide +kernel) (pa_cons (pe_lc (own := [("pick", 2)]) (by rfl) sc_are_picks.nd (pi_list (pv 0)) (blkOk_by (N := ["picks", "known", "pick"]) (sc := defScope s_are_picks) (by decide +kernel)) (fun _ _ _ _ _ => (pg_name (i := 2) sc_are_picks.nd rfl (.inl rfl))) (fun _ _ _ _ _ => pts_nil) (fun _ _ _ _ _ => (pe_cmpR (op_in_seqK (K := K) rfl) (pv 2) (pv 1) (by rfl)))) pa_nil)) (pe_one (pe_cmpR op_eq (pe_lenSetN rfl (by rfl) m_len (by rfl) m_set (pv 0)) (pe_callB call_len_seq (by rfl) m_len (by decide +kernel) (pa_cons (pv 0) pa_nil)) (nomark _)))))), ?_⟩
    refine ⟨_, rfl, a, rfl, ⟨_, hA⟩, fun D nD => ?_⟩
    refine lc_list (K := K) (a := a) (xs := xs.map vN) (fun i H' => Same H H' ∧ H' D = some (.lst ((List.replicate i true).map V.bl))) ⟨same_upd nD, upd_same⟩ (fun i H' _ hq => hq.1.seq hA) (fun i v H' hv hq => ?_) (fun H' hq => ?_)
    · obtain ⟨s1, eD⟩ := hq
      obtain ⟨x, ex, rfl⟩ := vN_at hv
      have hi : i < 64 := Nat.lt_trans (List.getElem?_eq_some_iff.mp ex).1 l64
      refine ⟨rfl, yesT ⟨_, rfl, _, rfl, b, _, rfl, hB.elim (fun h => .inl (s1.seq h)) (fun h => .inr (same_tup s1 h)), rfl, nms_flat _, _, eD, by rw [List.length_map, List.length_replicate]; exact small1000 (by omega), same_at s1 nD, ?_⟩⟩
      rw [in_nm, decide_eq_true (sub x (List.mem_of_getElem? ex)), List.replicate_succ', List.map_append]
      exact upd_same
    · obtain ⟨s1, eD⟩ := hq
      refine ⟨_, _, rfl, lstAt eD, ?_⟩
      rw [all_true]
      refine ⟨_, rfl, iteT ?_⟩
      refine ⟨_, rfl, a, xs.map sOf, rfl, by rw [← vN_strs]; exact s1.seq hA, strs_nd nd, by rw [List.length_map]; exact l64, _, rfl, a, _, rfl, .inl (s1.seq hA), rfl, ?_⟩
      rw [List.length_map, xl]
      exact bint (congrArg V.bl (decide_eq_true rfl)) (q _ s1)
def spAreBids (K : PySem.W.Frag) : Sp := fun vs H Q _ => ∃ (a b : Addr) (zs : List Nam) (es : List Addr) (ds : List BidD), vs = [.ref a, .ref b] ∧ SqL K H a (es.map V.ref) ∧ BidsAt H es ds ∧ SqS K H b (zs.map vN) ∧ BOk zs ds ∧ ds.length < 64 ∧ ∀ H', Same H H' → Q (.bl true) H'
theorem ok_are_bids {f : Addr} {fd : FuncData} (F : Fun K "_are_bids" "_are_bids" s_are_bids f fd) (m_all : mg "all" = none) (d_are_picks : Def P w K mg base "_are_picks" 1 ["picks", "known"] (spArePicks K)) : FnOk P w K mg base CX0 2 f fd ["bids", "members"] (spAreBids K) := by
  refine F.ok sc_are_bids (fun vs H Q E h => ?_) (fun cdv A outer s H vs Q E hr h => ?_)
  · obtain ⟨a, b, zs, es, ds, rfl, _⟩ := h
    rfl
  · obtain ⟨a, b, zs, es, ds, rfl, hA, hT, hB, ok, l64, q⟩ := h
    have el : (es.map V.ref).length = ds.length := by rw [List.length_map, hT.1]
    refine ⟨_, (pss_one (ps_ret (pe_and (pe_callD d_are_picks (hr.mono (by decide)) (by rfl) (pa_cons (pe_lc (own := [("member", 2), ("_", 3)]) (by rfl) sc_are_bids.nd (pi_list (pv 0)) (blkOk_by (N := ["bids", "members", "member", "_", "bid"]) (sc := defScope s_are_bids) (by decide +kernel)) (fun _ _ _ _ _ => (pg_tupK (K := K) (n := 2) rfl (by rfl) (pgs_cons (pg_name (i := 2) sc_are_bids.nd rfl (.inl rfl)) (pgs_cons (pg_name (i := 3) sc_are_bids.nd rfl (.inl rfl)) pgs_nil)))) (fun _ _ _ _ _ => pts_nil) (fun _ _ _ _ _ => (pv 2))) (pa_cons (pv 1) pa_nil))) (pe_one (pe_callB (cr_all rfl) (by rfl) m_all (by decide +kernel) (pa_cons (pe_lc (own := [("_", 3), ("bid", 4)]) (by rfl) sc_are_bids.nd (pi_list (pv 0)) (blkOk_by (N := ["bids", "members", "member", "_", "bid"]) (sc := defScope s_are_bids) (by decide +kernel)) (fun _ _ _ _ _ => (pg_tupK (K := K) (n := 2) rfl (by rfl) (pgs_cons (pg_name (i := 3) sc_are_bids.nd rfl (.inl rfl)) (pgs_cons (pg_name (i := 4) sc_are_bids.nd rfl (.inl rfl)) pgs_nil)))) (fun _ _ _ _ _ => pts_nil) (fun _ _ _ _ _ => (pe_chain op_le op_le pe_int (pv 4) (pe_op op_pow pe_int pe_int)))) pa_nil)))))), ?_⟩
    refine ⟨_, rfl, a, rfl, ⟨_, hA⟩, fun D nD => ?_⟩
    refine lc_list (K := K) (a := a) (xs := es.map V.ref) (fun i H' => Same H H' ∧ H' D = some (.lst ((ds.take i).map fun d => vN d.1))) ⟨same_upd nD, upd_same⟩ (fun i H' _ hq => hq.1.seq hA) (fun i v H' hv hq => ?_) (fun H1 hq => ?_)
    · obtain ⟨s1, eD⟩ := hq
      obtain ⟨e, d, rfl, ed, he⟩ := bids_at (hT.same s1) hv
      have hi := (List.getElem?_eq_some_iff.mp ed).1
      refine gTup2w he [some (.ref a), some (.ref b), some (vN d.1), some (.int d.2), none] (by simp [wipe, L2.start]) ?_
      refine ⟨rfl, yesT ⟨_, rfl, _, eD, by rw [List.length_map, List.length_take]; exact small1000 (by omega), same_at s1 nD, ?_⟩⟩
      rw [List.take_add_one, ed, List.map_append]
      exact upd_same
    · obtain ⟨s1, eD⟩ := hq
      rw [el, List.take_length] at eD
      have e0 : (ds.map fun d => vN d.1) = (ds.map (·.1)).map vN := by rw [List.map_map]; rfl
      rw [e0] at eD
      refine ⟨_, rfl, D, b, ds.map (·.1), zs, rfl, lstAt eD, hB.elim (fun h => .inl (s1.seq h)) (fun h => .inr (same_tup s1 h)), ok.nd, ok.sub, by rw [List.length_map]; exact l64, fun H2 s2 => ?_⟩
      have s12 := s1.trans s2
      refine ⟨_, rfl, iteT ?_⟩
      refine ⟨_, rfl, a, rfl, ⟨_, s12.seq hA⟩, fun D2 nD2 => ?_⟩
      refine lc_list (K := K) (a := a) (xs := es.map V.ref) (fun i H' => Same H2 H' ∧ H' D2 = some (.lst ((List.replicate i true).map V.bl))) ⟨same_upd nD2, upd_same⟩ (fun i H' _ hq => (s12.trans hq.1).seq hA) (fun i v H' hv hq => ?_) (fun H3 hq => ?_)
      · obtain ⟨s3, eD2⟩ := hq
        obtain ⟨e, d, rfl, ed, he⟩ := bids_at (hT.same (s12.trans s3)) hv
        have hi := (List.getElem?_eq_some_iff.mp ed).1
        have md := List.mem_of_getElem? ed
        have d0 := ok.h0 d md
        have d9 := ok.h9 d md
        refine gTup2w he [some (.ref a), some (.ref b), none, some (vN d.1), some (.int d.2)] (by simp [wipe, L2.start]) ?_
        refine ⟨rfl, yesT ?_⟩
        refine ⟨_, rfl, _, _, rfl, rfl, _, rfl, ?_⟩
        rw [decide_eq_true d0]
        refine iteT ⟨_, _, rfl, rfl, ⟨by decide, by decide, by decide⟩, _, _, rfl, rfl, _, eD2, by rw [List.length_map, List.length_replicate]; exact small1000 (by omega), same_at s3 nD2, ?_⟩
        rw [upd_same, List.replicate_succ', List.map_append]
        exact congrArg (fun z => some (HO.lst ((List.replicate i true).map V.bl ++ [z]))) (congrArg V.bl (decide_eq_true d9))
      · obtain ⟨s3, eD2⟩ := hq
        refine ⟨_, _, rfl, lstAt eD2, ?_⟩
        rw [all_true]
        exact q _ (s12.trans s3)
end
end TK

namespace TK
open PySem PySem.Spec PyProof.Rows L2
abbrev s_Links_init : Stmt := inClass (topS 30) 0
theorem sc_Links_init : FnScope ["self", "names", "links", "giver", "taker", "toll"] ["self", "names", "links"] (defScope s_Links_init) := ⟨rfl, rfl, rfl, by decide +kernel, rfl, by decide +kernel, by decide +kernel⟩
theorem sqL_frame {K : PySem.W.Frag} {H H' : Hp} {a p C dx : Addr} {fs : List (Str × V)} {xs : List V} (h : SqL K H a xs) (hp : H p = some (.ins C dx fs)) (f : ∀ c x, H c = some x → c ≠ p → H' c = some x) : SqL K H' a xs := by
  rcases h with h | h
  · exact .inl (rd_frame h hp (by intro z; cases z) (by intro _ z; cases z) f)
  · exact .inr h
section
variable {P : Program} {w : World} {K : PySem.W.Frag} {mg : Str → Option Value} {base : Heap}
/-! Links.__init__ -/
def spInitL (K : PySem.W.Frag) (C : Addr) : Sp := fun vs H Q _ => ∃ (p a b dx : Addr) (zs : List Nam) (es : List Addr) (ts : List Tie), vs = [.ref p, .ref a, .ref b] ∧ H p = some (.ins C dx []) ∧ (SqL K H a (zs.map vN) ∨ TL H a (zs.map vN)) ∧ SqS K H b (es.map V.ref) ∧ TiesAt H es ts ∧ LOk zs ts ∧
  ∀ H', LkAt C H' p zs ts → (∀ c o, H c = some o → c ≠ p → H' c = some o) → Q .non H'
theorem ok_Links {f C : Addr} {fd : FuncData} {dvs : List V} {kws : List (Str × V)} (F : FunD K "__init__" "Links.__init__" (defArgs s_Links_init) (defBody s_Links_init) (defScope s_Links_init) dvs kws f fd) (T : TxtL K C) (m_tuple : mg "tuple" = none)
    (d_check_names : DefD P w K mg base "check_names" 2 ["names", "most", "hook"] (spCheckN K) [.bl false]) (d_check_links : Def P w K mg base "_check_links" 2 ["names", "links"] (spCheckL K)) :
    FnOk P w K mg base CX0 3 f fd ["self", "names", "links"] (spInitL K C) := by
  refine F.ok (CX := CX0) sc_Links_init (fun vs H Q E h => ?_) (fun cdv A outer s H vs Q E hr h => ?_)
  · obtain ⟨p, a, b, dx, zs, es, ts, rfl, _⟩ := h
    rfl
  · obtain ⟨p, a, b, dx, zs, es, ts, rfl, hp, hA, hB, hT, ok, q⟩ := h
    have el : (es.map V.ref).length = ts.length := by rw [List.length_map, hT.1]
    have t12 := ok.t12
    have hS : SqS K H a (zs.map vN) := hA.elim .inl fun h => .inr h.sq
    rcases hB with hB | hB
    · refine ⟨_, PSs.nox (pss_cons (ps_expr (pe_callDD d_check_names (hr.mono (by decide)) (by rfl) (pa_cons (pv 1) (pa_cons pe_int pa_nil))))
  (pss_cons (ps_expr (pe_callD d_check_links (hr.mono (by decide)) (by rfl) (pa_cons (pv 1) (pa_cons (pv 2) pa_nil))))
  (pss_cons (ps_fld (pv 0) (pe_callTy call_tuple_of (by rfl) m_tuple (by decide +kernel) (pa_cons (pv 1) pa_nil)) rfl)
  (pss_one (ps_fld (pv 0) (pe_callTy call_tuple_of (by rfl) m_tuple (by decide +kernel) (pa_cons (pe_lc (own := [("giver", 3), ("taker", 4), ("toll", 5)]) (by rfl) sc_Links_init.nd (pi_list (pv 2)) (blkOk_by (N := ["self", "names", "links", "giver", "taker", "toll"]) (sc := defScope s_Links_init) (by decide +kernel)) (fun _ _ _ _ _ => (pg_tupK (K := K) (n := 3) rfl (by rfl) (pgs_cons (pg_name (i := 3) sc_Links_init.nd rfl (.inl rfl)) (pgs_cons (pg_name (i := 4) sc_Links_init.nd rfl (.inl rfl)) (pgs_cons (pg_name (i := 5) sc_Links_init.nd rfl (.inl rfl)) pgs_nil))))) (fun _ _ _ _ _ => pts_nil) (fun _ _ _ _ _ => (pe_tup (pa_cons (pv 3) (pa_cons (pv 4) (pa_cons (pv 5) pa_nil)))))) pa_nil)) rfl))))), ?_⟩
      refine ⟨_, rfl, a, 6, zs, rfl, hS, ok.l1, by have := ok.l6; omega, ok.l6, ok.nm, ok.nd, fun H1 s1 => ?_⟩
      refine ⟨_, rfl, _, rfl, a, b, zs, es, ts, rfl, hS.same s1, .inl (s1.seq hB), hT.same s1, ok, fun H2 s2 => ?_⟩
      have s12 := s1.trans s2
      refine ⟨_, rfl, a, zs.map vN, rfl, ?_⟩
      rcases hA with hL | hU
      · refine .inl ⟨s12.seq hL, fun l nl => ?_⟩
        have s3 := s12.trans (same_upd (o := .tup (zs.map vN)) nl)
        have hl3 : TL (upd H2 l (.tup (zs.map vN))) l (zs.map vN) := .inl upd_same
        have hp3 := s3 _ _ hp
        refine ⟨_, rfl, p, C, dx, [], rfl, hp3, T.cl, T.nN, by decide, ?_⟩
        generalize eH3 : (upd H2 l (.tup (zs.map vN)) : Hp) = H3 at s3 hp3 hl3 ⊢
        clear eH3
        have f4 : ∀ (fs : List (Str × V)) c x, H3 c = some x → c ≠ p → (upd H3 p (.ins C dx fs)) c = some x := fun fs c x e n => by rw [upd_ne n]; exact e
        have hB4 := sqL_frame (s3.seq hB) hp3 (f4 (putF "names" (.ref l) []))
        have hp4 : (upd H3 p (.ins C dx (putF "names" (.ref l) []))) p = some (.ins C dx (putF "names" (.ref l) [])) := upd_same
        have hl4 := tl_frame hl3 hp3 (f4 (putF "names" (.ref l) []))
        have hT4 : TiesAt (upd H3 p (.ins C dx (putF "names" (.ref l) []))) es ts := ⟨hT.1, fun i e he => by
          obtain ⟨t, h1, h2⟩ := hT.2 i e he
          exact ⟨t, h1, f4 _ _ _ (s3 _ _ h2) (ne_of (s3 _ _ h2) hp3 (by intro z; cases z))⟩⟩
        have f5 : ∀ c x, H c = some x → c ≠ p → (upd H3 p (.ins C dx (putF "names" (.ref l) []))) c = some x := fun c x e n => f4 _ c x (s3 _ _ e) n
        generalize eH4 : (upd H3 p (.ins C dx (putF "names" (.ref l) [])) : Hp) = H4 at hB4 hp4 hl4 hT4 f5 ⊢
        clear eH4
        refine ⟨_, rfl, b, rfl, ⟨_, hB4⟩, fun D nD => ?_⟩
        have sD := same_upd (o := .lst []) nD
        refine lc_list (K := K) (a := b) (xs := es.map V.ref) (fun i H' => ∃ es' : List Addr, Same H4 H' ∧ H' D = some (.lst (es'.map V.ref)) ∧ TiesAt H' es' (ts.take i)) ⟨[], sD, upd_same, rfl, fun _ _ h => nomatch h⟩ (fun i H' _ hq => hq.choose_spec.1.seq hB4) (fun i x H' hx hq => ?_) (fun H' hq => ?_)
        · obtain ⟨es', s5, hD5, hT5⟩ := hq
          obtain ⟨e, t, rfl, _, et, ht⟩ := ties_at hT4 hx
          have hi : i < ts.length := (List.getElem?_eq_some_iff.mp et).1
          have l5 : es'.length = i := by rw [hT5.1, List.length_take]; omega
          refine ⟨_, _, rfl, tupAt (s5 _ _ ht), rfl, _, _, rfl, _, _, rfl, _, _, rfl, rfl, rfl, yesT ⟨_, rfl, _, rfl, _, rfl, (show (3 : Nat) ≤ sizeLine by decide), fun q5 nq => ⟨_, (same_upd nq) _ _ hD5, ?_, ?_⟩⟩⟩
          · rw [List.length_map]; exact small1000 (by omega)
          · have sq := same_upd (o := .tup [vN t.1, vN t.2.1, .int t.2.2]) nq
            have Dq : D ≠ q5 := ne_of_none hD5 nq
            have fD : ∀ c x, H' c = some x → c ≠ D → (upd (upd H' q5 (.tup [vN t.1, vN t.2.1, .int t.2.2])) D (.lst (es'.map V.ref ++ [.ref q5]))) c = some x := fun c x e n => by rw [upd_ne n]; exact sq _ _ e
            refine ⟨es' ++ [q5], fun c x e => fD c x (s5 _ _ e) (ne_of_none e nD), by rw [List.map_append]; exact upd_same, ?_⟩
            rw [List.take_add_one, et]
            refine ⟨by rw [List.length_append, List.length_append, hT5.1]; rfl, (TiesAt.snoc (H := upd (upd H' q5 (.tup [vN t.1, vN t.2.1, .int t.2.2])) D (.lst (es'.map V.ref ++ [.ref q5]))) ⟨hT5.1, fun j e he => ?_⟩ (Same.refl _) ?_).2⟩
            · obtain ⟨t', h1, h2⟩ := hT5.2 j e he
              exact ⟨t', h1, fD _ _ h2 (ne_of h2 hD5 (by intro z; cases z))⟩
            · show _ = _
              rw [upd_ne Dq.symm]; exact upd_same
        · obtain ⟨es', s5, hD5, hT5⟩ := hq
          rw [List.take_of_length_le (by rw [el]; exact Nat.le_refl _)] at hT5
          refine ⟨D, _, rfl, .inl ⟨lstAt hD5, fun m nm => ?_⟩⟩
          have sm := s5.trans (same_upd (o := .tup (es'.map V.ref)) nm)
          have pm : p ≠ m := ne_of_none (s5 _ _ hp4) nm
          refine ⟨_, rfl, p, C, dx, _, rfl, sm _ _ hp4, T.cl, T.nL, Nat.lt_of_le_of_lt (putF_len _ _ _) (by decide), ?_⟩
          have f6 : ∀ (fs : List (Str × V)) c x, H4 c = some x → c ≠ p → (upd (upd H' m (.tup (es'.map V.ref))) p (.ins C dx fs)) c = some x := fun fs c x e n => by rw [upd_ne n]; exact sm _ _ e
          refine q _ ⟨dx, l, m, es', upd_same, tl_frame hl4 hp4 (f6 _), by rw [upd_ne pm.symm]; exact upd_same, ?_⟩ fun c x e n => f6 _ c x (f5 c x e n) n
          refine ⟨hT5.1, fun j e he => ?_⟩
          obtain ⟨t', h1, h2⟩ := hT5.2 j e he
          have e1 := (same_upd (o := .tup (es'.map V.ref)) nm) _ _ h2
          exact ⟨t', h1, by show _ = _; rw [upd_ne (ne_of e1 (sm _ _ hp4) (by intro z; cases z))]; exact e1⟩
      · refine .inr ⟨(hU.same s12).sq, ?_⟩
        have s3 := s12
        have hl3 := hU.same s12
        have hp3 := s3 _ _ hp
        refine ⟨_, rfl, p, C, dx, [], rfl, hp3, T.cl, T.nN, by decide, ?_⟩
        generalize eH3 : (H2 : Hp) = H3 at s3 hp3 hl3 ⊢
        clear eH3
        have f4 : ∀ (fs : List (Str × V)) c x, H3 c = some x → c ≠ p → (upd H3 p (.ins C dx fs)) c = some x := fun fs c x e n => by rw [upd_ne n]; exact e
        have hB4 := sqL_frame (s3.seq hB) hp3 (f4 (putF "names" (.ref a) []))
        have hp4 : (upd H3 p (.ins C dx (putF "names" (.ref a) []))) p = some (.ins C dx (putF "names" (.ref a) [])) := upd_same
        have hl4 := tl_frame hl3 hp3 (f4 (putF "names" (.ref a) []))
        have hT4 : TiesAt (upd H3 p (.ins C dx (putF "names" (.ref a) []))) es ts := ⟨hT.1, fun i e he => by
          obtain ⟨t, h1, h2⟩ := hT.2 i e he
          exact ⟨t, h1, f4 _ _ _ (s3 _ _ h2) (ne_of (s3 _ _ h2) hp3 (by intro z; cases z))⟩⟩
        have f5 : ∀ c x, H c = some x → c ≠ p → (upd H3 p (.ins C dx (putF "names" (.ref a) []))) c = some x := fun c x e n => f4 _ c x (s3 _ _ e) n
        generalize eH4 : (upd H3 p (.ins C dx (putF "names" (.ref a) [])) : Hp) = H4 at hB4 hp4 hl4 hT4 f5 ⊢
        clear eH4
        refine ⟨_, rfl, b, rfl, ⟨_, hB4⟩, fun D nD => ?_⟩
        have sD := same_upd (o := .lst []) nD
        refine lc_list (K := K) (a := b) (xs := es.map V.ref) (fun i H' => ∃ es' : List Addr, Same H4 H' ∧ H' D = some (.lst (es'.map V.ref)) ∧ TiesAt H' es' (ts.take i)) ⟨[], sD, upd_same, rfl, fun _ _ h => nomatch h⟩ (fun i H' _ hq => hq.choose_spec.1.seq hB4) (fun i x H' hx hq => ?_) (fun H' hq => ?_)
        · obtain ⟨es', s5, hD5, hT5⟩ := hq
          obtain ⟨e, t, rfl, _, et, ht⟩ := ties_at hT4 hx
          have hi : i < ts.length := (List.getElem?_eq_some_iff.mp et).1
          have l5 : es'.length = i := by rw [hT5.1, List.length_take]; omega
          refine ⟨_, _, rfl, tupAt (s5 _ _ ht), rfl, _, _, rfl, _, _, rfl, _, _, rfl, rfl, rfl, yesT ⟨_, rfl, _, rfl, _, rfl, (show (3 : Nat) ≤ sizeLine by decide), fun q5 nq => ⟨_, (same_upd nq) _ _ hD5, ?_, ?_⟩⟩⟩
          · rw [List.length_map]; exact small1000 (by omega)
          · have sq := same_upd (o := .tup [vN t.1, vN t.2.1, .int t.2.2]) nq
            have Dq : D ≠ q5 := ne_of_none hD5 nq
            have fD : ∀ c x, H' c = some x → c ≠ D → (upd (upd H' q5 (.tup [vN t.1, vN t.2.1, .int t.2.2])) D (.lst (es'.map V.ref ++ [.ref q5]))) c = some x := fun c x e n => by rw [upd_ne n]; exact sq _ _ e
            refine ⟨es' ++ [q5], fun c x e => fD c x (s5 _ _ e) (ne_of_none e nD), by rw [List.map_append]; exact upd_same, ?_⟩
            rw [List.take_add_one, et]
            refine ⟨by rw [List.length_append, List.length_append, hT5.1]; rfl, (TiesAt.snoc (H := upd (upd H' q5 (.tup [vN t.1, vN t.2.1, .int t.2.2])) D (.lst (es'.map V.ref ++ [.ref q5]))) ⟨hT5.1, fun j e he => ?_⟩ (Same.refl _) ?_).2⟩
            · obtain ⟨t', h1, h2⟩ := hT5.2 j e he
              exact ⟨t', h1, fD _ _ h2 (ne_of h2 hD5 (by intro z; cases z))⟩
            · show _ = _
              rw [upd_ne Dq.symm]; exact upd_same
        · obtain ⟨es', s5, hD5, hT5⟩ := hq
          rw [List.take_of_length_le (by rw [el]; exact Nat.le_refl _)] at hT5
          refine ⟨D, _, rfl, .inl ⟨lstAt hD5, fun m nm => ?_⟩⟩
          have sm := s5.trans (same_upd (o := .tup (es'.map V.ref)) nm)
          have pm : p ≠ m := ne_of_none (s5 _ _ hp4) nm
          refine ⟨_, rfl, p, C, dx, _, rfl, sm _ _ hp4, T.cl, T.nL, Nat.lt_of_le_of_lt (putF_len _ _ _) (by decide), ?_⟩
          have f6 : ∀ (fs : List (Str × V)) c x, H4 c = some x → c ≠ p → (upd (upd H' m (.tup (es'.map V.ref))) p (.ins C dx fs)) c = some x := fun fs c x e n => by rw [upd_ne n]; exact sm _ _ e
          refine q _ ⟨dx, a, m, es', upd_same, tl_frame hl4 hp4 (f6 _), by rw [upd_ne pm.symm]; exact upd_same, ?_⟩ fun c x e n => f6 _ c x (f5 c x e n) n
          refine ⟨hT5.1, fun j e he => ?_⟩
          obtain ⟨t', h1, h2⟩ := hT5.2 j e he
          have e1 := (same_upd (o := .tup (es'.map V.ref)) nm) _ _ h2
          exact ⟨t', h1, by show _ = _; rw [upd_ne (ne_of e1 (sm _ _ hp4) (by intro z; cases z))]; exact e1⟩
    · refine ⟨_, PSs.nox (pss_cons (ps_expr (pe_callDD d_check_names (hr.mono (by decide)) (by rfl) (pa_cons (pv 1) (pa_cons pe_int pa_nil))))
  (pss_cons (ps_expr (pe_callD d_check_links (hr.mono (by decide)) (by rfl) (pa_cons (pv 1) (pa_cons (pv 2) pa_nil))))
  (pss_cons (ps_fld (pv 0) (pe_callTy call_tuple_of (by rfl) m_tuple (by decide +kernel) (pa_cons (pv 1) pa_nil)) rfl)
  (pss_one (ps_fld (pv 0) (pe_callTy call_tuple_of (by rfl) m_tuple (by decide +kernel) (pa_cons (pe_lc (own := [("giver", 3), ("taker", 4), ("toll", 5)]) (by rfl) sc_Links_init.nd (pi_tup (pv 2)) (blkOk_by (N := ["self", "names", "links", "giver", "taker", "toll"]) (sc := defScope s_Links_init) (by decide +kernel)) (fun _ _ _ _ _ => (pg_tupK (K := K) (n := 3) rfl (by rfl) (pgs_cons (pg_name (i := 3) sc_Links_init.nd rfl (.inl rfl)) (pgs_cons (pg_name (i := 4) sc_Links_init.nd rfl (.inl rfl)) (pgs_cons (pg_name (i := 5) sc_Links_init.nd rfl (.inl rfl)) pgs_nil))))) (fun _ _ _ _ _ => pts_nil) (fun _ _ _ _ _ => (pe_tup (pa_cons (pv 3) (pa_cons (pv 4) (pa_cons (pv 5) pa_nil)))))) pa_nil)) rfl))))), ?_⟩
      refine ⟨_, rfl, a, 6, zs, rfl, hS, ok.l1, by have := ok.l6; omega, ok.l6, ok.nm, ok.nd, fun H1 s1 => ?_⟩
      refine ⟨_, rfl, _, rfl, a, b, zs, es, ts, rfl, hS.same s1, .inr (same_tup s1 hB), hT.same s1, ok, fun H2 s2 => ?_⟩
      have s12 := s1.trans s2
      refine ⟨_, rfl, a, zs.map vN, rfl, ?_⟩
      rcases hA with hL | hU
      · refine .inl ⟨s12.seq hL, fun l nl => ?_⟩
        have s3 := s12.trans (same_upd (o := .tup (zs.map vN)) nl)
        have hl3 : TL (upd H2 l (.tup (zs.map vN))) l (zs.map vN) := .inl upd_same
        have hp3 := s3 _ _ hp
        refine ⟨_, rfl, p, C, dx, [], rfl, hp3, T.cl, T.nN, by decide, ?_⟩
        generalize eH3 : (upd H2 l (.tup (zs.map vN)) : Hp) = H3 at s3 hp3 hl3 ⊢
        clear eH3
        have f4 : ∀ (fs : List (Str × V)) c x, H3 c = some x → c ≠ p → (upd H3 p (.ins C dx fs)) c = some x := fun fs c x e n => by rw [upd_ne n]; exact e
        have hB4 := sqT_frame (same_tup s3 hB) hp3 (f4 (putF "names" (.ref l) []))
        have hp4 : (upd H3 p (.ins C dx (putF "names" (.ref l) []))) p = some (.ins C dx (putF "names" (.ref l) [])) := upd_same
        have hl4 := tl_frame hl3 hp3 (f4 (putF "names" (.ref l) []))
        have hT4 : TiesAt (upd H3 p (.ins C dx (putF "names" (.ref l) []))) es ts := ⟨hT.1, fun i e he => by
          obtain ⟨t, h1, h2⟩ := hT.2 i e he
          exact ⟨t, h1, f4 _ _ _ (s3 _ _ h2) (ne_of (s3 _ _ h2) hp3 (by intro z; cases z))⟩⟩
        have f5 : ∀ c x, H c = some x → c ≠ p → (upd H3 p (.ins C dx (putF "names" (.ref l) []))) c = some x := fun c x e n => f4 _ c x (s3 _ _ e) n
        generalize eH4 : (upd H3 p (.ins C dx (putF "names" (.ref l) [])) : Hp) = H4 at hB4 hp4 hl4 hT4 f5 ⊢
        clear eH4
        refine ⟨_, rfl, b, rfl, ⟨_, hB4⟩, fun D nD => ?_⟩
        have sD := same_upd (o := .lst []) nD
        refine lc_tup (K := K) (a := b) (xs := es.map V.ref) (fun i H' => ∃ es' : List Addr, Same H4 H' ∧ H' D = some (.lst (es'.map V.ref)) ∧ TiesAt H' es' (ts.take i)) ⟨[], sD, upd_same, rfl, fun _ _ h => nomatch h⟩ (fun i H' _ hq => same_tup hq.choose_spec.1 hB4) (fun i x H' hx hq => ?_) (fun H' hq => ?_)
        · obtain ⟨es', s5, hD5, hT5⟩ := hq
          obtain ⟨e, t, rfl, _, et, ht⟩ := ties_at hT4 hx
          have hi : i < ts.length := (List.getElem?_eq_some_iff.mp et).1
          have l5 : es'.length = i := by rw [hT5.1, List.length_take]; omega
          refine ⟨_, _, rfl, tupAt (s5 _ _ ht), rfl, _, _, rfl, _, _, rfl, _, _, rfl, rfl, rfl, yesT ⟨_, rfl, _, rfl, _, rfl, (show (3 : Nat) ≤ sizeLine by decide), fun q5 nq => ⟨_, (same_upd nq) _ _ hD5, ?_, ?_⟩⟩⟩
          · rw [List.length_map]; exact small1000 (by omega)
          · have sq := same_upd (o := .tup [vN t.1, vN t.2.1, .int t.2.2]) nq
            have Dq : D ≠ q5 := ne_of_none hD5 nq
            have fD : ∀ c x, H' c = some x → c ≠ D → (upd (upd H' q5 (.tup [vN t.1, vN t.2.1, .int t.2.2])) D (.lst (es'.map V.ref ++ [.ref q5]))) c = some x := fun c x e n => by rw [upd_ne n]; exact sq _ _ e
            refine ⟨es' ++ [q5], fun c x e => fD c x (s5 _ _ e) (ne_of_none e nD), by rw [List.map_append]; exact upd_same, ?_⟩
            rw [List.take_add_one, et]
            refine ⟨by rw [List.length_append, List.length_append, hT5.1]; rfl, (TiesAt.snoc (H := upd (upd H' q5 (.tup [vN t.1, vN t.2.1, .int t.2.2])) D (.lst (es'.map V.ref ++ [.ref q5]))) ⟨hT5.1, fun j e he => ?_⟩ (Same.refl _) ?_).2⟩
            · obtain ⟨t', h1, h2⟩ := hT5.2 j e he
              exact ⟨t', h1, fD _ _ h2 (ne_of h2 hD5 (by intro z; cases z))⟩
            · show _ = _
              rw [upd_ne Dq.symm]; exact upd_same
        · obtain ⟨es', s5, hD5, hT5⟩ := hq
          rw [List.take_of_length_le (by rw [el]; exact Nat.le_refl _)] at hT5
          refine ⟨D, _, rfl, .inl ⟨lstAt hD5, fun m nm => ?_⟩⟩
          have sm := s5.trans (same_upd (o := .tup (es'.map V.ref)) nm)
          have pm : p ≠ m := ne_of_none (s5 _ _ hp4) nm
          refine ⟨_, rfl, p, C, dx, _, rfl, sm _ _ hp4, T.cl, T.nL, Nat.lt_of_le_of_lt (putF_len _ _ _) (by decide), ?_⟩
          have f6 : ∀ (fs : List (Str × V)) c x, H4 c = some x → c ≠ p → (upd (upd H' m (.tup (es'.map V.ref))) p (.ins C dx fs)) c = some x := fun fs c x e n => by rw [upd_ne n]; exact sm _ _ e
          refine q _ ⟨dx, l, m, es', upd_same, tl_frame hl4 hp4 (f6 _), by rw [upd_ne pm.symm]; exact upd_same, ?_⟩ fun c x e n => f6 _ c x (f5 c x e n) n
          refine ⟨hT5.1, fun j e he => ?_⟩
          obtain ⟨t', h1, h2⟩ := hT5.2 j e he
          have e1 := (same_upd (o := .tup (es'.map V.ref)) nm) _ _ h2
          exact ⟨t', h1, by show _ = _; rw [upd_ne (ne_of e1 (sm _ _ hp4) (by intro z; cases z))]; exact e1⟩
      · refine .inr ⟨(hU.same s12).sq, ?_⟩
        have s3 := s12
        have hl3 := hU.same s12
        have hp3 := s3 _ _ hp
        refine ⟨_, rfl, p, C, dx, [], rfl, hp3, T.cl, T.nN, by decide, ?_⟩
        generalize eH3 : (H2 : Hp) = H3 at s3 hp3 hl3 ⊢
        clear eH3
        have f4 : ∀ (fs : List (Str × V)) c x, H3 c = some x → c ≠ p → (upd H3 p (.ins C dx fs)) c = some x := fun fs c x e n => by rw [upd_ne n]; exact e
        have hB4 := sqT_frame (same_tup s3 hB) hp3 (f4 (putF "names" (.ref a) []))
        have hp4 : (upd H3 p (.ins C dx (putF "names" (.ref a) []))) p = some (.ins C dx (putF "names" (.ref a) [])) := upd_same
        have hl4 := tl_frame hl3 hp3 (f4 (putF "names" (.ref a) []))
        have hT4 : TiesAt (upd H3 p (.ins C dx (putF "names" (.ref a) []))) es ts := ⟨hT.1, fun i e he => by
          obtain ⟨t, h1, h2⟩ := hT.2 i e he
          exact ⟨t, h1, f4 _ _ _ (s3 _ _ h2) (ne_of (s3 _ _ h2) hp3 (by intro z; cases z))⟩⟩
        have f5 : ∀ c x, H c = some x → c ≠ p → (upd H3 p (.ins C dx (putF "names" (.ref a) []))) c = some x := fun c x e n => f4 _ c x (s3 _ _ e) n
        generalize eH4 : (upd H3 p (.ins C dx (putF "names" (.ref a) [])) : Hp) = H4 at hB4 hp4 hl4 hT4 f5 ⊢
        clear eH4
        refine ⟨_, rfl, b, rfl, ⟨_, hB4⟩, fun D nD => ?_⟩
        have sD := same_upd (o := .lst []) nD
        refine lc_tup (K := K) (a := b) (xs := es.map V.ref) (fun i H' => ∃ es' : List Addr, Same H4 H' ∧ H' D = some (.lst (es'.map V.ref)) ∧ TiesAt H' es' (ts.take i)) ⟨[], sD, upd_same, rfl, fun _ _ h => nomatch h⟩ (fun i H' _ hq => same_tup hq.choose_spec.1 hB4) (fun i x H' hx hq => ?_) (fun H' hq => ?_)
        · obtain ⟨es', s5, hD5, hT5⟩ := hq
          obtain ⟨e, t, rfl, _, et, ht⟩ := ties_at hT4 hx
          have hi : i < ts.length := (List.getElem?_eq_some_iff.mp et).1
          have l5 : es'.length = i := by rw [hT5.1, List.length_take]; omega
          refine ⟨_, _, rfl, tupAt (s5 _ _ ht), rfl, _, _, rfl, _, _, rfl, _, _, rfl, rfl, rfl, yesT ⟨_, rfl, _, rfl, _, rfl, (show (3 : Nat) ≤ sizeLine by decide), fun q5 nq => ⟨_, (same_upd nq) _ _ hD5, ?_, ?_⟩⟩⟩
          · rw [List.length_map]; exact small1000 (by omega)
          · have sq := same_upd (o := .tup [vN t.1, vN t.2.1, .int t.2.2]) nq
            have Dq : D ≠ q5 := ne_of_none hD5 nq
            have fD : ∀ c x, H' c = some x → c ≠ D → (upd (upd H' q5 (.tup [vN t.1, vN t.2.1, .int t.2.2])) D (.lst (es'.map V.ref ++ [.ref q5]))) c = some x := fun c x e n => by rw [upd_ne n]; exact sq _ _ e
            refine ⟨es' ++ [q5], fun c x e => fD c x (s5 _ _ e) (ne_of_none e nD), by rw [List.map_append]; exact upd_same, ?_⟩
            rw [List.take_add_one, et]
            refine ⟨by rw [List.length_append, List.length_append, hT5.1]; rfl, (TiesAt.snoc (H := upd (upd H' q5 (.tup [vN t.1, vN t.2.1, .int t.2.2])) D (.lst (es'.map V.ref ++ [.ref q5]))) ⟨hT5.1, fun j e he => ?_⟩ (Same.refl _) ?_).2⟩
            · obtain ⟨t', h1, h2⟩ := hT5.2 j e he
              exact ⟨t', h1, fD _ _ h2 (ne_of h2 hD5 (by intro z; cases z))⟩
            · show _ = _
              rw [upd_ne Dq.symm]; exact upd_same
        · obtain ⟨es', s5, hD5, hT5⟩ := hq
          rw [List.take_of_length_le (by rw [el]; exact Nat.le_refl _)] at hT5
          refine ⟨D, _, rfl, .inl ⟨lstAt hD5, fun m nm => ?_⟩⟩
          have sm := s5.trans (same_upd (o := .tup (es'.map V.ref)) nm)
          have pm : p ≠ m := ne_of_none (s5 _ _ hp4) nm
          refine ⟨_, rfl, p, C, dx, _, rfl, sm _ _ hp4, T.cl, T.nL, Nat.lt_of_le_of_lt (putF_len _ _ _) (by decide), ?_⟩
          have f6 : ∀ (fs : List (Str × V)) c x, H4 c = some x → c ≠ p → (upd (upd H' m (.tup (es'.map V.ref))) p (.ins C dx fs)) c = some x := fun fs c x e n => by rw [upd_ne n]; exact sm _ _ e
          refine q _ ⟨dx, a, m, es', upd_same, tl_frame hl4 hp4 (f6 _), by rw [upd_ne pm.symm]; exact upd_same, ?_⟩ fun c x e n => f6 _ c x (f5 c x e n) n
          refine ⟨hT5.1, fun j e he => ?_⟩
          obtain ⟨t', h1, h2⟩ := hT5.2 j e he
          have e1 := (same_upd (o := .tup (es'.map V.ref)) nm) _ _ h2
          exact ⟨t', h1, by show _ = _; rw [upd_ne (ne_of e1 (sm _ _ hp4) (by intro z; cases z))]; exact e1⟩
end
end TK

namespace TK
open PySem PySem.Spec PyProof.Rows L2
theorem nm_get {zs : List Nam} {i : Int} (h0 : 0 ≤ i) (h : i < zs.length) : ∃ z, zs[i.toNat]? = some z ∧ z ∈ zs ∧ atI (zs.map vN) i = some (vN z) := by
  have hl : i.toNat < zs.length := by omega
  refine ⟨zs[i.toNat], List.getElem?_eq_getElem hl, List.getElem_mem hl, atI_in h0 ?_⟩
  rw [List.getElem?_map, List.getElem?_eq_getElem hl]
  rfl
theorem nd_set : ∀ {zs : List Nam} (i : Nat), zs.Nodup → ([] : Nam) ∉ zs → (zs.set i []).Nodup
  | [], _, h, _ => h
  | a :: zs, 0, h, n => List.nodup_cons.mpr ⟨fun m => n (List.mem_cons_of_mem _ m), (List.nodup_cons.mp h).2⟩
  | a :: zs, i + 1, h, n => by
    obtain ⟨h1, h2⟩ := List.nodup_cons.mp h
    refine List.nodup_cons.mpr ⟨fun m => ?_, nd_set i h2 fun m => n (List.mem_cons_of_mem _ m)⟩
    rcases List.mem_or_eq_of_mem_set m with m | m
    · exact h1 m
    · exact n (by rw [← m]; exact List.mem_cons_self)
/-! entries under way -/
theorem EOk.nil {zs : List Nam} : EOk zs [] := ⟨(fun _ h => nomatch h), (fun _ h => nomatch h), (fun _ h => nomatch h)⟩
theorem EOk.app {zs : List Nam} {ts us : List Tie} (h : EOk zs ts) (k : EOk zs us) : EOk zs (ts ++ us) :=
  ⟨fun t m => (List.mem_append.mp m).elim (h.a t) (k.a t), fun t m => (List.mem_append.mp m).elim (h.b t) (k.b t), fun t m => (List.mem_append.mp m).elim (h.h0 t) (k.h0 t)⟩
structure EW (H0 H : Hp) (D : Addr) (zs : List Nam) (es : List Addr) (ts : List Tie) : Prop where
  s : Same H0 H
  d : H D = some (.lst (es.map V.ref))
  t : TiesAt H es ts
  o : EOk zs ts
theorem EW.add {H0 H : Hp} {D q : Addr} {zs : List Nam} {es : List Addr} {ts : List Tie} {t : Tie} (h : EW H0 H D zs es ts) (n : H0 D = none) (nq : H q = none) (a : t.1 ∈ zs) (b : t.2.1 ∈ zs) (h0 : 0 ≤ t.2.2) :
    EW H0 (upd (upd H q (.tup [vN t.1, vN t.2.1, .int t.2.2])) D (.lst (es.map V.ref ++ [.ref q]))) D zs (es ++ [q]) (ts ++ [t]) := by
  have sq := same_upd (o := .tup [vN t.1, vN t.2.1, .int t.2.2]) nq
  have Dq : D ≠ q := ne_of_none h.d nq
  have fD : ∀ c x, H c = some x → c ≠ D → (upd (upd H q (.tup [vN t.1, vN t.2.1, .int t.2.2])) D (.lst (es.map V.ref ++ [.ref q]))) c = some x := fun c x e n => by rw [upd_ne n]; exact sq _ _ e
  refine ⟨fun c x e => fD c x (h.s _ _ e) (ne_of_none e n), by rw [List.map_append]; exact upd_same, ?_, h.o.app ?_⟩
  · refine TiesAt.snoc (H := upd (upd H q (.tup [vN t.1, vN t.2.1, .int t.2.2])) D (.lst (es.map V.ref ++ [.ref q]))) ⟨h.t.1, fun j e he => ?_⟩ (Same.refl _) ?_
    · obtain ⟨t', h1, h2⟩ := h.t.2 j e he
      exact ⟨t', h1, fD _ _ h2 (ne_of h2 h.d (by intro z; cases z))⟩
    · show _ = _
      rw [upd_ne Dq.symm]; exact upd_same
  · have one : ∀ x ∈ [t], x = t := fun x m => List.mem_singleton.mp m
    exact ⟨fun x m => by rw [one x m]; exact a, fun x m => by rw [one x m]; exact b, fun x m => by rw [one x m]; exact h0⟩
section
variable {P : Program} {w : World} {K : PySem.W.Frag} {mg : Str → Option Value} {base : Heap}
/-! _law_spots -/
def spSpots : Sp := fun vs H Q _ => ∃ (c n k : Int), vs = [.int c, .int n, .int k] ∧ 1 ≤ n ∧ n ≤ 6 ∧ 0 ≤ k ∧
  ∀ (H' : Hp) (p : Addr) (zs : List Nam), Same H H' → H' p = some (.lst (zs.map vN)) → (zs.length : Int) = n → NsOk zs → Q (.ref p) H'
/-! _law_tolls -/
def spTollsL (K : PySem.W.Frag) : Sp := fun vs H Q _ => ∃ (a b : Addr) (ns : List Int) (s n : Int) (zs : List Nam), vs = [.ref a, .int s, .ref b, .int n] ∧ SqL K H a (ns.map V.int) ∧ SqL K H b (zs.map vN) ∧ 0 ≤ s ∧ s + n ≤ ns.length ∧ 0 ≤ n ∧ n ≤ 12 ∧ 1 ≤ zs.length ∧
  ∀ (H' : Hp) (p : Addr) (es : List Addr) (ts : List Tie), H p = none → EW H H' p zs es ts → ts.length ≤ 12 → Q (.ref p) H'
/-! _law_loads -/
def spLoads (K : PySem.W.Frag) : Sp := fun vs H Q _ => ∃ (c : Int) (b : Addr) (zs : List Nam), vs = [.int c, .ref b] ∧ SqL K H b (zs.map vN) ∧ 1 ≤ zs.length ∧ zs.length ≤ 6 ∧
  ∀ (H' : Hp) (p : Addr) (es : List Addr) (ts : List Tie), H p = none → EW H H' p zs es ts → ts.length ≤ 40 → Q (.ref p) H'
end
end TK

namespace TK
open PySem PySem.Spec PyProof.Rows L2
theorem ints_dp {K : PySem.W.Frag} {H : Hp} : ∀ {ns : List Int}, ∃ ds, DpAll K H (ns.map V.int) ds ∧ ds.length = ns.length ∧ PyData.canLayAll0 ds = true ∧ PyData.depthAll ds ≤ 1
  | [] => ⟨[], .nil, rfl, by simp [PyData.canLayAll0], by simp [PyData.depthAll]⟩
  | z :: ns => by
    obtain ⟨ds, h1, h2, h3, h4⟩ := ints_dp (K := K) (H := H) (ns := ns)
    refine ⟨.int z :: ds, .cons (.int _) h1, congrArg Nat.succ h2, ?_, ?_⟩
    · simp only [PyData.canLayAll0, PyData.canLay0, Bool.and_eq_true]
      exact ⟨trivial, h3⟩
    · simp only [PyData.depthAll, PyData.depth]
      omega
theorem nm_shape {ds : List PyData} (h3 : PyData.canLayAll0 ds = true) (h4 : PyData.depthAll ds ≤ 1) : SeqAt.shaped (.list ds) = true := by
  show ((PyData.list ds).canLay0 && decide ((PyData.list ds).depth ≤ 64)) = true
  rw [show (PyData.list ds).canLay0 = true by simp only [PyData.canLay0, h3], show (PyData.list ds).depth = PyData.depthAll ds + 1 by simp only [PyData.depth]]
  exact decide_eq_true (by omega)
theorem nil_eqv {ds : List PyData} : PyData.eqv (.list ds) (.list []) = decide (ds.length = 0) := by
  cases ds with
  | nil => rfl
  | cons d ds => rfl
/-- the tolls of the entries between two names -/
def valsE (ts : List Tie) (x y : Nam) : List Int := (ts.filter (isE x y)).map (·.2.2)
theorem valsE_snoc {ts : List Tie} {i : Nat} {t : Tie} (h : ts[i]? = some t) (x y : Nam) : valsE (ts.take (i + 1)) x y = valsE (ts.take i) x y ++ (if isE x y t then [t.2.2] else []) := by
  unfold valsE
  rw [List.take_add_one, h, List.filter_append, List.map_append]
  congr 1
  by_cases k : isE x y t = true
  · rw [if_pos k]; show List.map _ (List.filter _ [t]) = _; rw [List.filter_cons_of_pos k]; rfl
  · rw [if_neg k]; show List.map _ (List.filter _ [t]) = _; rw [List.filter_cons_of_neg k]; rfl
def accE (x y : Nam) (o : Option Int) (t : Tie) : Option Int := if isE x y t then minO o (some t.2.2) else o
theorem fold_spec (x y : Nam) : ∀ (ts : List Tie) (o : Option Int), (∀ m, ts.foldl (accE x y) o = some m → (m ∈ valsE ts x y ∨ o = some m) ∧ (∀ u ∈ valsE ts x y, m ≤ u) ∧ ∀ u, o = some u → m ≤ u) ∧ (ts.foldl (accE x y) o = none → valsE ts x y = [] ∧ o = none)
  | [], o => ⟨fun m h => ⟨.inr h, (fun _ h => nomatch h), fun u e => by rw [show o = some m from h] at e; cases e; exact Int.le_refl _⟩, fun h => ⟨rfl, h⟩⟩
  | t :: ts, o => by
    obtain ⟨h1, h2⟩ := fold_spec x y ts (accE x y o t)
    by_cases k : isE x y t = true
    · have ev : valsE (t :: ts) x y = t.2.2 :: valsE ts x y := by unfold valsE; rw [List.filter_cons_of_pos k]; rfl
      have ea : accE x y o t = minO o (some t.2.2) := by unfold accE; rw [if_pos k]
      rw [ev]
      rw [ea] at h1 h2
      show (∀ m, ts.foldl (accE x y) (accE x y o t) = some m → _) ∧ (ts.foldl (accE x y) (accE x y o t) = none → _)
      rw [ea]
      constructor
      · intro m hm
        obtain ⟨a, b, c⟩ := h1 m hm
        cases o with
        | none =>
          refine ⟨?_, ?_, fun u e => nomatch e⟩
          · rcases a with a | a
            · exact .inl (List.mem_cons_of_mem _ a)
            · exact .inl (by rw [← Option.some.inj (show some t.2.2 = some m from a)]; exact List.mem_cons_self)
          · intro u hu
            rcases List.mem_cons.mp hu with rfl | hu
            · exact c _ rfl
            · exact b u hu
        | some v =>
          have cv := c (if t.2.2 < v then t.2.2 else v) rfl
          refine ⟨?_, ?_, fun u e => ?_⟩
          · rcases a with a | a
            · exact .inl (List.mem_cons_of_mem _ a)
            · have a := Option.some.inj (show some (if t.2.2 < v then t.2.2 else v) = some m from a)
              by_cases q : t.2.2 < v
              · rw [if_pos q] at a; exact .inl (by rw [← a]; exact List.mem_cons_self)
              · rw [if_neg q] at a; exact .inr (by rw [a])
          · intro u hu
            rcases List.mem_cons.mp hu with rfl | hu
            · split at cv <;> omega
            · exact b u hu
          · cases e
            split at cv <;> omega
      · intro hn
        obtain ⟨_, z⟩ := h2 hn
        cases o <;> cases z
    · have ev : valsE (t :: ts) x y = valsE ts x y := by unfold valsE; rw [List.filter_cons_of_neg k]
      have ea : accE x y o t = o := by unfold accE; rw [if_neg k]
      rw [ev]
      rw [ea] at h1 h2
      show (∀ m, ts.foldl (accE x y) (accE x y o t) = some m → _) ∧ (ts.foldl (accE x y) (accE x y o t) = none → _)
      rw [ea]
      exact ⟨h1, h2⟩
theorem leastE_some {ts : List Tie} {x y : Nam} {m : Int} (h : leastE ts x y = some m) : m ∈ valsE ts x y ∧ ∀ u ∈ valsE ts x y, m ≤ u := by
  obtain ⟨a, b, _⟩ := (fold_spec x y ts none).1 m h
  rcases a with a | a
  · exact ⟨a, b⟩
  · cases a
theorem leastE_none {ts : List Tie} {x y : Nam} (h : leastE ts x y = none) : valsE ts x y = [] := ((fold_spec x y ts none).2 h).1
section
variable {P : Program} {w : World} {K : PySem.W.Frag} {mg : Str → Option Value} {base : Heap}
/-! _law_least_of -/
def spLeastOf (K : PySem.W.Frag) : Sp := fun vs H Q _ => ∃ (a : Addr) (es : List Addr) (ts : List Tie) (x y : Nam), vs = [.ref a, vN x, vN y] ∧ SqL K H a (es.map V.ref) ∧ TiesAt H es ts ∧ ts.length ≤ 10000 ∧ ∀ H', Same H H' → Q (capI (leastE ts x y)) H'
end
end TK

namespace TK
open PySem PySem.Spec PyProof.Rows L2
def rowE (zs : List Nam) (ts : List Tie) (x : Nam) : List V := zs.map fun y => capI (leastE ts x y)
def RowsIn (H : Hp) (rs : List Addr) (zs us : List Nam) (ts : List Tie) : Prop := rs.length = us.length ∧ ∀ (i : Nat) (q : Addr), rs[i]? = some q → ∃ x, us[i]? = some x ∧ H q = some (.lst (rowE zs ts x))
def RowsAt (H : Hp) (r : Addr) (zs : List Nam) (ts : List Tie) : Prop := ∃ rs : List Addr, H r = some (.lst (rs.map V.ref)) ∧ RowsIn H rs zs zs ts
theorem RowsAt.same {H H' : Hp} {r : Addr} {zs : List Nam} {ts : List Tie} (h : RowsAt H r zs ts) (s : Same H H') : RowsAt H' r zs ts := by
  obtain ⟨rs, h1, h2, h3⟩ := h
  exact ⟨rs, s _ _ h1, h2, fun i q e => by
    obtain ⟨x, a, b⟩ := h3 i q e
    exact ⟨x, a, s _ _ b⟩⟩
theorem zs_at0 {zs : List Nam} {j : Nat} {y : Nam} (h : zs[j]? = some y) : atI (zs.map vN) (0 + (j : Int)) = some (vN y) := by
  refine atI_in (by omega) ?_
  rw [show (0 + (j : Int)).toNat = j by omega, List.getElem?_map, h]
  rfl
theorem row_at0 {zs : List Nam} {ts : List Tie} {x y : Nam} {j : Nat} (h : zs[j]? = some y) : atI (rowE zs ts x) (0 + (j : Int)) = some (capI (leastE ts x y)) := by
  refine atI_in (by omega) ?_
  rw [show (0 + (j : Int)).toNat = j by omega]
  unfold rowE
  rw [List.getElem?_map, h]
  rfl
theorem rows_at0 {H : Hp} {rs : List Addr} {zs : List Nam} {ts : List Tie} {j : Nat} {x : Nam} (h : RowsIn H rs zs zs ts) (e : zs[j]? = some x) : ∃ q, atI (rs.map V.ref) (0 + (j : Int)) = some (.ref q) ∧ H q = some (.lst (rowE zs ts x)) := by
  have hj : j < rs.length := by rw [h.1]; exact (List.getElem?_eq_some_iff.mp e).1
  obtain ⟨x', e', hq⟩ := h.2 j rs[j] (List.getElem?_eq_getElem hj)
  have : x' = x := Option.some.inj (e'.symm.trans e)
  subst this
  refine ⟨rs[j], atI_in (by omega) ?_, hq⟩
  rw [show (0 + (j : Int)).toNat = j by omega, List.getElem?_map, List.getElem?_eq_getElem hj]
  rfl
section
variable {P : Program} {w : World} {K : PySem.W.Frag} {mg : Str → Option Value} {base : Heap}
/-! _law_listed -/
def spListed (K : PySem.W.Frag) : Sp := fun vs H Q _ => ∃ (a r : Addr) (zs : List Nam) (ts : List Tie), vs = [.ref a, .ref r] ∧ SqL K H a (zs.map vN) ∧ zs.length ≤ 6 ∧ RowsAt H r zs ts ∧
  ∀ H' q es, H q = none → Same H H' → H' q = some (.lst (es.map V.ref)) → TiesAt H' es (listE zs ts) → es.length ≤ 36 → Q (.ref q) H'
end
end TK

namespace TK
open PySem PySem.Spec PyProof.Rows L2
theorem kit_self {K : PySem.W.Frag} {C : Addr} : PySem.W.kitOne K (.ref C) (.ref C) = some true := by
  unfold PySem.W.kitOne
  rw [if_pos (beq_self_eq_true _)]
abbrev s_Tolls_eq : Stmt := inClass (topS 25) 7
theorem sc_Tolls_eq : FnScope ["self", "other"] ["self", "other"] (defScope s_Tolls_eq) := ⟨rfl, rfl, rfl, by decide +kernel, rfl, by decide +kernel, by decide +kernel⟩
theorem eq_flat {H : Hp} {t u : Addr} {xs : List V} (h1 : TL H t xs) (h2 : TL H u xs) (hl : xs.length ≤ 1000) (fl : ∀ x ∈ xs, flat1 x = true) (n : Nat) : Eq2 H (n + 1) (.ref t) (.ref u) := by
  refine .inr ⟨t, u, _, _, rfl, rfl, .inr ⟨h1, h2⟩, rfl, by omega, fun i x y hx hy => ?_⟩
  rw [hx] at hy
  have e := Option.some.inj hy
  have f := fl x (List.mem_of_getElem? hx)
  cases n with
  | zero => exact ⟨e, f⟩
  | succ n => exact .inl ⟨e, f⟩
theorem fl_nm {zs : List Nam} : ∀ x ∈ zs.map vN, flat1 x = true := fun x hx => by
  obtain ⟨z, _, rfl⟩ := List.mem_map.mp hx
  rfl
theorem fl_capI (x : Option Int) : flat1 (capI x) = true := by cases x <;> rfl
theorem eq_tiesL {H : Hp} {t u : Addr} {es fs : List Addr} {ts : List Tie} (h1 : H t = some (.lst (es.map V.ref))) (h2 : H u = some (.lst (fs.map V.ref))) (a : TiesAt H es ts) (b : TiesAt H fs ts) (hl : es.length ≤ 10000) : Eq2 H 2 (.ref t) (.ref u) := by
  refine .inr ⟨t, u, _, _, rfl, rfl, .inl ⟨h1, h2⟩, by rw [List.length_map, List.length_map, a.1, b.1], by rw [List.length_map]; omega, fun i x y hx hy => ?_⟩
  obtain ⟨e, k, rfl, _, ek, hk⟩ := ties_at a hx
  obtain ⟨e', k', rfl, _, ek', hk'⟩ := ties_at b hy
  have : k = k' := Option.some.inj (ek.symm.trans ek')
  subst this
  refine eq_flat (.inl hk) (.inl hk') (show (3 : Nat) ≤ 1000 by decide) (fun x hx => ?_) 0
  rcases List.mem_cons.mp hx with rfl | hx
  · rfl
  rcases List.mem_cons.mp hx with rfl | hx
  · rfl
  rcases List.mem_cons.mp hx with rfl | hx
  · rfl
  · cases hx
theorem fldsT_none (a b : Addr) : (fldsT a b).lookup ("entries" : Str) = none := by
  unfold fldsT
  rw [lookup_putF, if_neg (by decide +kernel), lookup_putF, if_neg (by decide +kernel)]
  rfl
theorem nmH_ok {l : List Nat} (h : NmH l) : PyData.strOk (sOf l) = true := by
  show (sOf l).cps.all (· < 0x110000) = true
  rw [← Array.all_toList, sOf_codes, List.all_eq_true]
  intro c hc
  rcases h with h | rfl
  · have := h.2.2 c hc
    exact decide_eq_true (by omega)
  · cases hc
theorem namesH_dp {K : PySem.W.Frag} {H : Hp} : ∀ {zs : List (List Nat)}, (∀ z ∈ zs, NmH z) → DpAll K H (zs.map vN) (zs.map fun z => PyData.str (sOf z)) ∧ PyData.canLayAll0 (zs.map fun z => PyData.str (sOf z)) = true ∧ PyData.depthAll (zs.map fun z => PyData.str (sOf z)) ≤ 1
  | [], _ => ⟨.nil, by simp [PyData.canLayAll0], by simp [PyData.depthAll]⟩
  | z :: zs, ok => by
    obtain ⟨h1, h3, h4⟩ := namesH_dp (K := K) (H := H) (zs := zs) fun c hc => ok c (List.mem_cons_of_mem _ hc)
    refine ⟨.cons (.str _) h1, ?_, ?_⟩
    · simp only [List.map_cons, PyData.canLayAll0, PyData.canLay0, Bool.and_eq_true]
      exact ⟨nmH_ok (ok z (List.mem_cons_self ..)), h3⟩
    · simp only [List.map_cons, PyData.depthAll, PyData.depth]
      omega
theorem nmT_lay {ds : List PyData} (h3 : PyData.canLayAll0 ds = true) : (PyData.tuple ds).canLay0 = true := by simp only [PyData.canLay0, h3]
theorem nmT_shape {ds : List PyData} (h3 : PyData.canLayAll0 ds = true) (h4 : PyData.depthAll ds ≤ 1) : SeqAt.shaped (.tuple ds) = true := by
  show ((PyData.tuple ds).canLay0 && decide ((PyData.tuple ds).depth ≤ 64)) = true
  rw [nmT_lay h3, show (PyData.tuple ds).depth = PyData.depthAll ds + 1 by simp only [PyData.depth]]
  exact decide_eq_true (by omega)
/-! the keys of two dicts with the same prices -/
theorem nd_lenK {α : Type} [DecidableEq α] {p zs : List α} (h : p.Nodup) (s : ∀ w ∈ p, w ∈ zs) : p.length ≤ zs.length := by
  induction p generalizing zs with
  | nil => exact Nat.zero_le _
  | cons a p ih =>
    have ha := s a List.mem_cons_self
    obtain ⟨n1, n2⟩ := List.nodup_cons.mp h
    have := ih (zs := zs.erase a) n2 fun w hw => (List.mem_erase_of_ne (fun e => n1 (by rw [← e]; exact hw))).mpr (s w (List.mem_cons_of_mem _ hw))
    rw [List.length_erase_of_mem ha] at this
    have hp : 0 < zs.length := List.length_pos_of_mem ha
    simp only [List.length_cons]
    omega
theorem val_mem {kvs : List (List Key × V)} {k : List Key} {v : V} (h : valV kvs k = some v) : k ∈ kvs.map (·.1) := by
  unfold valV at h
  obtain ⟨p, hp, _⟩ := Option.map_eq_some_iff.mp h
  have := List.find?_some hp
  exact List.mem_map.mpr ⟨p, List.mem_of_find?_eq_some hp, of_decide_eq_true this⟩
theorem kvE_val {ks ls : List (List Key × V)} {ts us : List Tie} (a : KvE ks ts) (b : KvE ls us) (e : ∀ x y, leastE ts x y = leastE us x y) : ∀ p ∈ ks, valV ls p.1 = some p.2 ∧ flatB p.2 = true := by
  intro p hp
  have hv := val_nodup a.nd p hp
  obtain ⟨x, y, v, rfl⟩ := a.ks p hp
  refine ⟨?_, rfl⟩
  rw [b.at_, ← e, ← a.at_]
  exact hv
theorem kvE_len2 {ks ls : List (List Key × V)} {ts us : List Tie} (a : KvE ks ts) (b : KvE ls us) (e : ∀ x y, leastE ts x y = leastE us x y) : ks.length = ls.length := by
  refine Nat.le_antisymm ?_ ?_
  · have := nd_lenK a.nd (zs := ls.map (·.1)) fun w hw => by
      obtain ⟨p, hp, rfl⟩ := List.mem_map.mp hw
      exact val_mem (kvE_val a b e p hp).1
    rwa [List.length_map, List.length_map] at this
  · have := nd_lenK b.nd (zs := ks.map (·.1)) fun w hw => by
      obtain ⟨p, hp, rfl⟩ := List.mem_map.mp hw
      exact val_mem (kvE_val b a (fun x y => (e x y).symm) p hp).1
    rwa [List.length_map, List.length_map] at this
section
variable {P : Program} {w : World} {K : PySem.W.Frag} {mg : Str → Option Value} {base : Heap}
/-! Tolls == Tolls -/
def spEqT (K : PySem.W.Frag) (C : Addr) : Sp := fun vs H Q _ => ∃ (p p' : Addr) (zs : List Nam) (ts us : List Tie), vs = [.ref p, .ref p'] ∧ TkAt K C H p zs ts ∧ TkAt K C H p' zs us ∧ NsOk zs ∧ (∀ x y, leastE ts x y = leastE us x y) ∧ Q (.bl true) H
theorem ok_Tolls_eq {f C : Addr} {fd : FuncData} (F : Fun K "__eq__" "Tolls.__eq__" s_Tolls_eq f fd) (T : TxtT K C) (m_isinstance : mg "isinstance" = none) (mg_Tolls : mg "Tolls" = some (.ref C))
    (ha : PySem.W.findIn K (.ref C) "__class__" = some (some (.builtin "object.__class__"))) (hn : PySem.W.specialIn K (.builtin "object.__class__") "__get__" = some (some (.builtin "getset_descriptor.__get__")))
    (htk : PySem.W.takesIn K (.builtin "object.__class__") = some true) (hm : PySem.W.mroIn K C (.type "object") = some true) : FnOk P w K mg base CX0 1 f fd ["self", "other"] (spEqT K C) := by
  refine F.ok sc_Tolls_eq (fun vs H Q E h => ?_) (fun cdv A outer s H vs Q E hr h => ?_)
  · obtain ⟨p, p', zs, ts, us, rfl, _⟩ := h
    rfl
  · obtain ⟨p, p', zs, ts, us, rfl, ⟨dx, a, d, kvs, hp, hA, hd, kv, kl⟩, ⟨dx', a', d', kvs', hp', hA', hd', kv', kl'⟩, nok, e, q⟩ := h
    refine ⟨_, (pss_one (ps_ret (pe_and (pe_callB call_isi (by rfl) m_isinstance (by decide +kernel) (pa_cons (pv 1) (pa_cons (pe_glob (v := .ref C) (u := .ref C) (by rfl) mg_Tolls rfl) pa_nil))) (pe_and (pe_cmpR (op_eqD hr.units) (pe_fld (pv 0) rfl) (pe_fld (pv 1) rfl) (nomark _)) (pe_one (pe_cmpR (op_eq_dictT (hu_of hr)) (pe_fld (pv 0) rfl) (pe_fld (pv 1) rfl) (nomark _))))))), ?_⟩
    refine ⟨_, rfl, _, _, _, _, true, rfl, .own C, .base (.ins hp' T.cl ha hn htk hm), kit_self, _, rfl, iteT ?_⟩
    obtain ⟨d1, d3, d4⟩ := namesH_dp (K := K) (H := H) nok.nm
    refine ⟨_, rfl, p, C, dx, _, _, rfl, hp, T.cl, T.nN, fldsT_names _ _, _, rfl, p', C, dx', _, _, rfl, hp', T.cl, T.nN, fldsT_names _ _, .tuple _, .tuple _, .tup hA.sq d1, .tup hA'.sq d1, nmT_shape d3 d4, nmT_shape d3 d4, _, rfl, ?_⟩
    rw [SeqAt.eqv_refl _ (nmT_lay d3)]
    refine iteT ⟨_, rfl, p, C, dx, _, _, rfl, hp, T.cl, T.nP, fldsT_prices _ _, _, rfl, p', C, dx', _, _, rfl, hp', T.cl, T.nP, fldsT_prices _ _, ?_⟩
    exact ⟨d, d', kvs, kvs', rfl, rfl, hd, hd', kvE_len2 kv kv' e, kvE_val kv kv' e, q⟩
end
end TK

namespace TK
open PySem PySem.Spec PyProof.Rows L2
/-- o.m(k = v, ..) of an instance of the class at C -/
def tMethK (C : Addr) (m : Str) (n : Nat) (sp : Sp) (gV : List V → List V → List V) (E : XK) (ta : TE) (tk : TA) : TE := fun σ H Q => ta σ H fun x H1 => ∃ a dx fs, x = .ref a ∧ H1 a = some (.ins C dx fs) ∧ fs.lookup m = none ∧
  tk σ H1 fun zs H2 => zs.length = n ∧ sp (gV [x] zs) H2 Q E
section
variable {X : Cx} {CX : CXT} {k : Nat} {f C : Addr} {fd : FuncData} {ps ks : List Str} {sp : Sp} {E : XK} {m : Str} {pos apos : Pos} {o : Expr} {kws : List Keyword} {ta : TE} {tk : TA} {g : List Value → List Value → List Value} {gV : List V → List V → List V}
theorem run_kb {pins : List (Addr × Obj)} {σ : L2.St} {H : Hp} {s : Shared} {Q : VK} {n : Nat} {us ws : List Value} {vs zs : List V} (F : FnOk X.prog X.w X.K X.mg X.base CX k f fd ps sp) (hr : Room k X.A) (hb : KBn X.K fd ps n ks g gV) (hx : Passes CX X E)
    (I : Inv X pins σ H s) (r : Vals vs us) (rz : Vals zs ws) (l1 : us.length = n) (l2 : ws.length = ks.length) (h : sp (gV vs zs) H Q E) : wpAny (model X.prog X.w) X.A (call (.ref f) us (ks.zip ws)) (EP X pins σ Q) X.xe s := by
  refine wpAny_call (codeAny_mono (F.run X.A X.stack s H ⟨us, ks.zip ws⟩ (g us ws) (gV vs zs) Q E hr I.env0 (hb.to s us ws I.kIn l1 l2) (hb.rel r rz) h) fun r s' hq => ?_)
  cases r with
  | error e => exact hx pins σ H s e s' I hq
  | ok fl =>
    cases fl with
    | ret u => exact I.after hq
    | next => exact False.elim hq
    | brk => exact False.elim hq
    | cont => exact False.elim hq
theorem pe_methK0 {pl : Sem Bool} (he : PE X o ta) (c : Cls X.K C) (hm : Meth X.K C m f) (F : FnOk X.prog X.w X.K X.mg X.base CX k f fd ps sp) (hr : Room k X.A) (hb : KBn X.K fd ps 1 ks g gV) (hx : Passes CX X E) (hkw : PK X kws tk)
    (hall : (backToKw pos (keywordEach kws X.env)).all (·.1.isSome) = true := by rfl) (hks : (backToKw pos (keywordEach kws X.env)).filterMap (·.1) = ks := by rfl)
    (hpl : ((backTo pos (starEach [] X.env)).any (·.1) || (backToKw pos (keywordEach kws X.env)).any (·.1.isNone)) = false := by rfl)
    (ht : eval (.Call (.Attribute o m apos) [] kws pos) X.env = (do
      let ov ← eval o X.env
      standAt apos.atName
      let (f, first) ← holding [ov] (getMethod ov m pl)
      callWith pos f first (backTo pos (starEach [] X.env)) (backToKw pos (keywordEach kws X.env))) := by rfl) :
    PE X (.Call (.Attribute o m apos) [] kws pos) (tMethK C m ks.length sp gV E ta tk) := by
  refine ⟨fun pins s σ H Q I h => ?_⟩
  refine PySem.W.methodCall_KW (pl := pl) (thn (he.run pins s σ H _ I h) fun u s1 ⟨x, H1, I1, rx, a, dx, fs, ex, ea, l, q⟩ => ?_) ht
  subst ex
  obtain rfl : u = Value.ref a := rx
  refine getmeth_ok I1 ea c hm l ?_
  refine PySem.W.callWith_KW0 (first := [.ref a]) (h₀ := X.base) I.ok.mod.kin hm.kp hall ?_ hpl
  refine thn (hkw.run pos pins s1 σ H1 _ I1 q) fun ws s2 ⟨zs, H2, I2, rz, l1, q2⟩ => ⟨I2.kIn, ?_⟩
  rw [hks]
  exact run_kb (us := [.ref a]) (vs := [.ref a]) F hr hb hx I2 (.cons rfl .nil) rz rfl (rz.length.symm.trans l1) q2
end
section
variable {X : Cx} {K : PySem.W.Frag}
theorem call_tuple_ofK (h : X.K = K) : CallR X (.type "tuple") (fun xs H Q => ∃ p ys, xs = [.ref p] ∧ ((SqL K H p ys ∧ ∀ l, H l = none → Q (.ref l) (upd H l (.tup ys))) ∨ (SqT K H p ys ∧ Q (.ref p) H))) := h ▸ call_tuple_of
theorem call_list_ofK (h : X.K = K) : CallR X (.type "list") (fun xs H Q => ∃ p ys, xs = [.ref p] ∧ (SqL K H p ys ∨ SqT K H p ys) ∧ ∀ l, H l = none → Q (.ref l) (upd H l (.lst ys))) := h ▸ call_list_of
end
/-- what is no instance of the class, nor of one below it -/
inductive Odd (K : PySem.W.Frag) (C : Addr) (H : Hp) : V → Prop where
  | non (h : PySem.W.notFirst K C (.type "NoneType") = true) : Odd K C H .non
  | str (z : Str) (h : PySem.W.notFirst K C (.type "str") = true) : Odd K C H (.str z)
  | tup {a : Addr} {xs : List V} (e : H a = some (.tup xs)) (h : PySem.W.notFirst K C (.type "tuple") = true) : Odd K C H (.ref a)
section
variable {X : Cx} {K : PySem.W.Frag} {CX : CXT} {C g : Addr} {n : Nat} {fd : FuncData} {ps : List Str} {sp : Sp} {E : XK} {pins : List (Addr × Obj)} {σ : L2.St} {H : Hp} {s : Shared}
/-- o == y: y of one's own class, or of another kind -/
def rOwnA (K : PySem.W.Frag) (C : Addr) (sp : Sp) (E : XK) : R2 := fun x y H Q => IsIn H x C ∧ (IsIn H y C ∨ Odd K C H y) ∧ sp [x, y] H Q E
theorem odd_looks {x : V} {u : Value} (I : Inv X pins σ H s) (rx : RelV x u) (o : Odd X.K C H x) : ∃ tb, PySem.W.Looks (model X.prog X.w) s.heap (typeOf u) tb ∧ PySem.W.notFirst X.K C tb = true := by
  cases o with
  | non h => cases (show u = Value.none from rx); exact ⟨_, .now, h⟩
  | str z h => obtain ⟨t, q⟩ := (show ∃ t, u = Value.str z t from rx); cases q; exact ⟨_, .now, h⟩
  | @tup a xs ea h =>
    cases (show u = Value.ref a from rx)
    obtain ⟨_, _, _, o, h1, h2, _⟩ := (show ObjOk X.prog X.w H s.heap a (.tup xs) from I.hok a _ ea)
    exact ⟨_, h2 ▸ (PySem.W.Looks.ld h1).andThen .now, h⟩
theorem op_ownEqA {op : CmpOp} (hK : X.K = K) (hop : ∀ a b, compareOp op a b = richCompare op a b) (c : Own X.K C (cmpInfo op).2.1 g) (F : FnOk X.prog X.w X.K X.mg X.base CX n g fd ps sp) (hr : Room n X.A) (hb : Binds X.K fd ps []) (hx : Passes CX X E) :
    OpR X (compareOp op) (rOwnA K C sp E) := by
  subst hK
  intro pins s σ H x y v u Q I rx ry h
  obtain ⟨⟨a, dx, fs, rfl, ha⟩, hy, q⟩ := h
  cases rx
  obtain ⟨ox, od, J⟩ := own_at I ha
  obtain ⟨m, hF⟩ := I.fr
  rw [hop]
  have key : ∃ tb, PySem.W.Looks (model X.prog X.w) s.heap (typeOf u) tb ∧ PySem.W.notFirst X.K C tb = true := by
    rcases hy with ⟨b, dy, gs, rfl, hb'⟩ | o
    · cases ry
      obtain ⟨ox', od', J'⟩ := own_at I hb'
      exact ⟨_, J'.type, by simp [PySem.W.notFirst]⟩
    · exact odd_looks I ry o
  obtain ⟨tb, L, nf⟩ := key
  refine PySem.W.cmp_K (op := op) (tb := tb) hr.units0 hF I.ok.mod.kin J L nf c.at_ c.fn (wpAny_mono (run_own F hr I.env0 hb hx I (vs := [.ref a, y]) (.cons rfl (.cons ry .nil)) q) (fun w s' z => ?_) fun _ _ x => x)
  obtain ⟨z', H', I', rz, qz⟩ := z
  exact SlX.cmpback rz ⟨z', H', I', rz, qz⟩
end
end TK

namespace TK
open PySem PySem.Spec PyProof.Rows L2
theorem eqv_nms : ∀ zs us : List Nam, PyData.eqvAll (zs.map fun z => PyData.str (sOf z)) (us.map fun z => PyData.str (sOf z)) = decide (zs = us)
  | [], [] => by simp [PyData.eqvAll]
  | [], q :: qs => by simp [PyData.eqvAll]
  | o :: os, [] => by simp [PyData.eqvAll]
  | o :: os, q :: qs => by
    simp only [List.map_cons, PyData.eqvAll, PyData.eqv]
    rw [eqv_nms os qs]
    by_cases h1 : o = q
    · subst h1
      by_cases h2 : os = qs <;> simp [h2]
    · have : (sOf o == sOf q) = false := by
        cases e : (sOf o == sOf q) with
        | false => rfl
        | true => exact absurd (sOf_inj (eq_of_beq e)) h1
      simp [h1, this]
theorem eqv_nmT (zs us : List Nam) : PyData.eqv (.tuple (zs.map fun z => PyData.str (sOf z))) (.tuple (us.map fun z => PyData.str (sOf z))) = decide (zs = us) := by
  simp only [PyData.eqv]
  exact eqv_nms zs us
/-! ties as data -/
def dT (t : Tie) : PyData := .tuple [.str (sOf t.1), .str (sOf t.2.1), .int t.2.2]
theorem ties_dp {K : PySem.W.Frag} {H : Hp} : ∀ {es : List Addr} {ts : List Tie}, TiesAt H es ts → DpAll K H (es.map V.ref) (ts.map dT)
  | [], [], _ => .nil
  | [], o :: os, h => by cases h.1
  | t :: ts, [], h => by cases h.1
  | t :: ts, o :: os, h => by
    obtain ⟨o', h1, h2⟩ := h.2 0 t rfl
    cases Option.some.inj h1
    exact .cons (.tup (tupAt h2) (.cons (.str _) (.cons (.str _) (.cons (.int _) .nil)))) (ties_dp ⟨Nat.succ.inj h.1, fun i t' a => h.2 (i + 1) t' a⟩)
theorem ties_lay : ∀ {ts : List Tie}, (∀ t ∈ ts, NmH t.1 ∧ NmH t.2.1) → PyData.canLayAll0 (ts.map dT) = true ∧ PyData.depthAll (ts.map dT) ≤ 2
  | [], _ => ⟨by simp [PyData.canLayAll0], by simp [PyData.depthAll]⟩
  | o :: os, h => by
    obtain ⟨h1, h2⟩ := ties_lay (ts := os) fun t m => h t (List.mem_cons_of_mem _ m)
    obtain ⟨n1, n2⟩ := h o List.mem_cons_self
    refine ⟨?_, ?_⟩
    · simp only [List.map_cons, PyData.canLayAll0, Bool.and_eq_true]
      exact ⟨by simp [dT, PyData.canLay0, PyData.canLayAll0, nmH_ok n1, nmH_ok n2], h1⟩
    · simp only [List.map_cons, PyData.depthAll]
      have : (dT o).depth ≤ 2 := by simp [dT, PyData.depth, PyData.depthAll]
      omega
theorem shape_ties {ts : List Tie} (h : ∀ t ∈ ts, NmH t.1 ∧ NmH t.2.1) : SeqAt.shaped (.list (ts.map dT)) = true := by
  obtain ⟨h1, h2⟩ := ties_lay h
  show ((PyData.list _).canLay0 && decide ((PyData.list _).depth ≤ 64)) = true
  rw [show (PyData.list (ts.map dT)).canLay0 = true by simp only [PyData.canLay0, h1], show (PyData.list (ts.map dT)).depth = PyData.depthAll (ts.map dT) + 1 by simp only [PyData.depth]]
  exact decide_eq_true (by omega)
theorem TiesAt.take {H : Hp} {es : List Addr} {ts : List Tie} (h : TiesAt H es ts) (k : Nat) : TiesAt H (es.take k) (ts.take k) := by
  refine ⟨by rw [List.length_take, List.length_take, h.1], fun i e he => ?_⟩
  rw [List.getElem?_take] at he
  split at he
  · rename_i hi
    obtain ⟨t, h1, h2⟩ := h.2 i e he
    exact ⟨t, by rw [List.getElem?_take, if_pos hi]; exact h1, h2⟩
  · cases he
theorem TiesAt.drop {H : Hp} {es : List Addr} {ts : List Tie} (h : TiesAt H es ts) (k : Nat) : TiesAt H (es.drop k) (ts.drop k) := by
  refine ⟨by rw [List.length_drop, List.length_drop, h.1], fun i e he => ?_⟩
  rw [List.getElem?_drop] at he
  obtain ⟨t, h1, h2⟩ := h.2 _ e he
  exact ⟨t, by rw [List.getElem?_drop]; exact h1, h2⟩
theorem cut_to_l (xs : List V) (i : Nat) : cutV xs none (some ((i : Nat) : Int)) = xs.take i := by
  unfold cutV
  rw [HT.sIx_none, List.drop_zero, Nat.sub_zero, HT.sIx_nat]
  by_cases h : i ≤ xs.length
  · rw [Nat.min_eq_left h]
  · rw [Nat.min_eq_right (by omega), List.take_length, List.take_of_length_le (by omega)]
theorem eqv_tie (o q : Tie) : PyData.eqv (dT o) (dT q) = decide (o = q) := by
  obtain ⟨a, b, c⟩ := o
  obtain ⟨a', b', c'⟩ := q
  have h : ∀ x y : Nam, (sOf x == sOf y) = decide (x = y) := fun x y => by
    by_cases e : x = y
    · subst e; simp
    · rw [decide_eq_false e]
      cases e2 : (sOf x == sOf y) with
      | false => rfl
      | true => exact absurd (sOf_inj (eq_of_beq e2)) e
  simp only [dT, PyData.eqv, PyData.eqvAll, h, Bool.and_true, Prod.mk.injEq, Bool.decide_and]
  by_cases e : c = c' <;> simp [e]
theorem eqv_ties : ∀ os qs : List Tie, PyData.eqvAll (os.map dT) (qs.map dT) = decide (os = qs)
  | [], [] => by simp [PyData.eqvAll]
  | [], q :: qs => by simp [PyData.eqvAll]
  | o :: os, [] => by simp [PyData.eqvAll]
  | o :: os, q :: qs => by
    simp only [List.map_cons, PyData.eqvAll]
    rw [eqv_ties os qs, eqv_tie]
    by_cases h1 : o = q <;> by_cases h2 : os = qs <;> simp [h1, h2]
theorem eqv_tiesT (os qs : List Tie) : PyData.eqv (.tuple (os.map dT)) (.tuple (qs.map dT)) = decide (os = qs) := by
  simp only [PyData.eqv]
  exact eqv_ties os qs
theorem eqv_tiesL (os qs : List Tie) : PyData.eqv (.list (os.map dT)) (.list (qs.map dT)) = decide (os = qs) := by
  simp only [PyData.eqv]
  exact eqv_ties os qs
theorem shape_tiesT {ts : List Tie} (h : ∀ t ∈ ts, NmH t.1 ∧ NmH t.2.1) : SeqAt.shaped (.tuple (ts.map dT)) = true := by
  obtain ⟨h1, h2⟩ := ties_lay h
  show ((PyData.tuple _).canLay0 && decide ((PyData.tuple _).depth ≤ 64)) = true
  rw [show (PyData.tuple (ts.map dT)).canLay0 = true by simp only [PyData.canLay0, h1], show (PyData.tuple (ts.map dT)).depth = PyData.depthAll (ts.map dT) + 1 by simp only [PyData.depth]]
  exact decide_eq_true (by omega)
theorem LOk.tn {zs : List Nam} {ts : List Tie} (h : LOk zs ts) : ∀ t ∈ ts, NmH t.1 ∧ NmH t.2.1 := fun t m => ⟨.inl (h.nm _ (h.a t m)), .inl (h.nm _ (h.b t m))⟩
abbrev s_Links_len : Stmt := inClass (topS 30) 1
theorem sc_Links_len : FnScope ["self"] ["self"] (defScope s_Links_len) := ⟨rfl, rfl, rfl, by decide +kernel, rfl, by decide +kernel, by decide +kernel⟩
abbrev s_Links_iter : Stmt := inClass (topS 30) 2
theorem sc_Links_iter : FnScope ["self"] ["self"] (defScope s_Links_iter) := ⟨rfl, rfl, rfl, by decide +kernel, rfl, by decide +kernel, by decide +kernel⟩
abbrev s_Links_eq : Stmt := inClass (topS 30) 3
theorem sc_Links_eq : FnScope ["self", "other"] ["self", "other"] (defScope s_Links_eq) := ⟨rfl, rfl, rfl, by decide +kernel, rfl, by decide +kernel, by decide +kernel⟩
abbrev s_Links_tolls : Stmt := inClass (topS 30) 4
theorem sc_Links_tolls : FnScope ["self"] ["self"] (defScope s_Links_tolls) := ⟨rfl, rfl, rfl, by decide +kernel, rfl, by decide +kernel, by decide +kernel⟩
section
variable {P : Program} {w : World} {K : PySem.W.Frag} {mg : Str → Option Value} {base : Heap}
/-! Links.__iter__ -/
def RLk (K : PySem.W.Frag) (C : Addr) (a t : Addr) (H : Hp) : Prop := ∃ dx b xs, H a = some (.ins C dx (fldsL b t)) ∧ SqT K H t xs
theorem ok_Links_iter {f C : Addr} {fd : FuncData} (F : Fun K "__iter__" "Links.__iter__" s_Links_iter f fd) (b : Binds K fd ["self"] []) (T : TxtL K C) (m_iter : mg "iter" = none) : FnIt P w K mg base 1 f (RLk K C) := by
  refine fnIt_of (k := 0) F sc_Links_iter b fun cdv A outer s H a t hr hR => ?_
  obtain ⟨dx, b, xs, ha, ht⟩ := hR
  refine ⟨_, PSs.nox (pss_one (ps_ret (pe_callB call_iterT (by rfl) m_iter (by decide +kernel) (pa_cons (pe_fld (pv 0) rfl) pa_nil)))), ?_⟩
  exact ⟨_, rfl, a, C, dx, _, _, rfl, ha, T.cl, T.nL, fldsL_links _ _, t, xs, rfl, ht, fun it hn hs => ⟨it, rfl, hn, hs, rfl⟩⟩
/-! len of links -/
def spLenL (C : Addr) : Sp := fun vs H Q _ => ∃ (p : Addr) (zs : List Nam) (ts : List Tie), vs = [.ref p] ∧ LkAt C H p zs ts ∧ ts.length ≤ 12 ∧ Q (.int ((ts.length : Nat) : Int)) H
theorem ok_Links_len {f C : Addr} {fd : FuncData} (F : Fun K "__len__" "Links.__len__" s_Links_len f fd) (T : TxtL K C) (m_len : mg "len" = none) : FnOk P w K mg base CX0 1 f fd ["self"] (spLenL C) := by
  refine F.ok sc_Links_len (fun vs H Q E h => ?_) (fun cdv A outer s H vs Q E hr h => ?_)
  · obtain ⟨p, zs, ts, rfl, _⟩ := h
    rfl
  · obtain ⟨p, zs, ts, rfl, ⟨dx, a, b, es, hp, _, hb, hT⟩, l, q⟩ := h
    refine ⟨_, (pss_one (ps_ret (pe_callB call_len_seq (by rfl) m_len (by decide +kernel) (pa_cons (pe_fld (pv 0) rfl) pa_nil)))), ?_⟩
    refine ⟨_, rfl, p, C, dx, _, _, rfl, hp, T.cl, T.nL, fldsL_links _ _, b, _, rfl, .inr (tupAt hb), ?_⟩
    rw [List.length_map, hT.1]
    exact q
theorem lk_list {C p : Addr} {H : Hp} {zs : List Nam} {ts : List Tie} {Q : VK} (l : LkAt C H p zs ts) (t12 : ts.length ≤ 12) (h : ∀ q es, H q = none → TiesAt H es ts → Q (.ref q) (upd H q (.lst (es.map V.ref)))) : rListOwn K C (RLk K C) (spLenL C) E0 [.ref p] H Q := by
  obtain ⟨dx, a, b, es, hp, ha, hb, hT⟩ := id l
  have el : (es.map V.ref).length = ts.length := by rw [List.length_map, hT.1]
  refine ⟨p, dx, _, b, es.map V.ref, rfl, hp, tupAt hb, by omega, fun q nq => ?_, fun q nq => h q es nq hT⟩
  have s := same_upd (o := .lst []) nq
  exact ⟨⟨dx, a, _, s _ _ hp, tupAt (s _ _ hb)⟩, p, zs, ts, rfl, l.same s, t12, by rw [el], rfl⟩
/-! Links == anything -/
def spEqL (K : PySem.W.Frag) (C : Addr) : Sp := fun vs H Q _ => ∃ (p : Addr) (y : V) (zs : List Nam) (ts : List Tie), vs = [.ref p, y] ∧ LkAt C H p zs ts ∧ LOk zs ts ∧
  ((∃ t, TyX K H y t ∧ PySem.W.kitOne K t (.ref C) = some false ∧ Q (.bl false) H) ∨
   (∃ (p' : Addr) (us : List Nam) (ts' : List Tie), y = .ref p' ∧ LkAt C H p' us ts' ∧ LOk us ts' ∧ Q (.bl (decide (zs = us ∧ ts = ts'))) H))
theorem ok_Links_eq {f C : Addr} {fd : FuncData} (F : Fun K "__eq__" "Links.__eq__" s_Links_eq f fd) (T : TxtL K C) (m_isinstance : mg "isinstance" = none) (mg_Links : mg "Links" = some (.ref C))
    (ha : PySem.W.findIn K (.ref C) "__class__" = some (some (.builtin "object.__class__"))) (hn : PySem.W.specialIn K (.builtin "object.__class__") "__get__" = some (some (.builtin "getset_descriptor.__get__")))
    (htk : PySem.W.takesIn K (.builtin "object.__class__") = some true) (hm : PySem.W.mroIn K C (.type "object") = some true) : FnOk P w K mg base CX0 1 f fd ["self", "other"] (spEqL K C) := by
  refine F.ok sc_Links_eq (fun vs H Q E h => ?_) (fun cdv A outer s H vs Q E hr h => ?_)
  · obtain ⟨p, y, zs, ts, rfl, _⟩ := h
    rfl
  · obtain ⟨p, y, zs, ts, rfl, tk, ok, h⟩ := h
    obtain ⟨dx, a, b, es, hp, hA, hB, hT⟩ := id tk
    refine ⟨_, (pss_one (ps_ret (pe_and (pe_callB call_isi (by rfl) m_isinstance (by decide +kernel) (pa_cons (pv 1) (pa_cons (pe_glob (v := .ref C) (u := .ref C) (by rfl) mg_Links rfl) pa_nil))) (pe_and (pe_cmpR (op_eqD hr.units) (pe_fld (pv 0) rfl) (pe_fld (pv 1) rfl) (nomark _)) (pe_one (pe_cmpR (op_eqD hr.units) (pe_fld (pv 0) rfl) (pe_fld (pv 1) rfl) (nomark _))))))), ?_⟩
    rcases h with ⟨t, ty, kt, q⟩ | ⟨p', us, ts', rfl, tk', ok', q⟩
    · refine ⟨_, rfl, _, _, _, _, false, rfl, .own C, ty, kt, _, rfl, iteF ?_⟩
      exact q
    · obtain ⟨dx', a', b', es', hp', hA', hB', hT'⟩ := id tk'
      refine ⟨_, rfl, _, _, _, _, true, rfl, .own C, .base (.ins hp' T.cl ha hn htk hm), kit_self, _, rfl, iteT ?_⟩
      obtain ⟨d1, d3, d4⟩ := namesH_dp (K := K) (H := H) ok.ns.nm
      obtain ⟨d1', d3', d4'⟩ := namesH_dp (K := K) (H := H) ok'.ns.nm
      refine ⟨_, rfl, p, C, dx, _, _, rfl, hp, T.cl, T.nN, fldsL_names _ _, _, rfl, p', C, dx', _, _, rfl, hp', T.cl, T.nN, fldsL_names _ _, .tuple _, .tuple _, .tup hA.sq d1, .tup hA'.sq d1', nmT_shape d3 d4, nmT_shape d3' d4', _, rfl, ?_⟩
      rw [eqv_nmT]
      by_cases e : zs = us
      · rw [decide_eq_true e]
        refine iteT ⟨_, rfl, p, C, dx, _, _, rfl, hp, T.cl, T.nL, fldsL_links _ _, _, rfl, p', C, dx', _, _, rfl, hp', T.cl, T.nL, fldsL_links _ _, .tuple _, .tuple _, .tup (tupAt hB) (ties_dp hT), .tup (tupAt hB') (ties_dp hT'), shape_tiesT ok.tn, shape_tiesT ok'.tn, ?_⟩
        rw [eqv_tiesT]
        by_cases e2 : ts = ts'
        · rw [decide_eq_true e2]; rw [decide_eq_true ⟨e, e2⟩] at q; exact q
        · rw [decide_eq_false e2]; rw [decide_eq_false (fun z => e2 z.2)] at q; exact q
      · rw [decide_eq_false e]
        rw [decide_eq_false (fun z => e z.1)] at q
        exact iteF q
/-! Links.tolls -/
def spTollsM (K : PySem.W.Frag) (C CT : Addr) : Sp := fun vs H Q _ => ∃ (p : Addr) (zs : List Nam) (ts : List Tie), vs = [.ref p] ∧ LkAt C H p zs ts ∧ LOk zs ts ∧ ∀ H' r, H r = none → Same H H' → TkAt K CT H' r zs ts → Q (.ref r) H'
theorem ok_Links_tolls {f C CT fI : Addr} {fd fdI : FuncData} (F : Fun K "tolls" "Links.tolls" s_Links_tolls f fd) (T : TxtL K C) (M_Tolls : Mk K CT fI) (G_Tolls : FnOk P w K mg base CX0 3 fI fdI ["self", "names", "entries"] (spInitT K CT)) (mg_Tolls : mg "Tolls" = some (.ref CT)) (b_Tolls : Binds K fdI ["self", "names", "entries"] []) :
    FnOk P w K mg base CX0 5 f fd ["self"] (spTollsM K C CT) := by
  refine F.ok sc_Links_tolls (fun vs H Q E h => ?_) (fun cdv A outer s H vs Q E hr h => ?_)
  · obtain ⟨p, zs, ts, rfl, _⟩ := h
    rfl
  · obtain ⟨p, zs, ts, rfl, ⟨dx, a, b, es, hp, hA, hB, hT⟩, ok, q⟩ := h
    refine ⟨_, (pss_one (ps_ret (pe_make M_Tolls G_Tolls (hr.mono (by decide)) (by rfl) mg_Tolls b_Tolls .nil pass0 (pa_cons (pe_fld (pv 0) rfl) (pa_cons (pe_fld (pv 0) rfl) pa_nil))))), ?_⟩
    refine ⟨_, rfl, p, C, dx, _, _, rfl, hp, T.cl, T.nN, fldsL_names _ _, _, rfl, p, C, dx, _, _, rfl, hp, T.cl, T.nL, fldsL_links _ _, fun r d nr nd dn => ?_⟩
    have s2 := (same_upd (o := .own r) nd).trans (same_upd (H := upd H d (.own r)) (o := .ins CT d []) (by rw [upd_ne (Ne.symm dn)]; exact nr))
    have t12 := ok.t12
    refine ⟨r, a, b, d, zs, es, ts, rfl, upd_same, .inr (hA.same s2), .inr (same_tup s2 (tupAt hB)), hT.same s2, ok.ns, ok.eo, by omega, fun H' tk f => ?_⟩
    exact ⟨rfl, q H' r nr (fun c x e => f c x (s2 _ _ e) (ne_of_none e nr)) tk⟩
end
end TK

/-! pages that are passed; the checks of a book -/
namespace TK
open PySem PySem.Spec PyProof.Rows L2
structure PgD where
  nm : Nam
  bids : List BidD
  fol : List Nam
/-- a page that is passed -/
def PgIn (K : PySem.W.Frag) (H : Hp) (p : Addr) (d : PgD) : Prop := ∃ (b f : Addr) (es : List Addr), H p = some (.tup [vN d.nm, .ref b, .ref f]) ∧ SqL K H b (es.map V.ref) ∧ BidsAt H es d.bids ∧ SqL K H f (d.fol.map vN)
def PgsIn (K : PySem.W.Frag) (H : Hp) (ps : List Addr) (ds : List PgD) : Prop := ps.length = ds.length ∧ ∀ (i : Nat) (p : Addr), ps[i]? = some p → ∃ d, ds[i]? = some d ∧ PgIn K H p d
theorem PgIn.same {K : PySem.W.Frag} {H H' : Hp} {p : Addr} {d : PgD} (h : PgIn K H p d) (s : Same H H') : PgIn K H' p d := by
  obtain ⟨b, f, es, h1, h2, h3, h4⟩ := h
  exact ⟨b, f, es, s _ _ h1, s.seq h2, h3.same s, s.seq h4⟩
theorem PgsIn.same {K : PySem.W.Frag} {H H' : Hp} {ps : List Addr} {ds : List PgD} (h : PgsIn K H ps ds) (s : Same H H') : PgsIn K H' ps ds := ⟨h.1, fun i p e => by
  obtain ⟨d, a, b⟩ := h.2 i p e
  exact ⟨d, a, b.same s⟩⟩
theorem pgs_at {K : PySem.W.Frag} {H : Hp} {ps : List Addr} {ds : List PgD} (h : PgsIn K H ps ds) {i : Nat} {x : V} (hx : (ps.map V.ref)[i]? = some x) : ∃ p d, x = .ref p ∧ ds[i]? = some d ∧ PgIn K H p d := by
  rw [List.getElem?_map] at hx
  obtain ⟨p, hp, rfl⟩ := Option.map_eq_some_iff.mp hx
  obtain ⟨d, a, b⟩ := h.2 i p hp
  exact ⟨p, d, rfl, a, b⟩
/-- right pages of the members -/
structure POk (zs : List Nam) (ds : List PgD) : Prop where
  l1 : 1 ≤ ds.length
  l4 : ds.length ≤ 4
  nm : ∀ d ∈ ds, Nm d.nm
  nd : (ds.map (·.nm)).Nodup
  b : ∀ d ∈ ds, BOk zs d.bids
  bl : ∀ d ∈ ds, d.bids.length < 64
  f : ∀ d ∈ ds, d.fol.Nodup
  fs : ∀ d ∈ ds, ∀ x ∈ d.fol, x ∈ ds.map (·.nm)
  fl : ∀ d ∈ ds, d.fol.length < 64
section
variable {P : Program} {w : World} {K : PySem.W.Frag} {mg : Str → Option Value} {base : Heap}
def spCheckPg (K : PySem.W.Frag) : Sp := fun vs H Q _ => ∃ (a b : Addr) (zs : List Nam) (ps : List Addr) (ds : List PgD), vs = [.ref a, .ref b] ∧ SqL K H a (zs.map vN) ∧ SqL K H b (ps.map V.ref) ∧ PgsIn K H ps ds ∧ POk zs ds ∧ ∀ H', Same H H' → Q .non H'
theorem ok_check_pages {f : Addr} {fd : FuncData} (F : Fun K "_check_pages" "_check_pages" s_check_pages f fd) (m_len : mg "len" = none) (m_enumerate : mg "enumerate" = none) (d_is_name : Def P w K mg base "is_name" 1 ["word"] spIsNameH)
    (d_are_picks : Def P w K mg base "_are_picks" 1 ["picks", "known"] (spArePicks K)) (d_are_bids : Def P w K mg base "_are_bids" 2 ["bids", "members"] (spAreBids K)) : FnOk P w K mg base CX0 3 f fd ["members", "pages"] (spCheckPg K) := by
  refine F.ok sc_check_pages (fun vs H Q E h => ?_) (fun cdv A outer s H vs Q E hr h => ?_)
  · obtain ⟨a, b, zs, ps, ds, rfl, _⟩ := h
    rfl
  · obtain ⟨a, b, zs, ps, ds, rfl, hA, hB, hT, ok, q⟩ := h
    have pl : (ps.map V.ref).length = ds.length := by rw [List.length_map, hT.1]
    have l1 := ok.l1
    have l4 := ok.l4
    refine ⟨_, (pss_cons (ps_if (pt_not (pt_chain op_le op_le pe_int (pe_callB call_len_seq (by rfl) m_len (by decide +kernel) (pa_cons (pv 1) pa_nil)) pe_int)) (pss_one ps_never) pss_nil)
  (pss_cons (ps_setLc (i := 2) (own := [("page", 8)]) (by rfl) sc_check_pages.nd rfl rfl (sw_true rfl rfl rfl (by decide +kernel)) (pi_list (pv 1)) (blkOk_by (N := ["members", "pages", "names", "at", "name", "bids", "_", "followers", "page"]) (sc := defScope s_check_pages) (by decide +kernel)) (fun _ _ _ _ _ => (pg_name (i := 8) sc_check_pages.nd rfl (.inl rfl))) (fun _ _ _ _ _ => pts_nil) (fun _ _ _ _ _ => (pe_ix (ix_tupK (K := K) rfl) (pv 8) pe_int (fun _ _ => rfl))))
  (pss_cons (ps_for PassesOwn.never rfl (pi_enum (by rfl) m_enumerate (pa_cons (pv 1) pa_nil)) (pg_tup (by rfl) (pgs_cons (pg_name (i := 3) sc_check_pages.nd rfl (.inl rfl)) (pgs_cons (pg_tup (by rfl) (pgs_cons (pg_name (i := 4) sc_check_pages.nd rfl (.inl rfl)) (pgs_cons (pg_name (i := 5) sc_check_pages.nd rfl (.inl rfl)) (pgs_cons (pg_name (i := 6) sc_check_pages.nd rfl (.inl rfl)) pgs_nil)))) pgs_nil)))
    (pss_one (ps_if (PW.pt (pw_or (pt_not (pt_val (pe_callD d_is_name (hr.mono (by decide)) (by rfl) (pa_cons (pv 4) pa_nil)))) (pw_or (pt_cmpR op_in_seq (pv 4) (pe_slice sl_list (pv 2) po_none (po_some (pv 3))) (by rfl)) (pw_or1 (pt_not (pt_val (pe_callD d_are_bids (hr.mono (by decide)) (by rfl) (pa_cons (pv 5) (pa_cons (pv 0) pa_nil))))))))) (pss_one ps_never) pss_nil)))
  (pss_one (ps_for PassesOwn.never rfl (pi_enum (by rfl) m_enumerate (pa_cons (pv 1) pa_nil)) (pg_tup (by rfl) (pgs_cons (pg_name (i := 3) sc_check_pages.nd rfl (.inl rfl)) (pgs_cons (pg_tup (by rfl) (pgs_cons (pg_name (i := 6) sc_check_pages.nd rfl (.inl rfl)) (pgs_cons (pg_name (i := 6) sc_check_pages.nd rfl (.inl rfl)) (pgs_cons (pg_name (i := 7) sc_check_pages.nd rfl (.inl rfl)) pgs_nil)))) pgs_nil)))
    (pss_one (ps_if (pt_not (pt_val (pe_callD d_are_picks (hr.mono (by decide)) (by rfl) (pa_cons (pv 7) (pa_cons (pv 2) pa_nil))))) (pss_one ps_never) pss_nil))))))), ?_⟩
    refine ⟨_, rfl, b, _, rfl, .inl hB, _, _, rfl, rfl, _, rfl, ?_⟩
    rw [decide_eq_true (show (1 : Int) ≤ ((ps.map V.ref).length : Nat) by rw [pl]; omega)]
    refine iteT ⟨_, _, rfl, rfl, _, rfl, ?_⟩
    rw [decide_eq_true (show (((ps.map V.ref).length : Nat) : Int) ≤ 4 by rw [pl]; omega)]
    refine iteF ?_
    refine ⟨_, rfl, b, rfl, ⟨_, hB⟩, fun D nD => ?_⟩
    refine lc_list (K := K) (a := b) (xs := ps.map V.ref) (fun i H' => Same H H' ∧ H' D = some (.lst (((ds.map (·.nm)).take i).map vN))) ⟨same_upd nD, upd_same⟩ (fun i H' _ hq => hq.1.seq hB) (fun i v H' hv hq => ?_) (fun H1 hq => ?_)
    · obtain ⟨s1, eD⟩ := hq
      obtain ⟨p, d, rfl, ed, ⟨b1, f1, es, he, _⟩⟩ := pgs_at (hT.same s1) hv
      have hi := (List.getElem?_eq_some_iff.mp ed).1
      refine ⟨rfl, yesT ⟨_, rfl, _, _, 0, vN d.nm, rfl, rfl, tupAt he, atI_in (by decide) rfl, _, eD, by rw [List.length_map, List.length_take, List.length_map]; exact small1000 (by omega), same_at s1 nD, ?_⟩⟩
      rw [List.take_add_one, List.getElem?_map, ed, List.map_append]
      exact upd_same
    obtain ⟨s1, eD⟩ := hq
    rw [pl, show ds.length = (ds.map (·.nm)).length from (List.length_map ..).symm, List.take_length] at eD
    refine ⟨_, rfl, _, _, rfl, s1.seq hB, for_it walk_enum (fun i σ H2 => Same H1 H2 ∧ ∃ y3 y4 y5 y6 y7 : Option V, σ = [some (.ref a), some (.ref b), some (.ref D), y3, y4, y5, y6, y7, none]) ⟨Same.refl _, _, _, _, _, _, rfl⟩ (fun i σ H2 _ hp => (s1.trans hp.1).seq hB) ?_ ?_⟩
    · rintro i x σ H2 H3 hi ⟨s2, y3, y4, y5, y6, y7, rfl⟩ ⟨T, v1, v2, rfl, nT, rfl, e1, e2⟩
      cases e1
      have s12 := s1.trans s2
      obtain ⟨p, d, rfl, ed, ⟨b1, f1, es, he, hb, hbs, hf⟩⟩ := pgs_at (hT.same s12) e2
      have md := List.mem_of_getElem? ed
      have sT := same_upd (o := .tup [.int (i : Nat), .ref p]) nT
      have sm := s12.trans sT
      refine ⟨_, _, rfl, tupAt upd_same, rfl, _, _, rfl, _, _, rfl, _, _, rfl, tupAt (sT _ _ he), rfl, _, _, rfl, _, _, rfl, _, _, rfl, rfl, rfl, ?_⟩
      refine ⟨_, rfl, d.nm, rfl, .inl (ok.nm d md), fun H4 s4 => ⟨_, rfl, ?_⟩⟩
      have sm4 := sm.trans s4
      rw [nz_nm (ok.nm d md)]
      refine iteF ?_
      refine ⟨_, rfl, _, rfl, _, rfl, _, rfl, _, _, rfl, lstAt (s4 _ _ (sT _ _ (s2 _ _ eD))), fun q2 nq2 => ?_⟩
      rw [cut_names]
      have s5 := same_upd (o := .lst (((ds.map (·.nm)).take i).map vN)) nq2
      have sm5 := sm4.trans s5
      refine ⟨q2, _, rfl, .inl (lstAt upd_same), rfl, nms_flat _, _, rfl, ?_⟩
      rw [in_nm, decide_eq_false (not_before ok.nd (by rw [List.getElem?_map, ed]; rfl))]
      refine iteF ?_
      have t3 : Same H2 (upd H4 q2 (.lst (((ds.map (·.nm)).take i).map vN))) := sT.trans (s4.trans s5)
      refine ⟨_, rfl, _, rfl, b1, a, zs, es, d.bids, rfl, t3.seq hb, hbs.same t3, .inl (sm5.seq hA), ok.b d md, ok.bl d md, fun H6 s6 => ⟨_, rfl, iteF ⟨s2.trans (t3.trans s6), _, _, _, _, _, rfl⟩⟩⟩
    · rintro σ H2 ⟨s2, y3, y4, y5, y6, y7, rfl⟩
      have s12 := s1.trans s2
      refine ⟨_, rfl, _, _, rfl, s12.seq hB, for_it walk_enum (fun i σ H3 => Same H2 H3 ∧ ∃ y3 y6 y7 : Option V, σ = [some (.ref a), some (.ref b), some (.ref D), y3, y4, y5, y6, y7, none]) ⟨Same.refl _, _, _, _, rfl⟩ (fun i σ H3 _ hp => (s12.trans hp.1).seq hB) ?_ ?_⟩
      · rintro i x σ H3 H4 hi ⟨s3, y3, y6, y7, rfl⟩ ⟨T, v1, v2, rfl, nT, rfl, e1, e2⟩
        cases e1
        have s13 := s12.trans s3
        obtain ⟨p, d, rfl, ed, ⟨b1, f1, es, he, hb, hbs, hf⟩⟩ := pgs_at (hT.same s13) e2
        have md := List.mem_of_getElem? ed
        have sT := same_upd (o := .tup [.int (i : Nat), .ref p]) nT
        refine ⟨_, _, rfl, tupAt upd_same, rfl, _, _, rfl, _, _, rfl, _, _, rfl, tupAt (sT _ _ he), rfl, _, _, rfl, _, _, rfl, _, _, rfl, rfl, rfl, ?_⟩
        refine ⟨_, rfl, _, rfl, f1, D, d.fol, ds.map (·.nm), rfl, sT.seq hf, .inl (lstAt (sT _ _ (s3 _ _ (s2 _ _ eD)))), ok.f d md, ok.fs d md, ok.fl d md, fun H5 s5 => ⟨_, rfl, iteF ⟨s3.trans (sT.trans s5), _, _, _, rfl⟩⟩⟩
      · rintro σ H3 ⟨s3, y3, y6, y7, rfl⟩
        exact q _ (s12.trans s3)
def spEnds (K : PySem.W.Frag) : Sp := fun vs H Q _ => ∃ (a b c : Addr) (ns ss hs : List Nam), vs = [.ref a, .ref b, .ref c] ∧ SqS K H a (ns.map vN) ∧ SqL K H b (ss.map vN) ∧ SqL K H c (hs.map vN) ∧ ss ≠ [] ∧ ss.Nodup ∧ (∀ x ∈ ss, x ∈ ns) ∧ hs.Nodup ∧ (∀ x ∈ hs, x ∈ ns) ∧ ns.length < 64 ∧ ∀ H', Same H H' → Q .non H'
theorem ok_check_ends {f : Addr} {fd : FuncData} (F : Fun K "_check_ends" "_check_ends" s_check_ends f fd) (m_len : mg "len" = none) (d_are_picks : Def P w K mg base "_are_picks" 1 ["picks", "known"] (spArePicks K)) : FnOk P w K mg base CX0 2 f fd ["names", "starts", "home"] (spEnds K) := by
  refine F.ok sc_check_ends (fun vs H Q E h => ?_) (fun cdv A outer s H vs Q E hr h => ?_)
  · obtain ⟨a, b, c, ns, ss, hs, rfl, _⟩ := h
    rfl
  · obtain ⟨a, b, c, ns, ss, hs, rfl, hA, hB, hC, ne, nd1, su1, nd2, su2, l64, q⟩ := h
    refine ⟨_, (pss_cons (ps_if (PW.pt (pw_or (pt_cmpR op_eq (pe_callB call_len_seq (by rfl) m_len (by decide +kernel) (pa_cons (pv 1) pa_nil)) pe_int (nomark _)) (pw_or1 (pt_not (pt_val (pe_callD d_are_picks (hr.mono (by decide)) (by rfl) (pa_cons (pv 1) (pa_cons (pv 0) pa_nil)))))))) (pss_one ps_never) pss_nil)
  (pss_one (ps_if (pt_not (pt_val (pe_callD d_are_picks (hr.mono (by decide)) (by rfl) (pa_cons (pv 2) (pa_cons (pv 0) pa_nil))))) (pss_one ps_never) pss_nil))), ?_⟩
    have sl : (ss.map vN).length ≠ 0 := fun e => ne (List.eq_nil_of_length_eq_zero (by rw [List.length_map] at e; exact e))
    refine ⟨_, rfl, b, _, rfl, .inl hB, rfl, _, rfl, ?_⟩
    rw [decide_eq_false (show ¬ V.int (((ss.map vN).length : Nat) : Int) = V.int 0 from fun e => sl (by have := V.int.inj e; omega))]
    refine iteF ?_
    refine ⟨_, rfl, _, rfl, b, a, ss, ns, rfl, hB, hA, nd1, su1, Nat.lt_of_le_of_lt (nd_lenK nd1 su1) l64, fun H1 s1 => ⟨_, rfl, iteF ?_⟩⟩
    exact ⟨_, rfl, _, rfl, c, a, hs, ns, rfl, s1.seq hC, hA.same s1, nd2, su2, Nat.lt_of_le_of_lt (nd_lenK nd2 su2) l64, fun H2 s2 => ⟨_, rfl, iteF (q _ (s1.trans s2))⟩⟩
end
end TK

namespace TK
open PySem PySem.Spec PyProof.Rows L2
section
variable {X : Cx}
/-- x is not True, x is not False: x a bool -/
theorem op_notBl : OpR X (compareOp .IsNot) (fun x y H Q => ∃ a b : Bool, x = .bl a ∧ y = .bl b ∧ Q (.bl (!decide (a = b))) H) := by
  intro pins s σ H x y v u Q I rx ry h
  obtain ⟨a, b, rfl, rfl, q⟩ := h
  cases (show v = Value.bool a from rx)
  cases (show u = Value.bool b from ry)
  by_cases e : a = b
  · subst e
    exact wpAny_isNot_self rfl ⟨.bl false, H, I, rfl, by simpa using q⟩
  · exact wpAny_isNot_other rfl (fun z => e (Value.bool.inj z)) ⟨.bl true, H, I, rfl, by simpa [e] using q⟩
end
/-! the same prices of other entries -/
theorem leastE_ext {ts us : List Tie} {x y : Nam} (h : ∀ u, u ∈ valsE ts x y ↔ u ∈ valsE us x y) : leastE ts x y = leastE us x y := by
  cases e1 : leastE ts x y with
  | none =>
    cases e2 : leastE us x y with
    | none => rfl
    | some m =>
      have := (h m).mpr (leastE_some e2).1
      rw [leastE_none e1] at this
      cases this
  | some m =>
    obtain ⟨a1, a2⟩ := leastE_some e1
    cases e2 : leastE us x y with
    | none =>
      have := (h m).mp a1
      rw [leastE_none e2] at this
      cases this
    | some k =>
      obtain ⟨b1, b2⟩ := leastE_some e2
      have l1 := a2 k ((h k).mpr b1)
      have l2 := b2 m ((h m).mp a1)
      rw [Int.le_antisymm l1 l2]
theorem vals_mem {ts : List Tie} {x y : Nam} {u : Int} : u ∈ valsE ts x y ↔ (x, y, u) ∈ ts := by
  unfold valsE
  constructor
  · intro h
    obtain ⟨t, ht, rfl⟩ := List.mem_map.mp h
    obtain ⟨h1, h2⟩ := List.mem_filter.mp ht
    obtain ⟨rfl, rfl⟩ := of_decide_eq_true h2
    exact h1
  · intro h
    exact List.mem_map.mpr ⟨(x, y, u), List.mem_filter.mpr ⟨h, decide_eq_true ⟨rfl, rfl⟩⟩, rfl⟩
theorem least_rev {ts : List Tie} (x y : Nam) : leastE ts x y = leastE ts.reverse x y := leastE_ext fun u => by rw [vals_mem, vals_mem, List.mem_reverse]
theorem listE_mem {zs : List Nam} {ts : List Tie} {x y : Nam} {u : Int} : (x, y, u) ∈ listE zs ts ↔ x ∈ zs ∧ y ∈ zs ∧ leastE ts x y = some u := by
  unfold listE
  constructor
  · intro h
    obtain ⟨x', hx, h⟩ := List.mem_flatMap.mp h
    obtain ⟨y', hy, h⟩ := List.mem_filterMap.mp h
    unfold cellE at h
    obtain ⟨v, hv, e⟩ := Option.map_eq_some_iff.mp h
    cases e
    exact ⟨hx, hy, hv⟩
  · rintro ⟨hx, hy, e⟩
    exact List.mem_flatMap.mpr ⟨x, hx, List.mem_filterMap.mpr ⟨y, hy, by unfold cellE; rw [e]; rfl⟩⟩
theorem least_in {zs : List Nam} {ts : List Tie} (ok : EOk zs ts) {x y : Nam} {u : Int} (h : leastE ts x y = some u) : x ∈ zs ∧ y ∈ zs ∧ 0 ≤ u := by
  have := vals_mem.mp (leastE_some h).1
  exact ⟨ok.a _ this, ok.b _ this, ok.h0 _ this⟩
theorem least_list {zs : List Nam} {ts : List Tie} (ok : EOk zs ts) (x y : Nam) : leastE ts x y = leastE (listE zs ts) x y := by
  cases e : leastE ts x y with
  | none =>
    cases e2 : leastE (listE zs ts) x y with
    | none => rfl
    | some m =>
      have := (listE_mem.mp (vals_mem.mp (leastE_some e2).1)).2.2
      rw [e] at this
      cases this
  | some m =>
    obtain ⟨hx, hy, _⟩ := least_in ok e
    have hm : m ∈ valsE (listE zs ts) x y := vals_mem.mpr (listE_mem.mpr ⟨hx, hy, e⟩)
    cases e2 : leastE (listE zs ts) x y with
    | none => rw [leastE_none e2] at hm; cases hm
    | some k =>
      have := (listE_mem.mp (vals_mem.mp (leastE_some e2).1)).2.2
      rw [e] at this
      exact this
theorem listE_ok {zs : List Nam} {ts : List Tie} (ok : EOk zs ts) : EOk zs (listE zs ts) :=
  ⟨fun t m => ((listE_mem (x := t.1) (y := t.2.1) (u := t.2.2)).mp m).1, fun t m => ((listE_mem (x := t.1) (y := t.2.1) (u := t.2.2)).mp m).2.1, fun t m => (least_in ok ((listE_mem (x := t.1) (y := t.2.1) (u := t.2.2)).mp m).2.2).2.2⟩
theorem EOk.rev {zs : List Nam} {ts : List Tie} (ok : EOk zs ts) : EOk zs ts.reverse := ⟨fun t m => ok.a t (List.mem_reverse.mp m), fun t m => ok.b t (List.mem_reverse.mp m), fun t m => ok.h0 t (List.mem_reverse.mp m)⟩
theorem TiesAt.rev {H : Hp} {es : List Addr} {ts : List Tie} (h : TiesAt H es ts) : TiesAt H es.reverse ts.reverse := by
  refine ⟨by rw [List.length_reverse, List.length_reverse, h.1], fun i e he => ?_⟩
  have hi := (List.getElem?_eq_some_iff.mp he).1
  rw [List.length_reverse] at hi
  rw [List.getElem?_reverse hi] at he
  obtain ⟨t, h1, h2⟩ := h.2 _ e he
  exact ⟨t, by rw [List.getElem?_reverse (by rw [← h.1]; exact hi), ← h.1]; exact h1, h2⟩
theorem TkAt.wrote {K : PySem.W.Frag} {C : Addr} {H : Hp} {p D : Addr} {zs : List Nam} {ts : List Tie} {xs : List V} {o : HO} (h : TkAt K C H p zs ts) (e : H D = some (.lst xs)) : TkAt K C (upd H D o) p zs ts := by
  obtain ⟨dx, a, d, kvs, h1, h2, h3, h4, h5⟩ := h
  refine ⟨dx, a, d, kvs, ?_, ?_, ?_, h4, h5⟩
  · rw [upd_ne (ne_of h1 e (by intro z; cases z))]; exact h1
  · rcases h2 with h2 | ⟨ob, h2⟩
    · exact .inl (by rw [upd_ne (ne_of h2 e (by intro z; cases z))]; exact h2)
    · exact .inr ⟨ob, by rw [upd_ne (ne_of h2 e (by intro z; cases z))]; exact h2⟩
  · rw [upd_ne (ne_of h3 e (by intro z; cases z))]; exact h3
/-- a table is made -/
theorem make_go {K : PySem.W.Frag} {C : Addr} {H : Hp} {x dx a b : Addr} {zs : List Nam} {es : List Addr} {ts : List Tie} {R : Hp → Prop} {E : XK} (n1 : H x = none) (n2 : H dx = none) (ne : dx ≠ x) (hA : SqL K H a (zs.map vN) ∨ TL H a (zs.map vN)) (hB : SqS K H b (es.map V.ref)) (hT : TiesAt H es ts) (nok : NsOk zs) (eok : EOk zs ts) (l4 : ts.length ≤ 10000)
    (k : ∀ H', TkAt K C H' x zs ts → Same H H' → R H') : spInitT K C [.ref x, .ref a, .ref b] (upd (upd H dx (.own x)) x (.ins C dx [])) (fun v H2 => v = .non ∧ R H2) E := by
  have sdx := same_upd (o := .own x) n2
  have nmm : (upd H dx (.own x)) x = none := by rw [upd_ne ne.symm]; exact n1
  have sm := sdx.trans (same_upd (o := .ins C dx []) nmm)
  exact ⟨x, a, b, dx, zs, es, ts, rfl, upd_same, hA.elim (fun h => .inl (sm.seq h)) (fun h => .inr (h.same sm)), hB.same sm, hT.same sm, nok, eok, l4, fun H' tk fr => ⟨rfl, k H' tk fun c o e => fr c o (sm _ _ e) (ne_of_none e n1)⟩⟩
theorem TiesAt.app {H : Hp} {es fs : List Addr} {ts us : List Tie} (h : TiesAt H es ts) (k : TiesAt H fs us) : TiesAt H (es ++ fs) (ts ++ us) := by
  refine ⟨by rw [List.length_append, List.length_append, h.1, k.1], fun i e he => ?_⟩
  by_cases hi : i < es.length
  · rw [List.getElem?_append_left hi] at he
    obtain ⟨t, h1, h2⟩ := h.2 i e he
    exact ⟨t, by rw [List.getElem?_append_left (by rw [← h.1]; exact hi)]; exact h1, h2⟩
  · rw [List.getElem?_append_right (by omega)] at he
    obtain ⟨t, h1, h2⟩ := k.2 _ e he
    exact ⟨t, by rw [List.getElem?_append_right (by rw [← h.1]; omega), ← h.1]; exact h1, h2⟩
theorem ixN_zero {n : Nat} (h : 0 < n) : ixN n 0 = some 0 := by
  unfold ixN
  rw [if_pos (Int.le_refl 0), if_pos (by omega)]
  rfl
theorem eq_flatL {H : Hp} {t u : Addr} {xs : List V} (h1 : H t = some (.lst xs)) (h2 : H u = some (.lst xs)) (hl : xs.length ≤ 1000) (fl : ∀ x ∈ xs, flat1 x = true) (n : Nat) : Eq2 H (n + 1) (.ref t) (.ref u) := by
  refine .inr ⟨t, u, _, _, rfl, rfl, .inl ⟨h1, h2⟩, rfl, by omega, fun i x y hx hy => ?_⟩
  rw [hx] at hy
  have e := Option.some.inj hy
  have f := fl x (List.mem_of_getElem? hx)
  cases n with
  | zero => exact ⟨e, f⟩
  | succ n => exact .inl ⟨e, f⟩
theorem cut_from_l (xs : List V) (i : Nat) : cutV xs (some ((i : Nat) : Int)) none = xs.drop i := by
  unfold cutV
  rw [HT.sIx_nat]
  have e : HT.sIx xs.length xs.length none = xs.length := rfl
  rw [e]
  by_cases h : i ≤ xs.length
  · rw [Nat.min_eq_left h, List.take_of_length_le (by rw [List.length_drop]; exact Nat.le_refl _)]
  · rw [Nat.min_eq_right (by omega), List.drop_length, List.drop_of_length_le (by omega), List.take_nil]
theorem TiesAt.wrote {H : Hp} {D : Addr} {es : List Addr} {ts : List Tie} {xs : List V} {o : HO} (h : TiesAt H es ts) (e : H D = some (.lst xs)) : TiesAt (upd H D o) es ts := ⟨h.1, fun i a ha => by
  obtain ⟨t, h1, h2⟩ := h.2 i a ha
  exact ⟨t, h1, by show _ = _; rw [upd_ne (ne_of h2 e (by intro z; cases z))]; exact h2⟩⟩
theorem EW.cat {H0 H H1 : Hp} {D q : Addr} {zs : List Nam} {es fs : List Addr} {ts us : List Tie} (h : EW H0 H D zs es ts) (n : H0 D = none) (k : EW H H1 q zs fs us) : EW H0 (upd H1 D (.lst (es.map V.ref ++ fs.map V.ref))) D zs (es ++ fs) (ts ++ us) :=
  ⟨same_at (h.s.trans k.s) n, by rw [List.map_append]; exact upd_same, ((h.t.same k.s).app k.t).wrote (k.s _ _ h.d), h.o.app k.o⟩
theorem last_at {zs : List Nam} (h : 1 ≤ zs.length) : ∃ z, atI (zs.map vN) (-1) = some (vN z) := by
  have hl : zs.length - 1 < zs.length := by omega
  refine ⟨zs[zs.length - 1], ?_⟩
  unfold atI ixN
  rw [if_neg (by decide), if_pos (by rw [List.length_map]; omega)]
  show (zs.map vN)[((-1 : Int) + ((zs.map vN).length : Nat)).toNat]? = _
  rw [List.length_map, show ((-1 : Int) + (zs.length : Nat)).toNat = zs.length - 1 by omega, List.getElem?_map, List.getElem?_eq_getElem hl]
  rfl
theorem first_at {zs : List Nam} (h : 1 ≤ zs.length) : ∃ z, atI (zs.map vN) 0 = some (vN z) := by
  refine ⟨zs[0], atI_in (by decide) ?_⟩
  rw [show (0 : Int).toNat = 0 from rfl, List.getElem?_map, List.getElem?_eq_getElem (show 0 < zs.length by omega)]
  rfl
theorem eq_pass {H : Hp} {L M l1 l2 c D : Addr} {zs : List Nam} {es : List Addr} {ts : List Tie} (hL : H L = some (.lst [V.ref l1, .ref l2])) (hM : H M = some (.lst [V.ref c, .ref D])) (h1 : H l1 = some (.lst (zs.map vN))) (h2 : H c = some (.lst (zs.map vN))) (h3 : H l2 = some (.lst (es.map V.ref))) (h4 : H D = some (.lst (es.map V.ref))) (hT : TiesAt H es ts) (z6 : zs.length ≤ 6) (l4 : es.length ≤ 10000) : Eq2 H 3 (.ref L) (.ref M) := by
  refine .inr ⟨L, M, _, _, rfl, rfl, .inl ⟨hL, hM⟩, rfl, (show (2 : Nat) < 2 ^ 40 by decide), fun i x y hx hy => ?_⟩
  match i, hx, hy with
  | 0, hx, hy =>
    cases Option.some.inj hx; cases Option.some.inj hy
    exact eq_flatL h1 h2 (by rw [List.length_map]; omega) fl_nm 1
  | 1, hx, hy =>
    cases Option.some.inj hx; cases Option.some.inj hy
    exact eq_tiesL h3 h4 hT hT l4
  | i + 2, hx, _ => simp at hx
end TK

namespace TK
open PySem PySem.Spec PyProof.Rows L2
/-! least of a set of numbers, or none -/
def IsMin (o : Option Int) (S : Int → Prop) : Prop := (∀ m, o = some m → S m ∧ ∀ v, S v → m ≤ v) ∧ (o = none → ∀ v, ¬ S v)
theorem IsMin.uniq {o p : Option Int} {S : Int → Prop} (h : IsMin o S) (k : IsMin p S) : o = p := by
  cases o with
  | none =>
    cases p with
    | none => rfl
    | some m => exact absurd (k.1 m rfl).1 (h.2 rfl m)
  | some n =>
    cases p with
    | none => exact absurd (h.1 n rfl).1 (k.2 rfl n)
    | some m => exact congrArg some (Int.le_antisymm ((h.1 n rfl).2 _ (k.1 m rfl).1) ((k.1 m rfl).2 _ (h.1 n rfl).1))
theorem IsMin.congr {o : Option Int} {S T : Int → Prop} (h : IsMin o S) (e : ∀ v, S v ↔ T v) : IsMin o T :=
  ⟨fun m hm => ⟨(e m).mp (h.1 m hm).1, fun v hv => (h.1 m hm).2 v ((e v).mpr hv)⟩, fun hn v hv => h.2 hn v ((e v).mpr hv)⟩
/-- a larger set that is not below -/
theorem IsMin.dom {o : Option Int} {S T : Int → Prop} (h : IsMin o S) (a : ∀ v, S v → T v) (b : ∀ v, T v → ∃ v', S v' ∧ v' ≤ v) : IsMin o T := by
  refine ⟨fun m hm => ⟨a m (h.1 m hm).1, fun v hv => ?_⟩, fun hn v hv => ?_⟩
  · obtain ⟨v', h1, h2⟩ := b v hv
    exact Int.le_trans ((h.1 m hm).2 v' h1) h2
  · obtain ⟨v', h1, _⟩ := b v hv
    exact h.2 hn v' h1
theorem IsMin.ex {o : Option Int} {S : Int → Prop} (h : IsMin o S) {v : Int} (hv : S v) : ∃ m, o = some m ∧ S m ∧ m ≤ v := by
  cases o with
  | none => exact absurd hv (h.2 rfl v)
  | some m => exact ⟨m, rfl, (h.1 m rfl).1, (h.1 m rfl).2 v hv⟩
theorem leastE_min (ts : List Tie) (x y : Nam) : IsMin (leastE ts x y) fun u => (x, y, u) ∈ ts := by
  refine ⟨fun m hm => ?_, fun hn v hv => ?_⟩
  · obtain ⟨h1, h2⟩ := leastE_some hm
    exact ⟨vals_mem.mp h1, fun v hv => h2 v (vals_mem.mpr hv)⟩
  · have := vals_mem.mpr hv
    rw [leastE_none hn] at this
    cases this
/-! prices between names -/
abbrev Pr := Nam → Nam → Option Int
def FOk (zs : List Nam) (f : Pr) : Prop := ∀ x y v, f x y = some v → x ∈ zs ∧ y ∈ zs ∧ 0 ≤ v
/-- so many steps -/
def Wk (zs : List Nam) (f : Pr) : Nat → Nam → Nam → Int → Prop
  | 0, x, y, v => x = y ∧ x ∈ zs ∧ v = 0
  | k + 1, x, y, v => ∃ m u w, Wk zs f k x m u ∧ f m y = some w ∧ v = u + w
theorem Wk.ends {zs : List Nam} {f : Pr} (ok : FOk zs f) : ∀ {k : Nat} {x y : Nam} {v : Int}, Wk zs f k x y v → x ∈ zs ∧ y ∈ zs ∧ 0 ≤ v
  | 0, x, y, v, h => ⟨h.2.1, h.1 ▸ h.2.1, by rw [h.2.2]; exact Int.le_refl _⟩
  | k + 1, x, y, v, h => by
    obtain ⟨m, u, w, h1, h2, rfl⟩ := h
    obtain ⟨a, _, c⟩ := Wk.ends ok h1
    obtain ⟨_, e, g⟩ := ok _ _ _ h2
    exact ⟨a, e, by omega⟩
theorem Wk.cat {zs : List Nam} {f : Pr} {a : Nat} {x m : Nam} {u : Int} (h : Wk zs f a x m u) : ∀ {b : Nat} {y : Nam} {w : Int}, Wk zs f b m y w → Wk zs f (a + b) x y (u + w)
  | 0, y, w, k => by
    obtain ⟨rfl, _, rfl⟩ := k
    rw [Int.add_zero]
    exact h
  | b + 1, y, w, k => by
    obtain ⟨n, p, q, k1, k2, rfl⟩ := k
    exact ⟨n, u + p, q, h.cat k1, k2, by omega⟩
theorem Wk.cut {zs : List Nam} {f : Pr} (ok : FOk zs f) {a : Nat} {x : Nam} : ∀ {b : Nat} {y : Nam} {v : Int}, Wk zs f (a + b) x y v → ∃ m u w, Wk zs f a x m u ∧ Wk zs f b m y w ∧ v = u + w
  | 0, y, v, h => ⟨y, v, 0, h, ⟨rfl, (Wk.ends ok h).2.1, rfl⟩, by omega⟩
  | b + 1, y, v, h => by
    obtain ⟨m, u, w, h1, h2, rfl⟩ := h
    obtain ⟨n, p, q, k1, k2, rfl⟩ := Wk.cut ok h1
    exact ⟨n, p, q + w, k1, ⟨m, q, w, k2, h2, rfl⟩, by omega⟩
/-- the set of the sums over one name between -/
def Sum2 (S T : Nam → Nam → Int → Prop) (x y : Nam) (v : Int) : Prop := ∃ m u w, S x m u ∧ T m y w ∧ v = u + w
/-- the product of two tables of least numbers is that of the sums -/
theorem min_mul {S T : Nam → Nam → Int → Prop} {f g : Pr} (hf : ∀ x y, IsMin (f x y) (S x y)) (hg : ∀ x y, IsMin (g x y) (T x y)) {o : Option Int} {x y : Nam} (h : IsMin o (Sum2 (fun x m u => f x m = some u) (fun m y w => g m y = some w) x y)) : IsMin o (Sum2 S T x y) := by
  refine h.dom ?_ ?_
  · rintro v ⟨m, u, w, h1, h2, rfl⟩
    exact ⟨m, u, w, ((hf x m).1 u h1).1, ((hg m y).1 w h2).1, rfl⟩
  · rintro v ⟨m, u, w, h1, h2, rfl⟩
    obtain ⟨u', e1, _, l1⟩ := (hf x m).ex h1
    obtain ⟨w', e2, _, l2⟩ := (hg m y).ex h2
    exact ⟨u' + w', ⟨m, u', w', e1, e2, rfl⟩, by omega⟩
theorem min_or {S T : Int → Prop} {p q o : Option Int} (hp : IsMin p S) (hq : IsMin q T) (h : IsMin o fun v => p = some v ∨ q = some v) : IsMin o fun v => S v ∨ T v := by
  refine h.dom ?_ ?_
  · rintro v (e | e)
    · exact .inl (hp.1 v e).1
    · exact .inr (hq.1 v e).1
  · rintro v (e | e)
    · obtain ⟨m, e1, _, l⟩ := hp.ex e
      exact ⟨m, .inl e1, l⟩
    · obtain ⟨m, e1, _, l⟩ := hq.ex e
      exact ⟨m, .inr e1, l⟩
theorem min_self (o : Option Int) : IsMin o fun v => o = some v := ⟨fun m hm => ⟨hm, fun v hv => by rw [hm] at hv; exact Int.le_of_eq (Option.some.inj hv)⟩, fun hn v hv => by rw [hn] at hv; cases hv⟩
/-- at most so many steps; any number of them -/
def Up (zs : List Nam) (f : Pr) (n : Nat) (x y : Nam) (v : Int) : Prop := ∃ k, k ≤ n ∧ Wk zs f k x y v
def Any (zs : List Nam) (f : Pr) (x y : Nam) (v : Int) : Prop := ∃ k, Wk zs f k x y v
theorem up_sum {zs : List Nam} {f : Pr} (ok : FOk zs f) (a b : Nat) (x y : Nam) (v : Int) : Sum2 (Up zs f a) (Up zs f b) x y v ↔ Up zs f (a + b) x y v := by
  constructor
  · rintro ⟨m, u, w, ⟨i, hi, h1⟩, ⟨j, hj, h2⟩, rfl⟩
    exact ⟨i + j, by omega, h1.cat h2⟩
  · rintro ⟨k, hk, h⟩
    by_cases ha : k ≤ a
    · exact ⟨y, v, 0, ⟨k, ha, h⟩, ⟨0, Nat.zero_le _, rfl, (Wk.ends ok h).2.1, rfl⟩, by omega⟩
    · rw [show k = a + (k - a) by omega] at h
      obtain ⟨m, u, w, h1, h2, rfl⟩ := Wk.cut ok h
      exact ⟨m, u, w, ⟨a, Nat.le_refl _, h1⟩, ⟨k - a, by omega, h2⟩, rfl⟩
theorem wk_sum {zs : List Nam} {f : Pr} (ok : FOk zs f) (a b : Nat) (x y : Nam) (v : Int) : Sum2 (Wk zs f a) (Wk zs f b) x y v ↔ Wk zs f (a + b) x y v :=
  ⟨fun ⟨_, _, _, h1, h2, e⟩ => e ▸ h1.cat h2, fun h => Wk.cut ok h⟩
theorem any_sum {zs : List Nam} {f : Pr} (ok : FOk zs f) (x y : Nam) (v : Int) : Sum2 (Any zs f) (Any zs f) x y v ↔ Any zs f x y v := by
  constructor
  · rintro ⟨m, u, w, ⟨i, h1⟩, ⟨j, h2⟩, rfl⟩
    exact ⟨i + j, h1.cat h2⟩
  · rintro ⟨k, h⟩
    exact ⟨y, v, 0, ⟨k, h⟩, ⟨0, rfl, (Wk.ends ok h).2.1, rfl⟩, by omega⟩
/-! no name twice is enough -/
inductive Pt (zs : List Nam) (f : Pr) (x : Nam) : List Nam → Int → Prop
  | one : x ∈ zs → Pt zs f x [x] 0
  | step {y m : Nam} {r : List Nam} {u w : Int} : Pt zs f x (m :: r) u → f m y = some w → Pt zs f x (y :: m :: r) (u + w)
theorem Pt.wk {zs : List Nam} {f : Pr} {x : Nam} {l : List Nam} {v : Int} (h : Pt zs f x l v) : ∀ {y r}, l = y :: r → Wk zs f r.length x y v := by
  induction h with
  | one hx =>
    rintro y r e
    cases e
    exact ⟨rfl, hx, rfl⟩
  | step h1 h2 ih =>
    rintro y r e
    cases e
    exact ⟨_, _, _, ih rfl, h2, rfl⟩
theorem Wk.pt {zs : List Nam} {f : Pr} {x : Nam} : ∀ {k : Nat} {y : Nam} {v : Int}, Wk zs f k x y v → ∃ r, r.length = k ∧ Pt zs f x (y :: r) v
  | 0, y, v, h => by
    obtain ⟨rfl, hx, rfl⟩ := h
    exact ⟨[], rfl, .one hx⟩
  | k + 1, y, v, h => by
    obtain ⟨m, u, w, h1, h2, rfl⟩ := h
    obtain ⟨r, e, p⟩ := Wk.pt h1
    exact ⟨m :: r, by rw [List.length_cons, e], .step p h2⟩
theorem Pt.pos {zs : List Nam} {f : Pr} (ok : FOk zs f) {x : Nam} {l : List Nam} {v : Int} (h : Pt zs f x l v) : 0 ≤ v ∧ ∀ z ∈ l, z ∈ zs := by
  induction h with
  | one hx => exact ⟨Int.le_refl _, fun z hz => by rw [List.mem_singleton.mp hz]; exact hx⟩
  | step h1 h2 ih =>
    obtain ⟨_, e, g⟩ := ok _ _ _ h2
    refine ⟨by have := ih.1; omega, fun z hz => ?_⟩
    rcases List.mem_cons.mp hz with rfl | hz
    · exact e
    · exact ih.2 z hz
theorem Pt.suffix {zs : List Nam} {f : Pr} (ok : FOk zs f) {x y : Nam} {l : List Nam} {v : Int} (h : Pt zs f x l v) : y ∈ l → l.Nodup → ∃ r u, Pt zs f x (y :: r) u ∧ u ≤ v ∧ (y :: r).Nodup := by
  induction h with
  | one hx =>
    intro hy hn
    rw [List.mem_singleton.mp hy]
    exact ⟨[], 0, .one hx, Int.le_refl _, hn⟩
  | @step y0 m r u w h1 h2 ih =>
    intro hy hn
    rcases List.mem_cons.mp hy with rfl | hy
    · exact ⟨m :: r, u + w, .step h1 h2, Int.le_refl _, hn⟩
    · obtain ⟨r', u', p, l, n⟩ := ih hy (List.nodup_cons.mp hn).2
      have := (ok _ _ _ h2).2.2
      exact ⟨r', u', p, by omega, n⟩
theorem Pt.short {zs : List Nam} {f : Pr} (ok : FOk zs f) {x : Nam} {l : List Nam} {v : Int} (h : Pt zs f x l v) : ∀ {y r}, l = y :: r → ∃ r' u, Pt zs f x (y :: r') u ∧ u ≤ v ∧ (y :: r').Nodup := by
  induction h with
  | one hx =>
    rintro y r e
    cases e
    exact ⟨[], 0, .one hx, Int.le_refl _, by simp⟩
  | @step y0 m r u w h1 h2 ih =>
    rintro y r' e
    cases e
    obtain ⟨r', u', p, l, n⟩ := ih rfl
    have hw := (ok _ _ _ h2).2.2
    by_cases hy : y0 ∈ m :: r'
    · obtain ⟨r2, u2, p2, l2, n2⟩ := p.suffix ok hy n
      exact ⟨r2, u2, p2, by omega, n2⟩
    · exact ⟨m :: r', u' + w, .step p h2, by omega, List.nodup_cons.mpr ⟨hy, n⟩⟩
theorem Wk.short {zs : List Nam} {f : Pr} (ok : FOk zs f) {k : Nat} {x y : Nam} {v : Int} (h : Wk zs f k x y v) : ∃ j u, j + 1 ≤ zs.length ∧ Wk zs f j x y u ∧ u ≤ v := by
  obtain ⟨r, _, p⟩ := h.pt
  obtain ⟨r', u, p', l, n⟩ := p.short ok rfl
  have := nd_lenK n (p'.pos ok).2
  rw [List.length_cons] at this
  exact ⟨r'.length, u, this, p'.wk rfl, l⟩
/-- enough steps are as good as any number -/
theorem up_any {zs : List Nam} {f : Pr} (ok : FOk zs f) {n : Nat} (hn : zs.length ≤ n + 1) {o : Option Int} {x y : Nam} (h : IsMin o (Up zs f n x y)) : IsMin o (Any zs f x y) := by
  refine h.dom (fun v ⟨k, _, w⟩ => ⟨k, w⟩) ?_
  rintro v ⟨k, w⟩
  obtain ⟨j, u, hj, w', l⟩ := w.short ok
  exact ⟨u, ⟨j, by omega, w'⟩, l⟩
/-! tight steps -/
def Tight (f D : Pr) (x : Nam) : Nat → Nam → Prop
  | 0, y => y = x
  | j + 1, y => ∃ m u w, Tight f D x j m ∧ D x m = some u ∧ f m y = some w ∧ D x y = some (u + w)
theorem tight_of {zs : List Nam} {f D : Pr} (hD : ∀ x y, IsMin (D x y) (Any zs f x y)) {x : Nam} : ∀ {j : Nat} {y : Nam} {v : Int}, Wk zs f j x y v → D x y = some v → Tight f D x j y
  | 0, y, v, h, _ => h.1.symm
  | j + 1, y, v, h, e => by
    obtain ⟨m, u, w, h1, h2, rfl⟩ := h
    obtain ⟨u0, e0, ⟨k, hk⟩, l0⟩ := (hD x m).ex ⟨j, h1⟩
    have := ((hD x y).1 _ e).2 (u0 + w) ⟨k + 1, m, u0, w, hk, h2, rfl⟩
    have eu : u0 = u := by omega
    subst eu
    exact ⟨m, u0, w, tight_of hD h1 e0, e0, h2, e⟩
theorem tight_ex {zs : List Nam} {f D : Pr} (ok : FOk zs f) (hD : ∀ x y, IsMin (D x y) (Any zs f x y)) {x y : Nam} {v : Int} (e : D x y = some v) : ∃ j, j + 1 ≤ zs.length ∧ Tight f D x j y := by
  obtain ⟨⟨k, h⟩, mn⟩ := (hD x y).1 v e
  obtain ⟨j, u, hj, w, l⟩ := h.short ok
  have := mn u ⟨j, w⟩
  have eu : u = v := by omega
  subst eu
  exact ⟨j, hj, tight_of hD w e⟩
theorem any_refl {zs : List Nam} {f D : Pr} (ok : FOk zs f) (hD : ∀ x y, IsMin (D x y) (Any zs f x y)) {x : Nam} (hx : x ∈ zs) : D x x = some 0 := by
  obtain ⟨m, e, ⟨k, h⟩, l⟩ := (hD x x).ex ⟨0, rfl, hx, rfl⟩
  have := (Wk.ends ok h).2.2
  rw [e, show m = 0 by omega]
theorem any_pos {zs : List Nam} {f D : Pr} (ok : FOk zs f) (hD : ∀ x y, IsMin (D x y) (Any zs f x y)) : FOk zs D := fun x y v e => by
  obtain ⟨⟨k, h⟩, _⟩ := (hD x y).1 v e
  exact Wk.ends ok h
theorem any_step {zs : List Nam} {f D : Pr} (hD : ∀ x y, IsMin (D x y) (Any zs f x y)) {x y z : Nam} {u w : Int} (e : D x y = some u) (h : f y z = some w) : ∃ v, D x z = some v ∧ v ≤ u + w := by
  obtain ⟨⟨k, hk⟩, _⟩ := (hD x y).1 u e
  obtain ⟨m, e1, _, l⟩ := (hD x z).ex ⟨k + 1, y, u, w, hk, h, rfl⟩
  exact ⟨m, e1, l⟩
end TK

namespace TK
open PySem PySem.Spec PyProof.Rows L2
/-! a static method of an own class -/
structure SMet (K : PySem.W.Frag) (C : Addr) (mc : Value) (m : Str) (p g : Addr) : Prop where
  at_ : PySem.W.findCls K (.ref C) mc m = some (.get (.builtin "staticmethod.__get__") (.ref p) .none (.ref C))
  rc : ∃ rest, PySem.W.recIn K p "staticmethod" = some (.ref g :: rest)
section
variable {X : Cx} {pins : List (Addr × Obj)} {σ : L2.St} {H : Hp} {s : Shared} {C p g : Addr} {mc : Value} {m : Str} {A : Around} {E : Value → Shared → Prop}
theorem getsm_ok {b : Bool} {Q : Value → Shared → Prop} (I : Inv X pins σ H s) (r : ClX.CRead X.K C mc) (k : SMet X.K C mc m p g) (h : ∀ s', Inv X pins σ H s' → Q (.ref g) s') : wpAny (model X.prog X.w) A (getAttr (.ref C) m b) Q E s := by
  obtain ⟨rest, hp⟩ := k.rc
  refine PySem.W.cls_bind I.kIn r.rd k.at_ ?_
  refine wpAny_call (PySem.W.sm_get (s := { s with toks := s.toks + 1 }) I.kIn hp (PySem.W.handed_on rfl ?_))
  exact h _ (I.tok _)
theorem getmethsm_ok {pl : Sem Bool} {Q : Value × List Value → Shared → Prop} (I : Inv X pins σ H s) (r : ClX.CRead X.K C mc) (k : SMet X.K C mc m p g) (h : ∀ s', Inv X pins σ H s' → Q (.ref g, []) s') : wpAny (model X.prog X.w) A (getMethod (.ref C) m pl) Q E s :=
  PySem.W.method_cls I.kIn r.ga (getsm_ok I r k h)
end
/-- e.m(..), e the class at C, m a static method -/
def tSMeth (C : Addr) (sp : Sp) (E : XK) (ta : TE) (t : TA) : TE := fun σ H Q => ta σ H fun x H1 => x = .ref C ∧ t σ H1 fun vs H2 => sp vs H2 Q E
section
variable {X : Cx} {CX : CXT} {k : Nat} {C p g : Addr} {mc : Value} {fd : FuncData} {ps : List Str} {sp : Sp} {E : XK} {o e : Expr} {es : List Expr} {m : Str} {pos apos : Pos} {ta : TE} {t : TA} {pl : Sem Bool}
theorem pe_smeth (he : PE X o ta) (r : ClX.CRead X.K C mc) (c : SMet X.K C mc m p g) (F : FnOk X.prog X.w X.K X.mg X.base CX k g fd ps sp) (hr : Room k X.A) (hk : PySem.W.keepIn X.K (.ref g) = true) (hb : Binds X.K fd ps []) (hx : Passes CX X E) (ha : PA X (e :: es) t)
    (hst : starEach (e :: es) X.env = (false, eval e X.env) :: starEach es X.env := by rfl) (hpl : (backTo pos (starEach es X.env)).any (·.1) = false := by rfl)
    (ht : eval (.Call (.Attribute o m apos) (e :: es) [] pos) X.env = (do
      let ov ← eval o X.env
      standAt apos.atName
      let (f, first) ← holding [ov] (getMethod ov m pl)
      callWith pos f first (backTo pos (starEach (e :: es) X.env)) (backToKw pos (keywordEach [] X.env))) := by rfl) :
    PE X (.Call (.Attribute o m apos) (e :: es) [] pos) (tSMeth C sp E ta t) := by
  refine ⟨fun pins s σ H Q I h => ?_⟩
  refine PySem.W.methodCall_KW (pl := pl) (thn (he.run pins s σ H _ I h) fun u s1 ⟨x, H1, I1, rx, ex, q⟩ => ?_) ht
  subst ex
  obtain rfl : u = Value.ref C := rx
  refine getmethsm_ok I1 r c fun s2 I2 => ?_
  refine PySem.W.callWith_K (first := []) (h₀ := X.base) I2.ok.mod.kin hk (thn (ha.run pos pins s2 σ H1 _ I2 q) fun us s3 ⟨vs, H2, I3, rv, q2⟩ => ⟨I3.kIn, ?_⟩) hst hpl
  exact run_fn (dvs := []) (vs := vs) F hr hb .nil hx I3 rv (by rw [List.append_nil]; exact q2)
theorem pi_listK {X : Cx} {K : PySem.W.Frag} {tg e : Expr} {te : TE} (h : X.K = K) (he : PE X e te) : PI X tg e (iList K te) := h ▸ pi_list he
end
abbrev s_Tolls_same : Stmt := inClass (topS 25) 1
theorem sc_Tolls_same : FnScope ["names", "name"] ["names"] (defScope s_Tolls_same) := ⟨rfl, rfl, rfl, by decide +kernel, rfl, by decide +kernel, by decide +kernel⟩
abbrev s_Tolls_mul : Stmt := inClass (topS 25) 5
theorem sc_Tolls_mul : FnScope ["self", "other", "giver", "middle", "toll", "start", "taker", "further"] ["self", "other"] (defScope s_Tolls_mul) := ⟨rfl, rfl, rfl, by decide +kernel, rfl, by decide +kernel, by decide +kernel⟩
abbrev s_Tolls_or : Stmt := inClass (topS 25) 6
theorem sc_Tolls_or : FnScope ["self", "other"] ["self", "other"] (defScope s_Tolls_or) := ⟨rfl, rfl, rfl, by decide +kernel, rfl, by decide +kernel, by decide +kernel⟩
/-! tables by their prices -/
def TkF (K : PySem.W.Frag) (C : Addr) (H : Hp) (p : Addr) (zs : List Nam) (f : Pr) : Prop := ∃ ts, TkAt K C H p zs ts ∧ EOk zs ts ∧ (∀ x y, leastE ts x y = f x y) ∧ ts.length ≤ 10000
theorem TkF.same {K : PySem.W.Frag} {C : Addr} {H H' : Hp} {p : Addr} {zs : List Nam} {f : Pr} (h : TkF K C H p zs f) (s : Same H H') : TkF K C H' p zs f := by
  obtain ⟨ts, h1, h2⟩ := h
  exact ⟨ts, h1.same s, h2⟩
theorem TkF.ok {K : PySem.W.Frag} {C : Addr} {H : Hp} {p : Addr} {zs : List Nam} {f : Pr} (h : TkF K C H p zs f) : FOk zs f := by
  obtain ⟨ts, h1, h2, h3, h4⟩ := h
  intro x y v e
  rw [← h3] at e
  exact least_in h2 e
theorem TkF.ins {K : PySem.W.Frag} {C : Addr} {H : Hp} {p : Addr} {zs : List Nam} {f : Pr} (h : TkF K C H p zs f) : IsIn H (.ref p) C := by
  obtain ⟨ts, ⟨dx, a, d, kvs, h1, _⟩, _⟩ := h
  exact ⟨p, dx, _, rfl, h1⟩
theorem TkF.congr {K : PySem.W.Frag} {C : Addr} {H : Hp} {p : Addr} {zs : List Nam} {f g : Pr} (h : TkF K C H p zs f) (e : ∀ x y, f x y = g x y) : TkF K C H p zs g := by
  obtain ⟨ts, h1, h2, h3, h4⟩ := h
  exact ⟨ts, h1, h2, fun x y => (h3 x y).trans (e x y), h4⟩
def prod1 (a : Tie) (bs : List Tie) : List Tie := (bs.filter fun b => decide (b.1 = a.2.1)).map fun b => (a.1, b.2.1, a.2.2 + b.2.2)
def prodT (as bs : List Tie) : List Tie := as.flatMap fun a => prod1 a bs
theorem prod_mem {as bs : List Tie} {x y : Nam} {v : Int} : (x, y, v) ∈ prodT as bs ↔ ∃ m u w, (x, m, u) ∈ as ∧ (m, y, w) ∈ bs ∧ v = u + w := by
  unfold prodT prod1
  constructor
  · intro h
    obtain ⟨⟨a, m, u⟩, ha, h⟩ := List.mem_flatMap.mp h
    obtain ⟨⟨m', b, w⟩, hb, e⟩ := List.mem_map.mp h
    obtain ⟨hb2, e2⟩ := List.mem_filter.mp hb
    have e3 : m' = m := of_decide_eq_true e2
    subst e3
    cases e
    exact ⟨m', u, w, ha, hb2, rfl⟩
  · rintro ⟨m, u, w, ha, hb, rfl⟩
    exact List.mem_flatMap.mpr ⟨_, ha, List.mem_map.mpr ⟨(m, y, w), List.mem_filter.mpr ⟨hb, decide_eq_true rfl⟩, rfl⟩⟩
theorem prod_ok {zs : List Nam} {as bs : List Tie} (a : EOk zs as) (b : EOk zs bs) : EOk zs (prodT as bs) := by
  refine ⟨?_, ?_, ?_⟩ <;> rintro ⟨x, y, v⟩ h <;> obtain ⟨m, u, w, h1, h2, rfl⟩ := prod_mem.mp h
  · exact a.a (x, m, u) h1
  · exact b.b (m, y, w) h2
  · have t1 : 0 ≤ u := a.h0 (x, m, u) h1
    have t2 : 0 ≤ w := b.h0 (m, y, w) h2
    show 0 ≤ u + w
    omega
theorem prod_take {as bs : List Tie} {i : Nat} {a : Tie} (h : as[i]? = some a) : prodT (as.take (i + 1)) bs = prodT (as.take i) bs ++ prod1 a bs := by
  unfold prodT
  rw [List.take_add_one, h, List.flatMap_append]
  show _ ++ List.flatMap _ [a] = _
  rw [List.flatMap_singleton]
theorem prod1_nil {a : Tie} : prod1 a [] = [] := rfl
theorem prod1_take {a b : Tie} {bs : List Tie} {j : Nat} (h : bs[j]? = some b) : prod1 a (bs.take (j + 1)) = prod1 a (bs.take j) ++ (if b.1 = a.2.1 then [(a.1, b.2.1, a.2.2 + b.2.2)] else []) := by
  unfold prod1
  rw [List.take_add_one, h, List.filter_append, List.map_append]
  congr 1
  show List.map _ (List.filter _ [b]) = _
  by_cases e : b.1 = a.2.1
  · rw [if_pos e, List.filter_cons, if_pos (decide_eq_true e)]; rfl
  · rw [if_neg e, List.filter_cons, if_neg (by simp [e])]; rfl
section
variable {P : Program} {w : World} {K : PySem.W.Frag} {mg : Str → Option Value} {base : Heap}
/-! Tolls.same -/
def diagT (zs : List Nam) : List Tie := zs.map fun z => (z, z, 0)
theorem diag_mem {zs : List Nam} {x y : Nam} {v : Int} : (x, y, v) ∈ diagT zs ↔ x = y ∧ x ∈ zs ∧ v = 0 := by
  unfold diagT
  constructor
  · intro h
    obtain ⟨z, hz, e⟩ := List.mem_map.mp h
    cases e
    exact ⟨rfl, hz, rfl⟩
  · rintro ⟨rfl, hx, rfl⟩
    exact List.mem_map.mpr ⟨x, hx, rfl⟩
def spSameT (K : PySem.W.Frag) (C : Addr) : Sp := fun vs H Q _ => ∃ (a : Addr) (zs : List Nam), vs = [.ref a] ∧ (SqL K H a (zs.map vN) ∨ TL H a (zs.map vN)) ∧ NsOk zs ∧
  ∀ H' r f, Same H H' → TkF K C H' r zs f → (∀ x y, IsMin (f x y) fun v => x = y ∧ x ∈ zs ∧ v = 0) → Q (.ref r) H'
theorem ok_Tolls_same {f C fI : Addr} {fd fdI : FuncData} (F : Fun K "same" "Tolls.same" s_Tolls_same f fd) (M_Tolls : Mk K C fI) (G_Tolls : FnOk P w K mg base CX0 3 fI fdI ["self", "names", "entries"] (spInitT K C)) (mg_Tolls : mg "Tolls" = some (.ref C)) (b_Tolls : Binds K fdI ["self", "names", "entries"] []) :
    FnOk P w K mg base CX0 5 f fd ["names"] (spSameT K C) := by
  refine F.ok sc_Tolls_same (fun vs H Q E h => ?_) (fun cdv A outer s H vs Q E hr h => ?_)
  · obtain ⟨a, zs, rfl, _⟩ := h
    rfl
  · obtain ⟨a, zs, rfl, hA, nok, q⟩ := h
    have z6 := nok.l6
    have key : ∀ (D : Addr) (es : List Addr) (H1 : Hp), Same H H1 → H1 D = some (.lst (es.map V.ref)) → TiesAt H1 es (diagT zs) → ∀ x dx, H1 x = none → H1 dx = none → dx ≠ x →
        spInitT K C [.ref x, .ref a, .ref D] (upd (upd H1 dx (.own x)) x (.ins C dx [])) (fun v H2 => v = .non ∧ Q (.ref x) H2) E := by
      intro D es H1 s1 eD hT x dx n1 n2 ne
      have dok : EOk zs (diagT zs) := by
        refine ⟨?_, ?_, ?_⟩ <;> rintro ⟨x, y, v⟩ h <;> obtain ⟨h1, h2, h3⟩ := diag_mem.mp h
        · exact h2
        · exact h1 ▸ h2
        · show 0 ≤ v
          omega
      have dl : (diagT zs).length ≤ 10000 := by unfold diagT; rw [List.length_map]; omega
      exact make_go n1 n2 ne (hA.elim (fun h => .inl (s1.seq h)) (fun h => .inr (h.same s1))) (.inl (lstAt eD)) hT nok dok dl fun H2 tk s2 => q _ _ _ (s1.trans s2) ⟨_, tk, dok, fun _ _ => rfl, dl⟩ fun x y => (leastE_min _ x y).congr fun v => diag_mem
    rcases id hA with hL | hU
    · refine ⟨_, (pss_one (ps_ret (pe_make M_Tolls G_Tolls (hr.mono (by decide)) (by rfl) mg_Tolls b_Tolls .nil pass0 (pa_cons (pv 0) (pa_cons (pe_lc (own := [("name", 1)]) (by rfl) sc_Tolls_same.nd (pi_list (pv 0)) (blkOk_by (N := ["names", "name"]) (sc := defScope s_Tolls_same) (by decide +kernel)) (fun _ _ _ _ _ => (pg_name (i := 1) sc_Tolls_same.nd rfl (.inl rfl))) (fun _ _ _ _ _ => pts_nil) (fun _ _ _ _ _ => (pe_tup (pa_cons (pv 1) (pa_cons (pv 1) (pa_cons pe_int pa_nil)))))) pa_nil))))), ?_⟩
      refine ⟨_, rfl, _, rfl, a, rfl, ⟨_, hL⟩, fun D nD => ?_⟩
      refine lc_list (K := K) (a := a) (xs := zs.map vN) (fun i H' => ∃ es : List Addr, Same H H' ∧ H' D = some (.lst (es.map V.ref)) ∧ TiesAt H' es (diagT (zs.take i)) ∧ es.length = i) ⟨[], same_upd nD, upd_same, ⟨rfl, fun _ _ h => nomatch h⟩, rfl⟩ (fun i H' _ hq => hq.choose_spec.1.seq hL) (fun i x H' hx hq => ?_) (fun H' hq => ?_)
      · obtain ⟨es, s1, eD, hT, l1⟩ := hq
        obtain ⟨z, ez, rfl⟩ := vN_at hx
        have hi6 : i < 6 := by have := (List.getElem?_eq_some_iff.mp ez).1; omega
        refine ⟨rfl, yesT ⟨_, rfl, _, rfl, (show (3 : Nat) ≤ sizeLine by decide), fun t nt => ?_⟩⟩
        have st := same_upd (o := .tup [vN z, vN z, .int 0]) nt
        have tD : t ≠ D := (ne_of_none eD nt).symm
        refine ⟨_, st _ _ eD, by rw [List.length_map]; exact small1000 (by omega), es ++ [t], same_at (s1.trans st) nD, by rw [List.map_append]; exact upd_same, ?_, by rw [List.length_append, l1]; rfl⟩
        rw [show diagT (zs.take (i + 1)) = diagT (zs.take i) ++ [(z, z, 0)] by unfold diagT; rw [List.take_add_one, ez, List.map_append]; rfl]
        exact ((hT.same st).snoc (Same.refl _) (show TieAt _ t (z, z, 0) from upd_same)).wrote (st _ _ eD)
      · obtain ⟨es, s1, eD, hT, l1⟩ := hq
        rw [List.length_map, List.take_length] at hT
        exact key D es H' s1 eD hT
    · refine ⟨_, (pss_one (ps_ret (pe_make M_Tolls G_Tolls (hr.mono (by decide)) (by rfl) mg_Tolls b_Tolls .nil pass0 (pa_cons (pv 0) (pa_cons (pe_lc (own := [("name", 1)]) (by rfl) sc_Tolls_same.nd (pi_tup (pv 0)) (blkOk_by (N := ["names", "name"]) (sc := defScope s_Tolls_same) (by decide +kernel)) (fun _ _ _ _ _ => (pg_name (i := 1) sc_Tolls_same.nd rfl (.inl rfl))) (fun _ _ _ _ _ => pts_nil) (fun _ _ _ _ _ => (pe_tup (pa_cons (pv 1) (pa_cons (pv 1) (pa_cons pe_int pa_nil)))))) pa_nil))))), ?_⟩
      refine ⟨_, rfl, _, rfl, a, rfl, ⟨_, hU.sq⟩, fun D nD => ?_⟩
      refine lc_tup (K := K) (a := a) (xs := zs.map vN) (fun i H' => ∃ es : List Addr, Same H H' ∧ H' D = some (.lst (es.map V.ref)) ∧ TiesAt H' es (diagT (zs.take i)) ∧ es.length = i) ⟨[], same_upd nD, upd_same, ⟨rfl, fun _ _ h => nomatch h⟩, rfl⟩ (fun i H' _ hq => same_tup hq.choose_spec.1 hU.sq) (fun i x H' hx hq => ?_) (fun H' hq => ?_)
      · obtain ⟨es, s1, eD, hT, l1⟩ := hq
        obtain ⟨z, ez, rfl⟩ := vN_at hx
        have hi6 : i < 6 := by have := (List.getElem?_eq_some_iff.mp ez).1; omega
        refine ⟨rfl, yesT ⟨_, rfl, _, rfl, (show (3 : Nat) ≤ sizeLine by decide), fun t nt => ?_⟩⟩
        have st := same_upd (o := .tup [vN z, vN z, .int 0]) nt
        have tD : t ≠ D := (ne_of_none eD nt).symm
        refine ⟨_, st _ _ eD, by rw [List.length_map]; exact small1000 (by omega), es ++ [t], same_at (s1.trans st) nD, by rw [List.map_append]; exact upd_same, ?_, by rw [List.length_append, l1]; rfl⟩
        rw [show diagT (zs.take (i + 1)) = diagT (zs.take i) ++ [(z, z, 0)] by unfold diagT; rw [List.take_add_one, ez, List.map_append]; rfl]
        exact ((hT.same st).snoc (Same.refl _) (show TieAt _ t (z, z, 0) from upd_same)).wrote (st _ _ eD)
      · obtain ⟨es, s1, eD, hT, l1⟩ := hq
        rw [List.length_map, List.take_length] at hT
        exact key D es H' s1 eD hT
end
end TK

namespace TK
open PySem PySem.Spec PyProof.Rows L2
/-- three names for the items of a tuple, and what stands in the slots then -/
theorem gTup3 {K : PySem.W.Frag} {i j k : Nat} {e : Addr} {x y z : V} {σ : L2.St} {H : Hp} {Q : L2.St → Hp → Prop} (he : H e = some (.tup [x, y, z])) (σ' : L2.St) (hσ : ((σ.set i (some x)).set j (some y)).set k (some z) = σ') (h : Q σ' H) :
    gTup K 3 (gCons (gName i) (gCons (gName j) (gCons (gName k) gNil))) (.ref e) σ H Q := by
  subst hσ
  exact ⟨_, _, rfl, tupAt he, rfl, _, _, rfl, _, _, rfl, _, _, rfl, rfl, h⟩
section
variable {P : Program} {w : World} {K : PySem.W.Frag} {mg : Str → Option Value} {base : Heap}
/-! t | u -/
def spOrT (K : PySem.W.Frag) (C : Addr) : Sp := fun vs H Q _ => ∃ (p p' : Addr) (zs : List Nam) (f g : Pr), vs = [.ref p, .ref p'] ∧ TkF K C H p zs f ∧ TkF K C H p' zs g ∧ NsOk zs ∧
  ∀ H' r h, Same H H' → TkF K C H' r zs h → (∀ x y, IsMin (h x y) fun v => f x y = some v ∨ g x y = some v) → Q (.ref r) H'
theorem ok_Tolls_or {f C fI gE : Addr} {fd fdI fdE : FuncData} (F : Fun K "__or__" "Tolls.__or__" s_Tolls_or f fd) (T : TxtT K C) (M_Tolls : Mk K C fI) (G_Tolls : FnOk P w K mg base CX0 3 fI fdI ["self", "names", "entries"] (spInitT K C)) (mg_Tolls : mg "Tolls" = some (.ref C)) (b_Tolls : Binds K fdI ["self", "names", "entries"] [])
    (Me_entries : Meth K C "entries" gE) (G_entries : FnOk P w K mg base CX0 1 gE fdE ["self"] (spEntries K C)) (b_entries : Binds K fdE ["self"] []) : FnOk P w K mg base CX0 5 f fd ["self", "other"] (spOrT K C) := by
  refine F.ok sc_Tolls_or (fun vs H Q E h => ?_) (fun cdv A outer s H vs Q E hr h => ?_)
  · obtain ⟨p, p', zs, f, g, rfl, _⟩ := h
    rfl
  · obtain ⟨p, p', zs, f, g, rfl, ⟨ts, tk, eok, ef, tl⟩, ⟨us, uk, uok, eg, ul⟩, nok, q⟩ := h
    have z6 := nok.l6
    obtain ⟨dx, a, d, kvs, hp, hA, hd, kv, kl⟩ := id tk
    obtain ⟨dx', a', d', kvs', hp', hA', hd', kv', kl'⟩ := id uk
    refine ⟨_, (pss_cons (ps_if (pt_cmpR (op_neD hr.units) (pe_fld (pv 0) rfl) (pe_fld (pv 1) rfl) (nomark _)) (pss_one ps_never) pss_nil)
  (pss_one (ps_ret (pe_make M_Tolls G_Tolls (hr.mono (by decide)) (by rfl) mg_Tolls b_Tolls .nil pass0 (pa_cons (pe_fld (pv 0) rfl) (pa_cons (pe_op op_cat (pe_meth0 (pv 0) T.cl Me_entries G_entries (hr.mono (by decide)) b_entries .nil pass0) (pe_meth0 (pv 1) T.cl Me_entries G_entries (hr.mono (by decide)) b_entries .nil pass0)) pa_nil)))))), ?_⟩
    obtain ⟨d1, d3, d4⟩ := namesH_dp (K := K) (H := H) nok.nm
    refine ⟨_, rfl, p, C, dx, _, _, rfl, hp, T.cl, T.nN, fldsT_names _ _, _, rfl, p', C, dx', _, _, rfl, hp', T.cl, T.nN, fldsT_names _ _, .tuple _, .tuple _, .tup hA.sq d1, .tup hA'.sq d1, nmT_shape d3 d4, nmT_shape d3 d4, _, rfl, ?_⟩
    rw [SeqAt.eqv_refl _ (nmT_lay d3)]
    refine iteF ?_
    refine ⟨_, rfl, p, C, dx, _, _, rfl, hp, T.cl, T.nN, fldsT_names _ _, _, rfl, p, dx, _, rfl, hp, fldsT_none _ _, p, zs, ts, rfl, tk, z6, fun H1 e1 es1 ne1 s1 ee1 t1 m1 => ?_⟩
    refine ⟨_, rfl, p', dx', _, rfl, s1 _ _ hp', fldsT_none _ _, p', zs, us, rfl, uk.same s1, z6, fun H2 e2 es2 ne2 s2 ee2 t2 m2 => ?_⟩
    refine ⟨e1, e2, _, _, rfl, rfl, s2 _ _ ee1, ee2, by rw [List.length_map, List.length_map]; exact Nat.le_of_lt (small1000 (by omega)), fun L nL => ?_⟩
    rw [← List.map_append]
    have sL := same_upd (o := .lst ((es1 ++ es2).map V.ref)) nL
    have s3 := (s1.trans s2).trans sL
    have hT := ((t1.same s2).app t2).same sL
    have ok1 := listE_ok eok
    have ok2 := listE_ok uok
    have ok3 : EOk zs (listE zs ts ++ listE zs us) := ⟨fun t m => (List.mem_append.mp m).elim (ok1.a t) (ok2.a t), fun t m => (List.mem_append.mp m).elim (ok1.b t) (ok2.b t), fun t m => (List.mem_append.mp m).elim (ok1.h0 t) (ok2.h0 t)⟩
    have l3 : (listE zs ts ++ listE zs us).length ≤ 10000 := by rw [← hT.1, List.length_append]; omega
    intro x dx2 n1 n2 ne
    refine make_go n1 n2 ne (.inr (hA.same s3)) (.inl (lstAt upd_same)) hT nok ok3 l3 fun H4 k4 s4 => ?_
    refine q _ _ _ (s3.trans s4) ⟨_, k4, ok3, fun _ _ => rfl, l3⟩ fun x y => (leastE_min _ x y).congr fun v => ?_
    rw [List.mem_append, listE_mem, listE_mem, ef, eg]
    constructor
    · rintro (h | h)
      · exact .inl h.2.2
      · exact .inr h.2.2
    · rintro (h | h)
      · obtain ⟨i1, i2, _⟩ := least_in eok ((ef x y).trans h)
        exact .inl ⟨i1, i2, h⟩
      · obtain ⟨i1, i2, _⟩ := least_in uok ((eg x y).trans h)
        exact .inr ⟨i1, i2, h⟩
/-! t * u -/
def spMulT (K : PySem.W.Frag) (C : Addr) : Sp := fun vs H Q _ => ∃ (p p' : Addr) (zs : List Nam) (f g : Pr), vs = [.ref p, .ref p'] ∧ TkF K C H p zs f ∧ TkF K C H p' zs g ∧ NsOk zs ∧
  ∀ H' r h, Same H H' → TkF K C H' r zs h → (∀ x y, IsMin (h x y) (Sum2 (fun x m u => f x m = some u) (fun m y w => g m y = some w) x y)) → Q (.ref r) H'
theorem ok_Tolls_mul {f C fI gE : Addr} {fd fdI fdE : FuncData} (F : Fun K "__mul__" "Tolls.__mul__" s_Tolls_mul f fd) (T : TxtT K C) (M_Tolls : Mk K C fI) (G_Tolls : FnOk P w K mg base CX0 3 fI fdI ["self", "names", "entries"] (spInitT K C)) (mg_Tolls : mg "Tolls" = some (.ref C)) (b_Tolls : Binds K fdI ["self", "names", "entries"] [])
    (Me_entries : Meth K C "entries" gE) (G_entries : FnOk P w K mg base CX0 1 gE fdE ["self"] (spEntries K C)) (b_entries : Binds K fdE ["self"] []) : FnOk P w K mg base CX0 5 f fd ["self", "other"] (spMulT K C) := by
  refine F.ok sc_Tolls_mul (fun vs H Q E h => ?_) (fun cdv A outer s H vs Q E hr h => ?_)
  · obtain ⟨p, p', zs, f, g, rfl, _⟩ := h
    rfl
  · obtain ⟨p, p', zs, f, g, rfl, ⟨ts, tk, eok, ef, tl⟩, ⟨us, uk, uok, eg, ul⟩, nok, q⟩ := h
    have z6 := nok.l6
    obtain ⟨dx, a, d, kvs, hp, hA, hd, kv, kl⟩ := id tk
    obtain ⟨dx', a', d', kvs', hp', hA', hd', kv', kl'⟩ := id uk
    refine ⟨_, (pss_cons (ps_if (pt_cmpR (op_neD hr.units) (pe_fld (pv 0) rfl) (pe_fld (pv 1) rfl) (nomark _)) (pss_one ps_never) pss_nil)
  (pss_one (ps_ret (pe_make M_Tolls G_Tolls (hr.mono (by decide)) (by rfl) mg_Tolls b_Tolls .nil pass0 (pa_cons (pe_fld (pv 0) rfl) (pa_cons (pe_lc2 (own := [("giver", 2), ("middle", 3), ("toll", 4), ("start", 5), ("taker", 6), ("further", 7)]) (vs1 := [5, 6, 7]) (by rfl) sc_Tolls_mul.nd (pi_list (pe_meth0 (pv 0) T.cl Me_entries G_entries (hr.mono (by decide)) b_entries .nil pass0)) (blkOk_by (N := ["self", "other", "giver", "middle", "toll", "start", "taker", "further"]) (sc := defScope s_Tolls_mul) (by decide +kernel)) (by decide) (fun _ _ _ _ _ => (pg_tupK (K := K) (n := 3) rfl (by rfl) (pgs_cons (pg_name (i := 2) sc_Tolls_mul.nd rfl (.inl rfl)) (pgs_cons (pg_name (i := 3) sc_Tolls_mul.nd rfl (.inl rfl)) (pgs_cons (pg_name (i := 4) sc_Tolls_mul.nd rfl (.inl rfl)) pgs_nil))))) (fun _ _ _ _ _ => pts_nil) (fun _ _ _ _ _ => (pi_listK (K := K) rfl (pe_meth0 (pv 1) T.cl Me_entries G_entries (hr.mono (by decide)) b_entries .nil pass0))) (fun _ _ _ _ _ => (pg_tupK (K := K) (n := 3) rfl (by rfl) (pgs_cons (pg_name (i := 5) sc_Tolls_mul.nd rfl (.inl rfl)) (pgs_cons (pg_name (i := 6) sc_Tolls_mul.nd rfl (.inl rfl)) (pgs_cons (pg_name (i := 7) sc_Tolls_mul.nd rfl (.inl rfl)) pgs_nil))))) (fun _ _ _ _ _ => (pts_one (pt_cmpR op_eq (pv 5) (pv 3) (nomark _)))) (fun _ _ _ _ _ => (pe_tup (pa_cons (pv 2) (pa_cons (pv 6) (pa_cons (pe_op op_add (pv 4) (pv 7)) pa_nil)))))) pa_nil)))))), ?_⟩
    obtain ⟨d1, d3, d4⟩ := namesH_dp (K := K) (H := H) nok.nm
    refine ⟨_, rfl, p, C, dx, _, _, rfl, hp, T.cl, T.nN, fldsT_names _ _, _, rfl, p', C, dx', _, _, rfl, hp', T.cl, T.nN, fldsT_names _ _, .tuple _, .tuple _, .tup hA.sq d1, .tup hA'.sq d1, nmT_shape d3 d4, nmT_shape d3 d4, _, rfl, ?_⟩
    rw [SeqAt.eqv_refl _ (nmT_lay d3)]
    refine iteF ?_
    refine ⟨_, rfl, p, C, dx, _, _, rfl, hp, T.cl, T.nN, fldsT_names _ _, _, rfl, p, dx, _, rfl, hp, fldsT_none _ _, p, zs, ts, rfl, tk, z6, fun H1 e1 es1 ne1 s1 ee1 t1 m1 => ?_⟩
    refine ⟨e1, rfl, ⟨_, lstAt ee1⟩, fun D nD => ?_⟩
    refine walk_go (walk_list (K := K) (a := e1) (xs := es1.map V.ref)) (fun i H' => ∃ es : List Addr, Same H1 H' ∧ H' D = some (.lst (es.map V.ref)) ∧ TiesAt H' es (prodT ((listE zs ts).take i) (listE zs us)) ∧ es.length ≤ 36 * i) ⟨[], same_upd nD, upd_same, ⟨rfl, fun _ _ h => nomatch h⟩, Nat.le_refl _⟩ (fun i H' _ hq => lstAt (hq.choose_spec.1 _ _ ee1)) (fun i x H2 H2' hi hq hy => ?_) (fun H' hq => ?_)
    · obtain ⟨es, s2, eD, hT, l2⟩ := hq
      obtain ⟨rfl, hx⟩ := hy
      obtain ⟨e, t, rfl, ei, et, ht⟩ := ties_at t1 hx
      have hi36 : i < 36 := by have := (List.getElem?_eq_some_iff.mp ei).1; omega
      have s12 := s1.trans s2
      refine gTup3 (s2 _ _ ht) [some (.ref p), some (.ref p'), some (vN t.1), some (vN t.2.1), some (.int t.2.2), none, none, none] (by simp [wipe, L2.start]) ?_
      refine ⟨by simp [wipe, L2.start], yesT ?_⟩
      refine ⟨_, rfl, p', dx', _, rfl, s12 _ _ hp', fldsT_none _ _, p', zs, us, rfl, uk.same s12, z6, fun H3 e3 es3 ne3 s3 ee3 t3 m3 => ?_⟩
      refine ⟨e3, rfl, ⟨_, lstAt ee3⟩, ?_⟩
      refine walk_go (walk_list (K := K) (a := e3) (xs := es3.map V.ref)) (fun j H' => ∃ es : List Addr, (H' e3 = some (.lst (es3.map V.ref)) ∧ TiesAt H' es3 (listE zs us)) ∧ Same H1 H' ∧ H' D = some (.lst (es.map V.ref)) ∧ TiesAt H' es (prodT ((listE zs ts).take i) (listE zs us) ++ prod1 t ((listE zs us).take j)) ∧ es.length ≤ 36 * i + j) ?_ (fun j H' _ hq => ?_) (fun j y H4 H4' hj hq hy2 => ?_) (fun H' hq => ?_)
      · exact ⟨es, ⟨ee3, t3⟩, s2.trans s3, s3 _ _ eD, by rw [List.take_zero, prod1_nil, List.append_nil]; exact hT.same s3, by omega⟩
      · obtain ⟨_, q1, _⟩ := hq
        exact lstAt q1.1
      · obtain ⟨es', q1, q2, eD4, hT4, l4⟩ := hq
        obtain ⟨rfl, hx2⟩ := hy2
        obtain ⟨e', b, rfl, ej, eb, hb⟩ := ties_at q1.2 hx2
        have hj36 : j < 36 := by have := (List.getElem?_eq_some_iff.mp ej).1; omega
        refine gTup3 hb [some (.ref p), some (.ref p'), some (vN t.1), some (vN t.2.1), some (.int t.2.2), some (vN b.1), some (vN b.2.1), some (.int b.2.2)] (by simp [wipe]) ?_
        refine ⟨by simp [wipe], ?_⟩
        refine ⟨_, rfl, _, rfl, rfl, _, rfl, ?_⟩
        rw [eq_nm, prod1_take eb]
        by_cases e0 : b.1 = t.2.1
        · rw [decide_eq_true e0, if_pos e0]
          refine iteT ⟨_, rfl, _, rfl, _, rfl, _, rfl, _, _, rfl, rfl, (show (3 : Nat) ≤ sizeLine by decide), fun k nk => ?_⟩
          have sk := same_upd (o := .tup [vN t.1, vN b.2.1, .int (t.2.2 + b.2.2)]) nk
          have kD : k ≠ D := (ne_of_none eD4 nk).symm
          have eD5 := sk _ _ eD4
          have lz : (es'.map V.ref).length < sizeLine := by rw [List.length_map]; exact Nat.lt_of_le_of_lt (show es'.length ≤ 2000 by omega) (by decide)
          have h5 : TiesAt (upd (upd H4' k (.tup [vN t.1, vN b.2.1, .int (t.2.2 + b.2.2)])) D (.lst (es'.map V.ref ++ [.ref k]))) es3 (listE zs us) := (q1.2.same sk).wrote eD5
          have h6 : TiesAt (upd (upd H4' k (.tup [vN t.1, vN b.2.1, .int (t.2.2 + b.2.2)])) D (.lst (es'.map V.ref ++ [.ref k]))) (es' ++ [k]) ((prodT ((listE zs ts).take i) (listE zs us) ++ prod1 t ((listE zs us).take j)) ++ [(t.1, b.2.1, t.2.2 + b.2.2)]) :=
            ((hT4.same sk).snoc (Same.refl _) (show TieAt _ k (t.1, b.2.1, t.2.2 + b.2.2) from upd_same)).wrote eD5
          have h7 : (upd (upd H4' k (.tup [vN t.1, vN b.2.1, .int (t.2.2 + b.2.2)])) D (.lst (es'.map V.ref ++ [.ref k]))) e3 = some (.lst (es3.map V.ref)) := by
            have eD3 : e3 ≠ D := fun z => by
              subst z
              rw [eD] at ne3
              cases ne3
            rw [upd_ne eD3]
            exact sk _ _ q1.1
          rw [List.append_assoc] at h6
          exact ⟨_, eD5, lz, es' ++ [k], ⟨h7, h5⟩, same_at (q2.trans sk) nD, by rw [List.map_append]; exact upd_same, h6, by rw [List.length_append]; simp only [List.length_singleton]; omega⟩
        · rw [decide_eq_false e0, if_neg e0, List.append_nil]
          exact iteF ⟨es', q1, q2, eD4, hT4, by omega⟩
      · obtain ⟨es', q1, q2, eD4, hT4, l4⟩ := hq
        rw [List.length_map, t3.1, List.take_length] at hT4
        rw [List.length_map] at l4
        exact ⟨es', q2, eD4, by rw [prod_take et]; exact hT4, by omega⟩
    · obtain ⟨es, s2, eD, hT, l2⟩ := hq
      rw [List.length_map, t1.1, List.take_length] at hT
      rw [List.length_map] at l2
      have pok := prod_ok (listE_ok eok) (listE_ok uok)
      have pl : (prodT (listE zs ts) (listE zs us)).length ≤ 10000 := by rw [← hT.1]; omega
      intro x dx2 n1 n2 ne
      refine make_go n1 n2 ne (.inr (hA.same (s1.trans s2))) (.inl (lstAt eD)) hT nok pok pl fun H4 k4 s4 => ?_
      refine q _ _ _ ((s1.trans s2).trans s4) ⟨_, k4, pok, fun _ _ => rfl, pl⟩ fun x y => (leastE_min _ x y).congr fun v => ?_
      rw [prod_mem]
      constructor
      · rintro ⟨m, u, w, h1, h2, rfl⟩
        exact ⟨m, u, w, (ef x m).symm.trans (listE_mem.mp h1).2.2, (eg m y).symm.trans (listE_mem.mp h2).2.2, rfl⟩
      · rintro ⟨m, u, w, h1, h2, rfl⟩
        rw [← ef] at h1
        rw [← eg] at h2
        obtain ⟨i1, i2, _⟩ := least_in eok h1
        obtain ⟨i3, i4, _⟩ := least_in uok h2
        exact ⟨m, u, w, listE_mem.mpr ⟨i1, i2, h1⟩, listE_mem.mpr ⟨i3, i4, h2⟩, rfl⟩
end
end TK

namespace TK
open PySem PySem.Spec PyProof.Rows L2
abbrev s_Tolls_power : Stmt := inClass (topS 25) 8
theorem sc_Tolls_power : FnScope ["self", "times", "result", "square"] ["self", "times"] (defScope s_Tolls_power) := ⟨rfl, rfl, rfl, by decide +kernel, rfl, by decide +kernel, by decide +kernel⟩
abbrev s_Tolls_closed : Stmt := inClass (topS 25) 9
theorem sc_Tolls_closed : FnScope ["self", "result", "_"] ["self"] (defScope s_Tolls_closed) := ⟨rfl, rfl, rfl, by decide +kernel, rfl, by decide +kernel, by decide +kernel⟩
theorem fld_names {K : PySem.W.Frag} {C : Addr} {H : Hp} {p : Addr} {zs : List Nam} {f : Pr} (h : TkF K C H p zs f) : ∃ dx a d, H p = some (.ins C dx (fldsT a d)) ∧ TL H a (zs.map vN) := by
  obtain ⟨ts, ⟨dx, a, d, kvs, h1, h2, _⟩, _⟩ := h
  exact ⟨dx, a, d, h1, h2⟩
section
variable {P : Program} {w : World} {K : PySem.W.Frag} {mg : Str → Option Value} {base : Heap}
/-! power -/
def spClosed (K : PySem.W.Frag) (C : Addr) : Sp := fun vs H Q _ => ∃ (p : Addr) (zs : List Nam) (f : Pr), vs = [.ref p] ∧ TkF K C H p zs f ∧ NsOk zs ∧
  ∀ H' r h, Same H H' → TkF K C H' r zs h → (∀ x y, IsMin (h x y) (Any zs f x y)) → Q (.ref r) H'
theorem ok_Tolls_closed {f C gS gM gO pS : Addr} {fd fdS fdM fdO : FuncData} {mc : Value} (F : Fun K "closed" "Tolls.closed" s_Tolls_closed f fd) (T : TxtT K C) (m_range : mg "range" = none) (mg_Tolls : mg "Tolls" = some (.ref C)) (CR : ClX.CRead K C mc)
    (S_same : SMet K C mc "same" pS gS) (k_same : PySem.W.keepIn K (.ref gS) = true) (G_same : FnOk P w K mg base CX0 5 gS fdS ["names"] (spSameT K C)) (b_same : Binds K fdS ["names"] [])
    (sf_ : PySem.W.selfFirst K C = true) (O_mul : Own K C "__mul__" gM) (G_mul : FnOk P w K mg base CX0 5 gM fdM ["self", "other"] (spMulT K C)) (b_mul : Binds K fdM ["self", "other"] [])
    (O_or : Own K C "__or__" gO) (G_or : FnOk P w K mg base CX0 5 gO fdO ["self", "other"] (spOrT K C)) (b_or : Binds K fdO ["self", "other"] []) : FnOk P w K mg base CX0 6 f fd ["self"] (spClosed K C) := by
  refine F.ok sc_Tolls_closed (fun vs H Q E h => ?_) (fun cdv A outer s H vs Q E hr h => ?_)
  · obtain ⟨p, zs, f, rfl, _⟩ := h
    rfl
  · obtain ⟨p, zs, f, rfl, tk, nok, q⟩ := h
    obtain ⟨dx, a, d, hp, hA⟩ := fld_names tk
    have fok := tk.ok
    refine ⟨_, (pss_cons (ps_set (i := 1) sc_Tolls_closed.nd rfl (.inl rfl) (pe_op (op_ownBin O_or sf_ G_or (hr.mono (by decide)) b_or pass0) (pe_smeth (pe_glob (v := .ref C) (u := .ref C) (by rfl) mg_Tolls rfl) CR S_same G_same (hr.mono (by decide)) k_same b_same pass0 (pa_cons (pe_fld (pv 0) rfl) pa_nil)) (pv 0)))
  (pss_cons (ps_for PassesOwn.never rfl (pi_range1 (by rfl) m_range (pa_cons pe_int pa_nil)) (pg_name (i := 2) sc_Tolls_closed.nd rfl (.inl rfl))
    (pss_one (ps_set (i := 1) sc_Tolls_closed.nd rfl (.inl rfl) (pe_op (op_ownBin O_mul sf_ G_mul (hr.mono (by decide)) b_mul pass0) (pv 1) (pv 1)))))
  (pss_one (ps_ret (pv 1))))), ?_⟩
    refine ⟨rfl, _, rfl, p, C, dx, _, _, rfl, hp, T.cl, T.nN, fldsT_names _ _, a, zs, rfl, .inr hA, nok, fun H1 r1 f1 s1 k1 m1 => ?_⟩
    refine ⟨_, rfl, k1.ins, (tk.same s1).ins, r1, p, zs, f1, f, rfl, k1, tk.same s1, nok, fun H2 r2 f2 s2 k2 m2 => ?_⟩
    have b2 : ∀ x y, IsMin (f2 x y) (Up zs f (2 ^ 0) x y) := fun x y => (min_or (m1 x y) (min_self (f x y)) (m2 x y)).congr fun v => by
      constructor
      · rintro (h | h)
        · exact ⟨0, by decide, h⟩
        · exact ⟨1, Nat.le_refl _, x, 0, v, ⟨rfl, (fok _ _ _ h).1, rfl⟩, h, by omega⟩
      · rintro ⟨k, hk, h⟩
        match k, hk, h with
        | 0, _, h => exact .inl h
        | 1, _, ⟨m, u, w, ⟨e1, _, e2⟩, h2, e3⟩ => subst e1; subst e2; subst e3; rw [Int.zero_add]; exact .inr h2
        | k + 2, hk, _ => exact absurd hk (by simp)
    refine ⟨_, rfl, by decide, by decide, for_range (fun i σ H' => ∃ (r : Addr) (h : Pr) (y : Option V), σ = [some (.ref p), some (.ref r), y] ∧ Same H H' ∧ TkF K C H' r zs h ∧ ∀ x y, IsMin (h x y) (Up zs f (2 ^ i) x y)) ⟨r2, f2, _, rfl, s1.trans s2, k2, b2⟩ ?_ ?_⟩
    · rintro i σ H3 hi ⟨r, h, y, rfl, s3, k3, m3⟩
      refine ⟨_, rfl, _, rfl, k3.ins, k3.ins, r, r, zs, h, h, rfl, k3, k3, nok, fun H4 r4 f4 s4 k4 m4 => ?_⟩
      refine ⟨r4, f4, _, rfl, s3.trans s4, k4, fun x y => (min_mul m3 m3 (m4 x y)).congr fun v => ?_⟩
      rw [show (2 : Nat) ^ (i + 1) = 2 ^ i + 2 ^ i by rw [Nat.pow_succ]; omega]
      exact up_sum fok _ _ x y v
    · rintro σ H3 ⟨r, h, y, rfl, s3, k3, m3⟩
      refine ⟨_, rfl, q _ _ _ s3 k3 fun x y => up_any fok (n := 8) (by have := nok.l6; omega) (m3 x y)⟩
end
end TK

/-! the tolls by hand to hand of a rule -/
namespace TK
open PySem PySem.Spec PyProof.Rows L2
theorem flt_at {α : Type} {p : α → Bool} {l : List α} {i : Nat} {x : α} (h : l[i]? = some x) : (l.take (i + 1)).filter p = (l.take i).filter p ++ if p x then [x] else [] := by
  rw [List.take_add_one, h, List.filter_append]
  by_cases q : p x = true
  · rw [if_pos q]; show _ ++ List.filter p [x] = _; rw [List.filter_cons, if_pos q, List.filter_nil]
  · rw [if_neg q]; show _ ++ List.filter p [x] = _; rw [List.filter_cons, if_neg q, List.filter_nil]
theorem LOk.flt {zs : List Nam} {ts : List Tie} (h : LOk zs ts) (p : Tie → Bool) : LOk zs (ts.filter p) := by
  have s : ∀ t ∈ ts.filter p, t ∈ ts := fun t m => (List.mem_filter.mp m).1
  exact ⟨h.nm, h.nd, h.l1, h.l6, Nat.le_trans (List.length_filter_le _ _) h.t12, fun t m => h.a t (s t m), fun t m => h.b t (s t m), fun t m => h.ne t (s t m), fun t m => h.h0 t (s t m), fun t m => h.h9 t (s t m)⟩
theorem fldsL_tolls (a b : Addr) : (fldsL a b).lookup ("tolls" : Str) = none := by
  unfold fldsL
  rw [lookup_putF, if_neg (by decide +kernel), lookup_putF, if_neg (by decide +kernel)]
  rfl
theorem fldsT_closed (a b : Addr) : (fldsT a b).lookup ("closed" : Str) = none := by
  unfold fldsT
  rw [lookup_putF, if_neg (by decide +kernel), lookup_putF, if_neg (by decide +kernel)]
  rfl
/-- the ties whose giver is not barred -/
def freeT (ks : List Nam) (ts : List Tie) : List Tie := ts.filter fun t => !decide (t.1 ∈ ks)
theorem fn_R {P : Program} {w : World} {K : PySem.W.Frag} {mg : Str → Option Value} {base : Heap} {k : Nat} {f : Addr} {fd : FuncData} {ps : List Str} {sp : Sp} (F : FnOk P w K mg base CX0 k f fd ps sp) (b : Binds K fd ps []) : FnR P w K mg base CX0 k f sp := fun A outer s H us vs Q E hr he hv hs => by
  have hl : (us ++ []).length = ps.length := by rw [List.append_nil, ← hv.length]; exact F.len _ _ _ _ hs
  have hb := b s us (he.mod.kin.keeps fun x o e => (he.bs x o e).1) hl
  rw [List.append_nil] at hb
  exact F.run A outer s H ⟨us, []⟩ us vs Q E hr he hb hv hs
section
variable {P : Program} {w : World} {K : PySem.W.Frag} {mg : Str → Option Value} {base : Heap}
def spHandT (K : PySem.W.Frag) (CL CT : Addr) : Sp := fun vs H Q _ => ∃ (p bt : Addr) (zs ks : List Nam) (ts : List Tie), vs = [.ref p, .ref bt] ∧ LkAt CL H p zs ts ∧ LOk zs ts ∧ H bt = some (.tup (ks.map vN)) ∧
  ∀ H' r h, Same H H' → TkF K CT H' r zs h → (∀ x y, IsMin (h x y) (Any zs (leastE (freeT ks ts)) x y)) → Q (.ref r) H'
theorem ok_hand_tolls {f CL CT fL gi gt gc : Addr} {fd fdL fdt fdc : FuncData} (F : Fun K "_hand_tolls" "_hand_tolls" s_hand_tolls f fd) (TL : TxtL K CL) (TT : TxtT K CT) (O_Links_iter : Own K CL "__iter__" gi) (I_Links : FnIt P w K mg base 1 gi (RLk K CL))
    (M_Links : Mk K CL fL) (G_Links : FnOk P w K mg base CX0 3 fL fdL ["self", "names", "links"] (spInitL K CL)) (mg_Links : mg "Links" = some (.ref CL)) (b_Links : Binds K fdL ["self", "names", "links"] [])
    (Me_tolls : Meth K CL "tolls" gt) (G_tolls : FnOk P w K mg base CX0 5 gt fdt ["self"] (spTollsM K CL CT)) (b_tolls : Binds K fdt ["self"] []) (Me_closed : Meth K CT "closed" gc) (G_closed : FnOk P w K mg base CX0 6 gc fdc ["self"] (spClosed K CT)) (b_closed : Binds K fdc ["self"] []) :
    FnOk P w K mg base CX0 7 f fd ["links", "barred"] (spHandT K CL CT) := by
  refine F.ok sc_hand_tolls (fun vs H Q E h => ?_) (fun cdv A outer s H vs Q E hr h => ?_)
  · obtain ⟨p, bt, zs, ks, ts, rfl, _⟩ := h
    rfl
  · obtain ⟨p, bt, zs, ks, ts, rfl, ⟨dx, a, b, es, hp, hA, hB, hT⟩, ok, hK, q⟩ := h
    refine ⟨_, (pss_cons (ps_setLc (i := 2) (own := [("link", 3)]) (by rfl) sc_hand_tolls.nd rfl rfl (sw_true rfl rfl rfl (by decide +kernel)) (pi_own O_Links_iter I_Links (hr.mono (by decide)) (pv 0)) (blkOk_by (N := ["links", "barred", "free", "link"]) (sc := defScope s_hand_tolls) (by decide +kernel)) (fun _ _ _ _ _ => (pg_name (i := 3) sc_hand_tolls.nd rfl (.inl rfl))) (fun _ _ _ _ _ => (pts_one (pt_cmpR (op_notIn_seqK (K := K) rfl) (pe_ix (ix_tupK (K := K) rfl) (pv 3) pe_int (fun _ _ => rfl)) (pv 1) (by rfl)))) (fun _ _ _ _ _ => (pv 3)))
  (pss_one (ps_ret (pe_meth0 (pe_meth0 (pe_make M_Links G_Links (hr.mono (by decide)) (by rfl) mg_Links b_Links .nil pass0 (pa_cons (pe_fld (pv 0) rfl) (pa_cons (pv 2) pa_nil))) TL.cl Me_tolls G_tolls (hr.mono (by decide)) b_tolls .nil pass0) TT.cl Me_closed G_closed (hr.mono (by decide)) b_closed .nil pass0)))), ?_⟩
    have el : (es.map V.ref).length = ts.length := by rw [List.length_map, hT.1]
    have t12 := ok.t12
    refine ⟨_, rfl, p, dx, _, b, rfl, hp, ⟨dx, a, _, hp, tupAt hB⟩, ⟨_, tupAt hB⟩, fun D nD => ?_⟩
    refine lc_tup (K := K) (a := b) (xs := es.map V.ref) (fun i H' => ∃ fs : List Addr, Same H H' ∧ H' D = some (.lst (fs.map V.ref)) ∧ TiesAt H' fs (freeT ks (ts.take i))) ⟨[], same_upd nD, upd_same, rfl, fun _ _ h => (nomatch h)⟩ (fun i H' _ hq => tupAt (hq.choose_spec.1 _ _ hB)) (fun i v H' hx hq => ?_) (fun H' hq => ?_)
    · obtain ⟨fs, s1, eD, hF⟩ := hq
      obtain ⟨e, t, rfl, _, et, ht⟩ := ties_at (hT.same s1) hx
      have fl : fs.length ≤ 12 := by
        rw [hF.1]
        exact Nat.le_trans (List.length_filter_le _ _) (by rw [List.length_take]; omega)
      unfold freeT
      rw [flt_at et]
      refine ⟨rfl, ?_⟩
      refine ⟨_, rfl, _, _, 0, vN t.1, rfl, rfl, tupAt ht, atI_in (by decide) rfl, _, rfl, bt, _, rfl, .inr (tupAt (s1 _ _ hK)), rfl, nms_flat _, _, rfl, ?_⟩
      rw [notin_nm]
      by_cases hm : t.1 ∈ ks
      · rw [decide_eq_true hm]
        exact iteF ⟨fs, s1, eD, by rw [if_neg (by decide), List.append_nil]; exact hF⟩
      · rw [decide_eq_false hm]
        refine iteT ⟨_, rfl, _, eD, by rw [List.length_map]; exact small1000 (by omega), fs ++ [e], same_at s1 nD, by rw [List.map_append]; exact upd_same, ?_⟩
        rw [if_pos (by decide)]
        have one : TiesAt H' [e] [t] := ⟨rfl, fun j a ha => by
          match j, ha with
          | 0, ha => cases Option.some.inj ha; exact ⟨t, rfl, ht⟩⟩
        exact (TiesAt.app hF one).wrote eD
    · obtain ⟨fs, s1, eD, hF⟩ := hq
      rw [el, List.take_length] at hF
      have okf := ok.flt fun t => !decide (t.1 ∈ ks)
      refine ⟨_, rfl, p, CL, dx, _, _, rfl, s1 _ _ hp, TL.cl, TL.nN, fldsL_names _ _, _, rfl, fun r d nr nd dn => ?_⟩
      have s2 := (same_upd (o := .own r) nd).trans (same_upd (H := upd H' d (.own r)) (o := .ins CL d []) (by rw [upd_ne (Ne.symm dn)]; exact nr))
      refine ⟨r, a, D, d, zs, fs, _, rfl, upd_same, .inr (hA.same (s1.trans s2)), .inl (lstAt (s2 _ _ eD)), hF.same s2, okf, fun H3 lk3 f => ⟨rfl, ?_⟩⟩
      have s13 : Same H H3 := fun c x e => f c x (s2 _ _ (s1 _ _ e)) (ne_of_none (s1 _ _ e) nr)
      obtain ⟨dx3, a3, b3, es3, hp3, _⟩ := id lk3
      refine ⟨r, dx3, _, rfl, hp3, fldsL_tolls _ _, r, zs, _, rfl, lk3, okf, fun H4 r2 nr2 s4 tk => ?_⟩
      obtain ⟨dx4, a4, d4, kv4, hp4, _⟩ := id tk
      exact ⟨r2, dx4, _, rfl, hp4, fldsT_closed _ _, r2, zs, _, rfl, ⟨_, tk, okf.eo, fun x y => rfl, Nat.le_trans okf.t12 (by decide)⟩, okf.ns, fun H5 r3 h s5 tk5 hm => q H5 r3 h (s13.trans (s4.trans s5)) tk5 hm⟩
end
end TK

/-! picks told as a list -/
namespace TK
open PySem PySem.Spec PyProof.Rows L2
section
variable {P : Program} {w : World} {K : PySem.W.Frag} {mg : Str → Option Value} {base : Heap}
def spPicksL (K : PySem.W.Frag) : Sp := fun vs H Q _ => ∃ (a b : Addr) (xs ys : List (List Nat)), vs = [.ref a, .ref b] ∧ SqL K H a (xs.map vN) ∧ SqS K H b (ys.map vN) ∧ xs.Nodup ∧ (∀ x ∈ xs, x ∈ ys) ∧ ∀ H', Same H H' → Q .non H'
theorem ok_check_picksL {f : Addr} {fd : FuncData} (F : Fun K "check_picks" "check_picks" s_check_picks f fd) (m_enumerate : mg "enumerate" = none) : FnOk P w K mg base CX0 1 f fd ["picks", "known"] (spPicksL K) := by
  refine F.ok sc_check_picks (fun vs H Q E h => ?_) (fun cdv A outer s H vs Q E hr h => ?_)
  · obtain ⟨a, b, xs, ys, rfl, _⟩ := h
    rfl
  · obtain ⟨a, b, xs, ys, rfl, hT, hL, nd, sub, q⟩ := h
    refine ⟨_, (pss_one (ps_for PassesOwn.never rfl (pi_enum (by rfl) m_enumerate (pa_cons (pv 0) pa_nil)) (pg_tup (by rfl) (pgs_cons (pg_name (i := 2) sc_check_picks.nd rfl (.inl rfl)) (pgs_cons (pg_name (i := 3) sc_check_picks.nd rfl (.inl rfl)) pgs_nil)))
    (pss_cons (ps_if (pt_cmpR op_notIn_seq (pv 3) (pv 1) (by rfl)) (pss_one ps_never) pss_nil)
  (pss_one (ps_if (pt_cmpR op_in_seq (pv 3) (pe_slice sl_list (pv 0) po_none (po_some (pv 2))) (by rfl)) (pss_one ps_never) pss_nil))))), ?_⟩
    refine ⟨_, rfl, _, _, rfl, hT, for_it walk_enum (fun _ σ H2 => Same H H2 ∧ ∃ y1 y2 : Option V, σ = [some (.ref a), some (.ref b), y1, y2]) ⟨Same.refl H, _, _, rfl⟩ (fun i σ H2 _ hp => hp.1.seq hT) ?_ ?_⟩
    · rintro i x σ H2 H3 hi ⟨sm, y1, y2, rfl⟩ ⟨T, z1, z2, rfl, nT, rfl, e1, e2⟩
      cases e1
      obtain ⟨z, ez, rfl⟩ := vN_at e2
      have sm3 := sm.trans (same_upd (o := .tup [.int (i : Nat), vN z]) nT)
      refine ⟨_, _, rfl, tupAt upd_same, rfl, _, _, rfl, _, _, rfl, rfl, ?_⟩
      refine ⟨_, rfl, _, rfl, _, _, rfl, hL.same sm3, rfl, nms_flat _, _, rfl, ?_⟩
      rw [notin_nm, decide_eq_true (sub _ (List.mem_of_getElem? ez))]
      refine iteF ?_
      refine ⟨_, rfl, _, rfl, _, rfl, _, rfl, _, _, rfl, sm3.seq hT, fun p np => ?_⟩
      rw [cut_names]
      have sp := same_upd (o := .lst ((xs.take i).map vN)) np
      refine ⟨p, _, rfl, .inl (lstAt upd_same), rfl, nms_flat _, _, rfl, ?_⟩
      rw [in_nm, decide_eq_false (not_before nd ez)]
      exact iteF ⟨sm3.trans sp, _, _, rfl⟩
    · rintro σ H2 ⟨sm, y1, y2, rfl⟩
      exact q _ sm
end
end TK

/-! Rule.__init__ -/
namespace TK
open PySem PySem.Spec PyProof.Rows L2
abbrev s_Rule_init : Stmt := inClass (topS 32) 0
theorem sc_Rule_init : FnScope ["self", "name", "members", "limit", "barred", "links", "deposit", "fee", "start", "coins", "member"] ["self", "name", "members", "limit", "barred", "links", "deposit", "fee", "start"] (defScope s_Rule_init) := ⟨rfl, rfl, rfl, by decide +kernel, rfl, by decide +kernel, by decide +kernel⟩
def SameP (p : Addr) (H H' : Hp) : Prop := ∀ c o, H c = some o → c ≠ p → H' c = some o
theorem same_p {p : Addr} {H H' : Hp} (s : Same H H') : SameP p H H' := fun c o e _ => s c o e
theorem SameP.trans {p : Addr} {H H' H'' : Hp} (s : SameP p H H') (t : SameP p H' H'') : SameP p H H'' := fun c o e n => t c o (s c o e n) n
theorem samep_upd {p : Addr} {H : Hp} {o : HO} : SameP p H (upd H p o) := fun c x e n => by rw [upd_ne n]; exact e
theorem put_len {f : Str} {v : V} {fs : List (Str × V)} {n : Nat} (h : fs.length ≤ n) : (putF f v fs).length ≤ n + 1 := Nat.le_trans (putF_len f v fs) (Nat.succ_le_succ h)
theorem put_same (f : Str) (v : V) (fs : List (Str × V)) : (putF f v fs).lookup f = some v := by
  rw [lookup_putF, if_pos rfl]
theorem put_ne {f g : Str} {v x : V} {fs : List (Str × V)} (h : fs.lookup g = some x) (n : ¬ g = f) : (putF f v fs).lookup g = some x := by
  rw [lookup_putF, if_neg n]
  exact h
/-- what the def is given: members, barred, links -/
structure Gd (K : PySem.W.Frag) (H : Hp) (a b c : Addr) (zs ks : List Nam) (es : List Addr) (ts : List Tie) : Prop where
  m : SqL K H a (zs.map vN)
  b : SqL K H b (ks.map vN)
  l : SqL K H c (es.map V.ref)
  t : TiesAt H es ts
theorem ties_frame {H H' : Hp} {p C dx : Addr} {fs : List (Str × V)} {es : List Addr} {ts : List Tie} (h : TiesAt H es ts) (hp : H p = some (.ins C dx fs)) (f : SameP p H H') : TiesAt H' es ts := ⟨h.1, fun i e he => by
  obtain ⟨t, h1, h2⟩ := h.2 i e he
  exact ⟨t, h1, f _ _ h2 (ne_of h2 hp (by intro z; cases z))⟩⟩
theorem Gd.fr {K : PySem.W.Frag} {H H' : Hp} {a b c p C dx : Addr} {fs : List (Str × V)} {zs ks : List Nam} {es : List Addr} {ts : List Tie} (g : Gd K H a b c zs ks es ts) (hp : H p = some (.ins C dx fs)) (f : SameP p H H') : Gd K H' a b c zs ks es ts := ⟨sqL_frame g.m hp f, sqL_frame g.b hp f, sqL_frame g.l hp f, ties_frame g.t hp f⟩
theorem Gd.same {K : PySem.W.Frag} {H H' : Hp} {a b c : Addr} {zs ks : List Nam} {es : List Addr} {ts : List Tie} (g : Gd K H a b c zs ks es ts) (s : Same H H') : Gd K H' a b c zs ks es ts := ⟨s.seq g.m, s.seq g.b, s.seq g.l, g.t.same s⟩
structure TxtRu (K : PySem.W.Frag) (C : Addr) : Prop where
  cl : Cls K C
  n1 : NoAttr K C "name"
  n2 : NoAttr K C "members"
  n3 : NoAttr K C "limit"
  n4 : NoAttr K C "barred"
  n5 : NoAttr K C "links"
  n6 : NoAttr K C "deposit"
  n7 : NoAttr K C "fee"
  n8 : NoAttr K C "start"
  n9 : NoAttr K C "_hand_tolls"
theorem lk_frame {H H' : Hp} {r p C CL dx : Addr} {fs : List (Str × V)} {zs : List Nam} {ts : List Tie} (h : LkAt CL H r zs ts) (hp : H p = some (.ins C dx fs)) (n : r ≠ p) (f : SameP p H H') : LkAt CL H' r zs ts := by
  obtain ⟨d, a, b, es, h1, h2, h3, h4⟩ := h
  exact ⟨d, a, b, es, f _ _ h1 n, tl_frame h2 hp f, f _ _ h3 (ne_of h3 hp (by intro z; cases z)), ties_frame h4 hp f⟩
theorem lk_same {H H' : Hp} {r CL : Addr} {zs : List Nam} {ts : List Tie} (h : LkAt CL H r zs ts) (s : Same H H') : LkAt CL H' r zs ts := by
  obtain ⟨d, a, b, es, h1, h2, h3, h4⟩ := h
  exact ⟨d, a, b, es, s _ _ h1, h2.same s, s _ _ h3, h4.same s⟩
theorem tk_frame {K : PySem.W.Frag} {H H' : Hp} {r p C CT dx : Addr} {fs : List (Str × V)} {zs : List Nam} {h : Pr} (t : TkF K CT H r zs h) (hp : H p = some (.ins C dx fs)) (n : r ≠ p) (f : SameP p H H') : TkF K CT H' r zs h := by
  obtain ⟨ts, ⟨d, a, e, kvs, h1, h2, h3, h4⟩, k⟩ := t
  exact ⟨ts, ⟨d, a, e, kvs, f _ _ h1 n, tl_frame h2 hp f, f _ _ h3 (ne_of h3 hp (by intro z; cases z)), h4⟩, k⟩
theorem fldsT_barred (a b : Addr) : (fldsT a b).lookup ("barred" : Str) = none := by
  unfold fldsT
  rw [lookup_putF, if_neg (by decide +kernel), lookup_putF, if_neg (by decide +kernel)]
  rfl
/-- no field hides a method that the law calls -/
def meths44 : List Str := ["hand_toll", "barred_toll", "is_barred", "candidates", "moves", "lets", "lines", "changed", "floor", "KIND"]
def Clean (fs : List (Str × V)) : Prop := ∀ g ∈ meths44, fs.lookup g = none
theorem Clean.put {f : Str} {v : V} {fs : List (Str × V)} (h : Clean fs) (n : f ∉ meths44) : Clean (putF f v fs) := fun g hg => by
  rw [lookup_putF, if_neg fun e : g = f => n (e ▸ hg)]
  exact h g hg
theorem Clean.nil : Clean [] := fun _ _ => rfl
def LenC (n : Nat) (fs : List (Str × V)) : Prop := fs.length ≤ n ∧ Clean fs
/-- a rule: what its methods read -/
def RuN (n : Nat) (K : PySem.W.Frag) (C CL CT : Addr) (H : Hp) (p : Addr) (zs kb : List Nam) (ts : List Tie) : Prop := ∃ (dx m bt l ht : Addr) (fs : List (Str × V)) (h : Pr), H p = some (.ins C dx fs) ∧ fs.lookup ("members" : Str) = some (.ref m) ∧ fs.lookup ("barred" : Str) = some (.ref bt) ∧ fs.lookup ("links" : Str) = some (.ref l) ∧ fs.lookup ("_hand_tolls" : Str) = some (.ref ht) ∧ LenC n fs ∧
  TL H m (zs.map vN) ∧ H bt = some (.tup (kb.map vN)) ∧ LkAt CL H l zs ts ∧ TkF K CT H ht zs h ∧ (∀ x y, IsMin (h x y) (Any zs (leastE (freeT kb ts)) x y))
abbrev RuAt := RuN 12
theorem RuN.mono {n n' : Nat} {K : PySem.W.Frag} {C CL CT : Addr} {H : Hp} {p : Addr} {zs kb : List Nam} {ts : List Tie} (h : RuN n K C CL CT H p zs kb ts) (k : n ≤ n') : RuN n' K C CL CT H p zs kb ts := by
  obtain ⟨dx, m, bt, l, ht, fs, hh, h1, h2, h3, h4, h5, h6, h7⟩ := h
  exact ⟨dx, m, bt, l, ht, fs, hh, h1, h2, h3, h4, h5, ⟨Nat.le_trans h6.1 k, h6.2⟩, h7⟩
section
variable {P : Program} {w : World} {K : PySem.W.Frag} {mg : Str → Option Value} {base : Heap}
def spInitRu (K : PySem.W.Frag) (C CL CT : Addr) : Sp := fun vs H Q _ => ∃ (p a b c dx : Addr) (nm : Nam) (lim : Option Int) (d1 d2 d3 : Int) (zs ks : List Nam) (es : List Addr) (ts : List Tie), vs = [.ref p, vN nm, .ref a, capV lim, .ref b, .ref c, .int d1, .int d2, .int d3] ∧ H p = some (.ins C dx []) ∧ Gd K H a b c zs ks es ts ∧ LOk zs ts ∧ zs.length ≤ 4 ∧ Nm nm ∧
  (∀ v, lim = some v → 0 ≤ v ∧ v ≤ 3) ∧ ks.Nodup ∧ (∀ x ∈ ks, x ∈ zs) ∧ (0 ≤ d1 ∧ d1 ≤ 1000000000) ∧ (0 ≤ d2 ∧ d2 ≤ 1000000000) ∧ (0 ≤ d3 ∧ d3 ≤ 1000000000) ∧
  ∀ H', RuN 9 K C CL CT H' p zs (zs.filter fun z => decide (z ∈ ks)) ts → SameP p H H' → Q .non H'
theorem ok_Rule_init {f C CL CT fL : Addr} {fd fdL : FuncData} (F : Fun K "__init__" "Rule.__init__" s_Rule_init f fd) (T : TxtRu K C) (m_tuple : mg "tuple" = none)
    (d_is_name : Def P w K mg base "is_name" 1 ["word"] spIsNameH) (d_check_names : DefD P w K mg base "check_names" 2 ["names", "most", "hook"] (spCheckN K) [.bl false]) (d_check_range : Def P w K mg base "check_range" 1 ["number", "low", "high"] spRange)
    (d_check_picks : Def P w K mg base "check_picks" 1 ["picks", "known"] (spPicksL K)) (M_Links : Mk K CL fL) (G_Links : FnOk P w K mg base CX0 3 fL fdL ["self", "names", "links"] (spInitL K CL)) (mg_Links : mg "Links" = some (.ref CL)) (b_Links : Binds K fdL ["self", "names", "links"] [])
    (d_hand_tolls : Def P w K mg base "_hand_tolls" 7 ["links", "barred"] (spHandT K CL CT)) : FnOk P w K mg base CX0 8 f fd ["self", "name", "members", "limit", "barred", "links", "deposit", "fee", "start"] (spInitRu K C CL CT) := by
  refine F.ok sc_Rule_init (fun vs H Q E h => ?_) (fun cdv A outer s H vs Q E hr h => ?_)
  · obtain ⟨p, a, b, c, dx, nm, lim, d1, d2, d3, zs, ks, es, ts, rfl, _⟩ := h
    rfl
  · obtain ⟨p, a, b, c, dx, nm, lim, d1, d2, d3, zs, ks, es, ts, rfl, hp, g, ok, z4, hnm, hlim, knd, ksub, hd1, hd2, hd3, q⟩ := h
    refine ⟨_, (pss_cons (ps_if (pt_not (pt_val (pe_callD d_is_name (hr.mono (by decide)) (by rfl) (pa_cons (pv 1) pa_nil)))) (pss_one ps_never) pss_nil)
  (pss_cons (ps_expr (pe_callDD d_check_names (hr.mono (by decide)) (by rfl) (pa_cons (pv 2) (pa_cons pe_int pa_nil))))
  (pss_cons (ps_cut (ps_if (pt_cmpR op_notN (pv 3) pe_non (nomark _)) (pss_one (ps_expr (pe_callD d_check_range (hr.mono (by decide)) (by rfl) (pa_cons (pv 3) (pa_cons pe_int (pa_cons pe_int pa_nil)))))) pss_nil))
  (pss_cons (ps_expr (pe_callD d_check_picks (hr.mono (by decide)) (by rfl) (pa_cons (pv 4) (pa_cons (pv 2) pa_nil))))
  (pss_cons (ps_fld (pv 0) (pv 1) rfl)
  (pss_cons (ps_fld (pv 0) (pe_callTy call_tuple_of (by rfl) m_tuple (by decide +kernel) (pa_cons (pv 2) pa_nil)) rfl)
  (pss_cons (ps_fld (pv 0) (pv 3) rfl)
  (pss_cons (ps_fld (pv 0) (pe_callTy call_tuple_of (by rfl) m_tuple (by decide +kernel) (pa_cons (pe_lc (own := [("member", 10)]) (by rfl) sc_Rule_init.nd (pi_list (pv 2)) (blkOk_by (N := ["self", "name", "members", "limit", "barred", "links", "deposit", "fee", "start", "coins", "member"]) (sc := defScope s_Rule_init) (by decide +kernel)) (fun _ _ _ _ _ => (pg_name (i := 10) sc_Rule_init.nd rfl (.inl rfl))) (fun _ _ _ _ _ => (pts_one (pt_cmpR (op_in_seqK (K := K) rfl) (pv 10) (pv 4) (by rfl)))) (fun _ _ _ _ _ => (pv 10))) pa_nil)) rfl)
  (pss_cons (ps_fld (pv 0) (pe_make M_Links G_Links (hr.mono (by decide)) (by rfl) mg_Links b_Links .nil pass0 (pa_cons (pv 2) (pa_cons (pv 5) pa_nil))) rfl)
  (pss_cons (ps_for PassesOwn.never rfl (pi_tup (pe_tup (pa_cons (pv 6) (pa_cons (pv 7) (pa_cons (pv 8) pa_nil))))) (pg_name (i := 9) sc_Rule_init.nd rfl (.inl rfl))
    (pss_one (ps_expr (pe_callD d_check_range (hr.mono (by decide)) (by rfl) (pa_cons (pv 9) (pa_cons pe_int (pa_cons (pe_op op_pow pe_int pe_int) pa_nil)))))))
  (pss_cons (ps_fld (pv 0) (pv 6) rfl)
  (pss_cons (ps_fld (pv 0) (pv 7) rfl)
  (pss_cons (ps_fld (pv 0) (pv 8) rfl)
  (pss_one (ps_fld (pv 0) (pe_callD d_hand_tolls (hr.mono (by decide)) (by rfl) (pa_cons (pe_fld (pv 0) rfl) (pa_cons (pe_fld (pv 0) rfl) pa_nil))) rfl))))))))))))))), ?_⟩
    refine ⟨_, rfl, nm, rfl, .inl hnm, fun H1 s1 => ⟨_, rfl, ?_⟩⟩
    rw [nz_nm hnm]
    refine iteF ⟨_, rfl, a, 4, zs, rfl, .inl (s1.seq g.m), ok.l1, by omega, ok.l6, ok.nm, ok.nd, fun H2 s2 => ?_⟩
    have s12 := s1.trans s2
    refine ⟨fun σ H' => σ = [some (.ref p), some (vN nm), some (.ref a), some (capV lim), some (.ref b), some (.ref c), some (.int d1), some (.int d2), some (.int d3), none, none] ∧ H' = H2, ?_, ?_⟩
    · cases lim with
      | none =>
        refine ⟨_, rfl, rfl, _, rfl, ?_⟩
        exact iteF ⟨rfl, rfl⟩
      | some v =>
        obtain ⟨l1, l2⟩ := hlim v rfl
        refine ⟨_, rfl, rfl, _, rfl, ?_⟩
        rw [decide_eq_false (show ¬ capV (some v) = V.non from nofun)]
        exact iteT ⟨_, rfl, _, _, _, rfl, l1, l2, rfl, rfl⟩
    rintro σ H' ⟨rfl, rfl⟩
    refine ⟨_, rfl, _, rfl, b, a, ks, zs, rfl, s12.seq g.b, .inl (s12.seq g.m), knd, ksub, fun H3 s3 => ?_⟩
    have s13 := s12.trans s3
    have g3 := g.same s13
    have p3 := s13 _ _ hp
    -- name
    refine ⟨_, rfl, _, rfl, p, C, dx, _, rfl, p3, T.cl, T.n1, by decide, ?_⟩
    have f4 := (same_p (p := p) s13).trans (samep_upd (p := p) (H := H3) (o := .ins C dx (putF "name" (vN nm) [])))
    have g4 := g3.fr p3 (samep_upd (o := .ins C dx (putF "name" (vN nm) [])))
    have p4 : (upd H3 p (.ins C dx (putF "name" (vN nm) []))) p = some (.ins C dx (putF "name" (vN nm) [])) := upd_same
    generalize upd H3 p (.ins C dx (putF "name" (vN nm) [])) = H4 at f4 g4 p4 ⊢
    -- members
    refine ⟨_, rfl, a, _, rfl, .inl ⟨g4.m, fun m nm5 => ?_⟩⟩
    have sm := same_upd (o := .tup (zs.map vN)) nm5
    have g5 := g4.same sm
    have p5 := sm _ _ p4
    have hm5 : TL (upd H4 m (.tup (zs.map vN))) m (zs.map vN) := .inl upd_same
    have f5 := f4.trans (same_p (p := p) sm)
    generalize upd H4 m (.tup (zs.map vN)) = H5 at g5 p5 hm5 f5 ⊢
    refine ⟨_, rfl, p, C, dx, _, rfl, p5, T.cl, T.n2, Nat.lt_of_le_of_lt (putF_len _ _ _) (by decide), ?_⟩
    have f6 := f5.trans (samep_upd (p := p) (H := H5) (o := .ins C dx (putF "members" (.ref m) (putF "name" (vN nm) []))))
    have g6 := g5.fr p5 (samep_upd (o := .ins C dx (putF "members" (.ref m) (putF "name" (vN nm) []))))
    have hm6 := tl_frame hm5 p5 (samep_upd (o := .ins C dx (putF "members" (.ref m) (putF "name" (vN nm) []))))
    have p6 : (upd H5 p (.ins C dx (putF "members" (.ref m) (putF "name" (vN nm) [])))) p = some (.ins C dx (putF "members" (.ref m) (putF "name" (vN nm) []))) := upd_same
    generalize upd H5 p (.ins C dx (putF "members" (.ref m) (putF "name" (vN nm) []))) = H6 at f6 g6 hm6 p6 ⊢
    have l6 : (putF "members" (.ref m) (putF "name" (vN nm) [])).length ≤ 2 := put_len (put_len (Nat.zero_le _))
    have c6 : Clean (putF "members" (.ref m) (putF "name" (vN nm) [])) := (Clean.nil.put (by decide +kernel)).put (by decide +kernel)
    have km6 : (putF "members" (.ref m) (putF "name" (vN nm) [])).lookup ("members" : Str) = some (.ref m) := put_same _ _ _
    generalize putF "members" (.ref m) (putF "name" (vN nm) []) = fs6 at p6 l6 c6 km6
    -- limit
    refine ⟨_, rfl, _, rfl, p, C, dx, _, rfl, p6, T.cl, T.n3, by omega, ?_⟩
    have f7 := f6.trans (samep_upd (p := p) (H := H6) (o := .ins C dx (putF "limit" (capV lim) fs6)))
    have g7 := g6.fr p6 (samep_upd (o := .ins C dx (putF "limit" (capV lim) fs6)))
    have hm7 := tl_frame hm6 p6 (samep_upd (o := .ins C dx (putF "limit" (capV lim) fs6)))
    have p7 : (upd H6 p (.ins C dx (putF "limit" (capV lim) fs6))) p = some (.ins C dx (putF "limit" (capV lim) fs6)) := upd_same
    generalize upd H6 p (.ins C dx (putF "limit" (capV lim) fs6)) = H7 at f7 g7 hm7 p7 ⊢
    have l7 : (putF "limit" (capV lim) fs6).length ≤ 3 := put_len l6
    have c7 : Clean (putF "limit" (capV lim) fs6) := c6.put (by decide +kernel)
    have km7 : (putF "limit" (capV lim) fs6).lookup ("members" : Str) = some (.ref m) := put_ne km6 (by decide +kernel)
    generalize putF "limit" (capV lim) fs6 = fs7 at p7 l7 c7 km7
    -- barred
    refine ⟨_, rfl, a, rfl, ⟨_, g7.m⟩, fun D nD => ?_⟩
    refine lc_list (K := K) (a := a) (xs := zs.map vN) (fun i H' => Same H7 H' ∧ H' D = some (.lst (((zs.take i).filter fun z => decide (z ∈ ks)).map vN))) ⟨same_upd nD, upd_same⟩ (fun i H' _ hq => hq.1.seq g7.m) (fun i v H' hx hq => ?_) (fun H' hq => ?_)
    · obtain ⟨s8, eD⟩ := hq
      obtain ⟨z, ez, rfl⟩ := vN_at hx
      have fl : ((zs.take i).filter fun z => decide (z ∈ ks)).length ≤ 4 := Nat.le_trans (List.length_filter_le _ _) (by rw [List.length_take]; omega)
      rw [flt_at ez]
      refine ⟨rfl, _, rfl, _, rfl, b, _, rfl, .inl (s8.seq g7.b), rfl, nms_flat _, _, rfl, ?_⟩
      rw [in_nm]
      by_cases hz : z ∈ ks
      · rw [decide_eq_true hz]
        refine iteT ⟨_, rfl, _, eD, by rw [List.length_map]; exact small1000 (by omega), same_at s8 nD, ?_⟩
        rw [if_pos rfl, List.map_append]
        exact upd_same
      · rw [decide_eq_false hz]
        exact iteF ⟨s8, by rw [if_neg Bool.false_ne_true, List.append_nil]; exact eD⟩
    obtain ⟨s8, eD⟩ := hq
    rw [List.length_map, List.take_length] at eD
    generalize hkb : zs.filter (fun z => decide (z ∈ ks)) = kb at eD q
    refine ⟨D, _, rfl, .inl ⟨lstAt eD, fun bt nbt => ?_⟩⟩
    have s9 := s8.trans (same_upd (o := .tup (kb.map vN)) nbt)
    have hbt9 : (upd H' bt (.tup (kb.map vN))) bt = some (.tup (kb.map vN)) := upd_same
    generalize upd H' bt (.tup (kb.map vN)) = H9 at s9 hbt9 ⊢
    have p9 := s9 _ _ p7
    have g9 := g7.same s9
    have hm9 := hm7.same s9
    have f9 := f7.trans (same_p (p := p) s9)
    refine ⟨_, rfl, p, C, dx, _, rfl, p9, T.cl, T.n4, by omega, ?_⟩
    have e10 := samep_upd (p := p) (H := H9) (o := .ins C dx (putF "barred" (.ref bt) fs7))
    have f10 := f9.trans e10
    have g10 := g9.fr p9 e10
    have hm10 := tl_frame hm9 p9 e10
    have hbt10 := e10 _ _ hbt9 (ne_of hbt9 p9 (by intro z; cases z))
    have p10 : (upd H9 p (.ins C dx (putF "barred" (.ref bt) fs7))) p = some (.ins C dx (putF "barred" (.ref bt) fs7)) := upd_same
    generalize upd H9 p (.ins C dx (putF "barred" (.ref bt) fs7)) = H10 at f10 g10 hm10 hbt10 p10 ⊢
    have l10 : (putF "barred" (.ref bt) fs7).length ≤ 4 := put_len l7
    have c10 : Clean (putF "barred" (.ref bt) fs7) := c7.put (by decide +kernel)
    have km10 : (putF "barred" (.ref bt) fs7).lookup ("members" : Str) = some (.ref m) := put_ne km7 (by decide +kernel)
    have kb10 : (putF "barred" (.ref bt) fs7).lookup ("barred" : Str) = some (.ref bt) := put_same _ _ _
    generalize putF "barred" (.ref bt) fs7 = fs10 at p10 l10 c10 km10 kb10
    -- links
    refine ⟨_, rfl, _, rfl, fun r d nr nd dn => ?_⟩
    have s2 := (same_upd (o := .own r) nd).trans (same_upd (H := upd H10 d (.own r)) (o := .ins CL d []) (by rw [upd_ne (Ne.symm dn)]; exact nr))
    have g10' := g10.same s2
    refine ⟨r, a, c, d, zs, es, ts, rfl, upd_same, .inl g10'.m, .inl g10'.l, g10'.t, ok, fun H11 lk11 fr => ⟨rfl, ?_⟩⟩
    have s11 : Same H10 H11 := fun c x e => fr c x (s2 _ _ e) (ne_of_none e nr)
    have nrp : r ≠ p := (ne_of_none p10 nr).symm
    have p11 := s11 _ _ p10
    have hm11 := hm10.same s11
    have hbt11 := s11 _ _ hbt10
    have f11 := f10.trans (same_p (p := p) s11)
    refine ⟨_, rfl, p, C, dx, _, rfl, p11, T.cl, T.n5, by omega, ?_⟩
    have e12 := samep_upd (p := p) (H := H11) (o := .ins C dx (putF "links" (.ref r) fs10))
    have f12 := f11.trans e12
    have hm12 := tl_frame hm11 p11 e12
    have hbt12 := e12 _ _ hbt11 (ne_of hbt11 p11 (by intro z; cases z))
    have lk12 := lk_frame lk11 p11 nrp e12
    have p12 : (upd H11 p (.ins C dx (putF "links" (.ref r) fs10))) p = some (.ins C dx (putF "links" (.ref r) fs10)) := upd_same
    generalize upd H11 p (.ins C dx (putF "links" (.ref r) fs10)) = H12 at f12 hm12 hbt12 lk12 p12 ⊢
    have l12 : (putF "links" (.ref r) fs10).length ≤ 5 := put_len l10
    have c12 : Clean (putF "links" (.ref r) fs10) := c10.put (by decide +kernel)
    have km12 : (putF "links" (.ref r) fs10).lookup ("members" : Str) = some (.ref m) := put_ne km10 (by decide +kernel)
    have kb12 : (putF "links" (.ref r) fs10).lookup ("barred" : Str) = some (.ref bt) := put_ne kb10 (by decide +kernel)
    have kl12 : (putF "links" (.ref r) fs10).lookup ("links" : Str) = some (.ref r) := put_same _ _ _
    generalize putF "links" (.ref r) fs10 = fs12 at p12 l12 c12 km12 kb12 kl12
    -- the coins
    refine ⟨_, rfl, _, rfl, _, rfl, (show (3 : Nat) ≤ sizeLine by decide), fun cc ncc => ?_⟩
    have sc := same_upd (o := .tup [V.int d1, .int d2, .int d3]) ncc
    have ecc : (upd H12 cc (.tup [V.int d1, .int d2, .int d3])) cc = some (.tup [V.int d1, .int d2, .int d3]) := upd_same
    have p13 := sc _ _ p12
    have hm13 := hm12.same sc
    have hbt13 := sc _ _ hbt12
    have lk13 := lk_same lk12 sc
    have f13 := f12.trans (same_p (p := p) sc)
    generalize upd H12 cc (.tup [V.int d1, .int d2, .int d3]) = H13 at ecc p13 hm13 hbt13 lk13 f13 ⊢
    refine ⟨cc, rfl, ⟨_, tupAt ecc⟩, for_tup (K := K) (a := cc) (xs := [V.int d1, .int d2, .int d3]) (fun i σ H' => ∃ y9 : Option V, σ = [some (.ref p), some (vN nm), some (.ref a), some (capV lim), some (.ref b), some (.ref c), some (.int d1), some (.int d2), some (.int d3), y9, none] ∧ H' = H13) ⟨_, rfl, rfl⟩ (fun i σ H' _ hq => ?_) ?_ ?_⟩
    · obtain ⟨_, rfl, rfl⟩ := hq
      exact tupAt ecc
    · rintro i v σ H' hx ⟨y9, rfl, rfl⟩
      have hv : ∃ t : Int, v = .int t ∧ 0 ≤ t ∧ t ≤ 1000000000 := by
        match i, hx with
        | 0, hx => cases Option.some.inj hx; exact ⟨_, rfl, hd1⟩
        | 1, hx => cases Option.some.inj hx; exact ⟨_, rfl, hd2⟩
        | 2, hx => cases Option.some.inj hx; exact ⟨_, rfl, hd3⟩
        | j + 3, hx => cases hx
      obtain ⟨t, rfl, t1, t2⟩ := hv
      exact ⟨_, rfl, _, _, rfl, rfl, ⟨by decide, by decide, by decide⟩, t, 0, _, rfl, t1, Int.le_trans t2 (by decide), _, rfl, rfl⟩
    · rintro σ H' ⟨y9, rfl, rfl⟩
      have l13 := l12
      have km13 := km12
      have kb13 := kb12
      have kl13 := kl12
      have f13 := f13
      refine ⟨_, rfl, _, rfl, p, C, dx, _, rfl, p13, T.cl, T.n6, by omega, ?_⟩
      have e14 := samep_upd (p := p) (H := H') (o := .ins C dx (putF "deposit" (.int d1) fs12))
      have f14 := f13.trans e14
      have hm14 := tl_frame hm13 p13 e14
      have hbt14 := e14 _ _ hbt13 (ne_of hbt13 p13 (by intro z; cases z))
      have lk14 := lk_frame lk13 p13 nrp e14
      have p14 : (upd H' p (.ins C dx (putF "deposit" (.int d1) fs12))) p = some (.ins C dx (putF "deposit" (.int d1) fs12)) := upd_same
      generalize upd H' p (.ins C dx (putF "deposit" (.int d1) fs12)) = H14 at f14 hm14 hbt14 lk14 p14 ⊢
      have l14 : (putF "deposit" (.int d1) fs12).length ≤ 6 := put_len l13
      have c14 : Clean (putF "deposit" (.int d1) fs12) := c12.put (by decide +kernel)
      have km14 : (putF "deposit" (.int d1) fs12).lookup ("members" : Str) = some (.ref m) := put_ne km13 (by decide +kernel)
      have kb14 : (putF "deposit" (.int d1) fs12).lookup ("barred" : Str) = some (.ref bt) := put_ne kb13 (by decide +kernel)
      have kl14 : (putF "deposit" (.int d1) fs12).lookup ("links" : Str) = some (.ref r) := put_ne kl13 (by decide +kernel)
      generalize putF "deposit" (.int d1) fs12 = fs14 at p14 l14 c14 km14 kb14 kl14
      refine ⟨_, rfl, _, rfl, p, C, dx, _, rfl, p14, T.cl, T.n7, by omega, ?_⟩
      have e15 := samep_upd (p := p) (H := H14) (o := .ins C dx (putF "fee" (.int d2) fs14))
      have f15 := f14.trans e15
      have hm15 := tl_frame hm14 p14 e15
      have hbt15 := e15 _ _ hbt14 (ne_of hbt14 p14 (by intro z; cases z))
      have lk15 := lk_frame lk14 p14 nrp e15
      have p15 : (upd H14 p (.ins C dx (putF "fee" (.int d2) fs14))) p = some (.ins C dx (putF "fee" (.int d2) fs14)) := upd_same
      generalize upd H14 p (.ins C dx (putF "fee" (.int d2) fs14)) = H15 at f15 hm15 hbt15 lk15 p15 ⊢
      have l15 : (putF "fee" (.int d2) fs14).length ≤ 7 := put_len l14
      have c15 : Clean (putF "fee" (.int d2) fs14) := c14.put (by decide +kernel)
      have km15 : (putF "fee" (.int d2) fs14).lookup ("members" : Str) = some (.ref m) := put_ne km14 (by decide +kernel)
      have kb15 : (putF "fee" (.int d2) fs14).lookup ("barred" : Str) = some (.ref bt) := put_ne kb14 (by decide +kernel)
      have kl15 : (putF "fee" (.int d2) fs14).lookup ("links" : Str) = some (.ref r) := put_ne kl14 (by decide +kernel)
      generalize putF "fee" (.int d2) fs14 = fs15 at p15 l15 c15 km15 kb15 kl15
      refine ⟨_, rfl, _, rfl, p, C, dx, _, rfl, p15, T.cl, T.n8, by omega, ?_⟩
      have e16 := samep_upd (p := p) (H := H15) (o := .ins C dx (putF "start" (.int d3) fs15))
      have f16 := f15.trans e16
      have hm16 := tl_frame hm15 p15 e16
      have hbt16 := e16 _ _ hbt15 (ne_of hbt15 p15 (by intro z; cases z))
      have lk16 := lk_frame lk15 p15 nrp e16
      have p16 : (upd H15 p (.ins C dx (putF "start" (.int d3) fs15))) p = some (.ins C dx (putF "start" (.int d3) fs15)) := upd_same
      generalize upd H15 p (.ins C dx (putF "start" (.int d3) fs15)) = H16 at f16 hm16 hbt16 lk16 p16 ⊢
      have l16 : (putF "start" (.int d3) fs15).length ≤ 8 := put_len l15
      have c16 : Clean (putF "start" (.int d3) fs15) := c15.put (by decide +kernel)
      have km16 : (putF "start" (.int d3) fs15).lookup ("members" : Str) = some (.ref m) := put_ne km15 (by decide +kernel)
      have kb16 : (putF "start" (.int d3) fs15).lookup ("barred" : Str) = some (.ref bt) := put_ne kb15 (by decide +kernel)
      have kl16 : (putF "start" (.int d3) fs15).lookup ("links" : Str) = some (.ref r) := put_ne kl15 (by decide +kernel)
      generalize putF "start" (.int d3) fs15 = fs16 at p16 l16 c16 km16 kb16 kl16
      -- the tolls by hand
      refine ⟨_, rfl, p, C, dx, _, _, rfl, p16, T.cl, T.n5, kl16, _, rfl, p, C, dx, _, _, rfl, p16, T.cl, T.n4, kb16, ?_⟩
      refine ⟨r, bt, zs, kb, ts, rfl, lk16, ok, hbt16, fun H17 ht hh s17 tk hmin => ?_⟩
      have p17 := s17 _ _ p16
      have hm17 := hm16.same s17
      have hbt17 := s17 _ _ hbt16
      have lk17 := lk_same lk16 s17
      refine ⟨_, rfl, p, C, dx, _, rfl, p17, T.cl, T.n9, by omega, ?_⟩
      have nht : ht ≠ p := fun z => by
        obtain ⟨ts', ⟨d', a', e', kvs', h1, _⟩, _⟩ := tk
        rw [z, p17] at h1
        cases h1
        rw [fldsT_barred] at kb16
        cases kb16
      have e18 := samep_upd (p := p) (H := H17) (o := .ins C dx (putF "_hand_tolls" (.ref ht) fs16))
      refine q _ ⟨dx, m, bt, r, ht, _, hh, upd_same, put_ne km16 (by decide +kernel), put_ne kb16 (by decide +kernel), put_ne kl16 (by decide +kernel), put_same _ _ _, ⟨put_len l16, c16.put (by decide +kernel)⟩, tl_frame hm17 p17 e18, e18 _ _ hbt17 (ne_of hbt17 p17 (by intro z; cases z)), lk_frame lk17 p17 nrp e18, tk_frame tk p17 nht e18, hmin⟩ ?_
      exact (f16.trans (same_p (p := p) s17)).trans e18
end
end TK

/-! bids in the members' order; a page -/
namespace TK
open PySem PySem.Spec PyProof.Rows L2
def rowB (ds : List BidD) (z : Nam) : List BidD := ds.filter fun d => decide (d.1 = z)
def sortB (zs : List Nam) (ds : List BidD) : List BidD := zs.flatMap (rowB ds)
theorem sortB_fst {zs : List Nam} {ds : List BidD} (nd : (ds.map (·.1)).Nodup) : (sortB zs ds).map (·.1) = zs.filter fun z => decide (z ∈ ds.map (·.1)) := by
  have one : ∀ z, (rowB ds z).map (·.1) = if z ∈ ds.map (·.1) then [z] else [] := fun z => by
    unfold rowB
    induction ds with
    | nil => rfl
    | cons d ds ih =>
      have nd2 := (List.nodup_cons.mp (show (d.1 :: ds.map (·.1)).Nodup from nd))
      have ih := ih nd2.2
      have em : (d :: ds).map (·.1) = d.1 :: ds.map (·.1) := rfl
      rw [em]
      by_cases h : d.1 = z
      · rw [List.filter_cons_of_pos (by simp [h]), List.map_cons, ih, if_neg (by rw [← h]; exact nd2.1), if_pos (by rw [← h]; exact List.mem_cons_self)]
        rw [h]
      · rw [List.filter_cons_of_neg (by simp [h]), ih]
        by_cases q : z ∈ ds.map (·.1)
        · rw [if_pos q, if_pos (List.mem_cons_of_mem _ q)]
        · rw [if_neg q, if_neg fun m => (List.mem_cons.mp m).elim (fun e => h e.symm) q]
  induction zs with
  | nil => rfl
  | cons z zs ih =>
    show ((rowB ds z) ++ sortB zs ds).map (·.1) = _
    rw [List.map_append, one, ih, List.filter_cons]
    by_cases q : z ∈ ds.map (·.1)
    · rw [if_pos q, if_pos (decide_eq_true q)]; rfl
    · rw [if_neg q, if_neg (by rw [decide_eq_false q]; decide)]; rfl
theorem sortB_len {zs : List Nam} {ds : List BidD} : (sortB zs ds).length ≤ zs.length * ds.length := by
  induction zs with
  | nil => exact Nat.zero_le _
  | cons z zs ih =>
    show ((rowB ds z) ++ sortB zs ds).length ≤ _
    have : (rowB ds z).length ≤ ds.length := List.length_filter_le _ _
    rw [List.length_append, List.length_cons, Nat.succ_mul]
    omega
section
variable {P : Program} {w : World} {K : PySem.W.Frag} {mg : Str → Option Value} {base : Heap}
def spSortB (K : PySem.W.Frag) : Sp := fun vs H Q _ => ∃ (a b : Addr) (zs : List Nam) (es : List Addr) (ds : List BidD), vs = [.ref a, .ref b] ∧ SqL K H a (zs.map vN) ∧ SqL K H b (es.map V.ref) ∧ BidsAt H es ds ∧ zs.length ≤ 6 ∧ ds.length < 64 ∧ ∀ H' t es', H t = none → Same H H' → H' t = some (.tup (es'.map V.ref)) → BidsAt H' es' (sortB zs ds) → Q (.ref t) H'
theorem ok_sorted_bids {f : Addr} {fd : FuncData} (F : Fun K "_sorted_bids" "_sorted_bids" s_sorted_bids f fd) (m_tuple : mg "tuple" = none) : FnOk P w K mg base CX0 1 f fd ["members", "bids"] (spSortB K) := by
  refine F.ok sc_sorted_bids (fun vs H Q E h => ?_) (fun cdv A outer s H vs Q E hr h => ?_)
  · obtain ⟨a, b, zs, es, ds, rfl, _⟩ := h
    rfl
  · obtain ⟨a, b, zs, es, ds, rfl, hA, hB, hT, z6, l64, q⟩ := h
    have zl : (zs.map vN).length = zs.length := List.length_map ..
    have el : (es.map V.ref).length = ds.length := by rw [List.length_map, hT.1]
    refine ⟨_, (pss_one (ps_ret (pe_callTy call_tuple_of (by rfl) m_tuple (by decide +kernel) (pa_cons (pe_lc2 (own := [("member", 2), ("bidder", 3), ("bid", 4)]) (vs1 := [3, 4]) (by rfl) sc_sorted_bids.nd (pi_list (pv 0)) (blkOk_by (N := ["members", "bids", "member", "bidder", "bid"]) (sc := defScope s_sorted_bids) (by decide +kernel)) (by decide) (fun _ _ _ _ _ => (pg_name (i := 2) sc_sorted_bids.nd rfl (.inl rfl))) (fun _ _ _ _ _ => pts_nil) (fun _ _ _ _ _ => (pi_listK (K := K) rfl (pv 1))) (fun _ _ _ _ _ => (pg_tupK (K := K) (n := 2) rfl (by rfl) (pgs_cons (pg_name (i := 3) sc_sorted_bids.nd rfl (.inl rfl)) (pgs_cons (pg_name (i := 4) sc_sorted_bids.nd rfl (.inl rfl)) pgs_nil)))) (fun _ _ _ _ _ => (pts_one (pt_cmpR op_eq (pv 3) (pv 2) (nomark _)))) (fun _ _ _ _ _ => (pe_tup (pa_cons (pv 2) (pa_cons (pv 4) pa_nil))))) pa_nil)))), ?_⟩
    refine ⟨_, rfl, a, rfl, ⟨_, hA⟩, fun D nD => ?_⟩
    refine walk_go (walk_list (K := K) (a := a) (xs := zs.map vN)) (fun i H' => ∃ fs : List Addr, Same H H' ∧ H' D = some (.lst (fs.map V.ref)) ∧ BidsAt H' fs (sortB (zs.take i) ds)) ⟨[], same_upd nD, upd_same, ⟨rfl, fun _ _ h => nomatch h⟩⟩ (fun i H' _ hq => hq.choose_spec.1.seq hA) (fun i x H1 H2 hi hq hy => ?_) (fun H' hq => ?_)
    · obtain ⟨fs, s1, eD, hF⟩ := hq
      obtain ⟨rfl, hx⟩ := hy
      obtain ⟨z, ez, rfl⟩ := vN_at hx
      have hi6 : i < 6 := by have := (List.getElem?_eq_some_iff.mp ez).1; omega
      have fl : fs.length ≤ 6 * 64 := by
        rw [hF.1]
        refine Nat.le_trans sortB_len (Nat.mul_le_mul ?_ (by omega))
        rw [List.length_take]; omega
      have e1 : sortB (zs.take (i + 1)) ds = sortB (zs.take i) ds ++ rowB ds z := by
        unfold sortB
        rw [List.take_add_one, ez, List.flatMap_append]
        show _ ++ (rowB ds z ++ []) = _
        rw [List.append_nil]
      rw [e1]
      refine ⟨rfl, yesT ⟨_, rfl, b, rfl, ⟨_, s1.seq hB⟩, ?_⟩⟩
      refine walk_go (walk_list (K := K) (a := b) (xs := es.map V.ref)) (fun j H' => ∃ fs : List Addr, Same H H' ∧ H' D = some (.lst (fs.map V.ref)) ∧ BidsAt H' fs (sortB (zs.take i) ds ++ rowB (ds.take j) z)) ⟨fs, s1, eD, by rw [show rowB (ds.take 0) z = [] from rfl, List.append_nil]; exact hF⟩ (fun j H' _ hq => hq.choose_spec.1.seq hB) (fun j x H3 H4 hj hq hy => ?_) (fun H' hq => ?_)
      · obtain ⟨gs, s3, eD3, hG⟩ := hq
        obtain ⟨rfl, hx2⟩ := hy
        obtain ⟨e, d, rfl, ed, he⟩ := bids_at (hT.same s3) hx2
        have hj := (List.getElem?_eq_some_iff.mp ed).1
        have gl : gs.length ≤ 6 * 64 + 64 := by
          rw [hG.1, List.length_append, ← hF.1]
          have : (rowB (ds.take j) z).length ≤ (ds.take j).length := List.length_filter_le _ _
          rw [List.length_take] at this
          omega
        have e2 : rowB (ds.take (j + 1)) z = rowB (ds.take j) z ++ if d.1 = z then [d] else [] := by
          unfold rowB
          rw [flt_at ed]
          by_cases h : d.1 = z
          · rw [if_pos h, if_pos (decide_eq_true h)]
          · rw [if_neg h, if_neg (by rw [decide_eq_false h]; decide)]
        rw [e2]
        refine gTup2w he [some (.ref a), some (.ref b), some (vN z), some (vN d.1), some (.int d.2)] (by simp [wipe, L2.start]) ?_
        refine ⟨rfl, _, rfl, _, rfl, rfl, _, rfl, ?_⟩
        rw [eq_nm]
        by_cases h : d.1 = z
        · rw [decide_eq_true h, if_pos h]
          refine iteT ⟨_, rfl, _, rfl, (show (2 : Nat) ≤ sizeLine by decide), fun t nt => ?_⟩
          have st := same_upd (o := .tup [vN z, .int d.2]) nt
          refine ⟨_, st _ _ eD3, by rw [List.length_map]; exact small1000 (by omega), gs ++ [t], same_at (s3.trans st) nD, by rw [List.map_append]; exact upd_same, ?_⟩
          rw [← List.append_assoc]
          refine ((hG.same st).app (BidsAt.one ?_)).wrote (st _ _ eD3)
          rw [h]
          exact upd_same
        · rw [decide_eq_false h, if_neg h, List.append_nil]
          exact iteF ⟨gs, s3, eD3, hG⟩
      · obtain ⟨gs, s3, eD3, hG⟩ := hq
        rw [el, List.take_length] at hG
        exact ⟨gs, s3, eD3, hG⟩
    · obtain ⟨fs, s1, eD, hF⟩ := hq
      rw [zl, List.take_length] at hF
      refine ⟨D, _, rfl, .inl ⟨lstAt eD, fun t nt => ?_⟩⟩
      have st := same_upd (o := .tup (fs.map V.ref)) nt
      exact q _ t fs (none_of s1 nt) (s1.trans st) upd_same (hF.same st)
end
end TK

/-! a page -/
namespace TK
open PySem PySem.Spec PyProof.Rows L2
abbrev s_Page_init : Stmt := inClass (topS 42) 0
theorem sc_Page_init : FnScope ["self", "name", "bids", "followers", "home", "member", "_"] ["self", "name", "bids", "followers", "home"] (defScope s_Page_init) := ⟨rfl, rfl, rfl, by decide +kernel, rfl, by decide +kernel, by decide +kernel⟩
structure TxtPg (K : PySem.W.Frag) (C : Addr) : Prop where
  cl : Cls K C
  n1 : NoAttr K C "name"
  n2 : NoAttr K C "bids"
  n3 : NoAttr K C "wishers"
  n4 : NoAttr K C "followers"
  n5 : NoAttr K C "home"
/-- a page of a book -/
def PgAt (C : Addr) (H : Hp) (p : Addr) (n : Nam) (ds : List BidD) (fl : List Nam) (hb : Bool) : Prop := ∃ (dx bt wt ft : Addr) (fs : List (Str × V)) (es : List Addr), H p = some (.ins C dx fs) ∧ fs.lookup ("name" : Str) = some (vN n) ∧ fs.lookup ("bids" : Str) = some (.ref bt) ∧ fs.lookup ("wishers" : Str) = some (.ref wt) ∧ fs.lookup ("followers" : Str) = some (.ref ft) ∧ fs.lookup ("home" : Str) = some (.bl hb) ∧
  H bt = some (.tup (es.map V.ref)) ∧ BidsAt H es ds ∧ H wt = some (.tup ((ds.map (·.1)).map vN)) ∧ H ft = some (.tup (fl.map vN))
theorem PgAt.same {C : Addr} {H H' : Hp} {p : Addr} {n : Nam} {ds : List BidD} {fl : List Nam} {hb : Bool} (h : PgAt C H p n ds fl hb) (s : Same H H') : PgAt C H' p n ds fl hb := by
  obtain ⟨dx, bt, wt, ft, fs, es, h0, h1, h2, h3, h4, h5, h6, h7, h8, h9⟩ := h
  exact ⟨dx, bt, wt, ft, fs, es, s _ _ h0, h1, h2, h3, h4, h5, s _ _ h6, h7.same s, s _ _ h8, s _ _ h9⟩
theorem bids_frame {H H' : Hp} {p C dx : Addr} {fs : List (Str × V)} {es : List Addr} {ds : List BidD} (h : BidsAt H es ds) (hp : H p = some (.ins C dx fs)) (f : SameP p H H') : BidsAt H' es ds := ⟨h.1, fun i e he => by
  obtain ⟨d, h1, h2⟩ := h.2 i e he
  exact ⟨d, h1, f _ _ h2 (ne_of h2 hp (by intro z; cases z))⟩⟩
section
variable {P : Program} {w : World} {K : PySem.W.Frag} {mg : Str → Option Value} {base : Heap}
def spInitPg (C : Addr) : Sp := fun vs H Q _ => ∃ (p b f dx : Addr) (n : Nam) (hb : Bool) (es : List Addr) (ds : List BidD) (fl : List Nam), vs = [.ref p, vN n, .ref b, .ref f, .bl hb] ∧ H p = some (.ins C dx []) ∧ H b = some (.tup (es.map V.ref)) ∧ BidsAt H es ds ∧ H f = some (.tup (fl.map vN)) ∧ ds.length ≤ 500 ∧
  ∀ H', PgAt C H' p n ds fl hb → SameP p H H' → Q .non H'
theorem ok_Page {f C : Addr} {fd : FuncData} (F : Fun K "__init__" "Page.__init__" s_Page_init f fd) (T : TxtPg K C) (m_tuple : mg "tuple" = none) : FnOk P w K mg base CX0 1 f fd ["self", "name", "bids", "followers", "home"] (spInitPg C) := by
  refine F.ok sc_Page_init (fun vs H Q E h => ?_) (fun cdv A outer s H vs Q E hr h => ?_)
  · obtain ⟨p, b, f, dx, n, hb, es, ds, fl, rfl, _⟩ := h
    rfl
  · obtain ⟨p, b, f, dx, n, hb, es, ds, fl, rfl, hp, hb', hT, hf, l500, q⟩ := h
    have el : (es.map V.ref).length = ds.length := by rw [List.length_map, hT.1]
    refine ⟨_, (pss_cons (ps_fld (pv 0) (pv 1) rfl)
  (pss_cons (ps_fld (pv 0) (pe_callTy call_tuple_of (by rfl) m_tuple (by decide +kernel) (pa_cons (pv 2) pa_nil)) rfl)
  (pss_cons (ps_fld (pv 0) (pe_callTy call_tuple_of (by rfl) m_tuple (by decide +kernel) (pa_cons (pe_lc (own := [("member", 5), ("_", 6)]) (by rfl) sc_Page_init.nd (pi_tup (pe_fld (pv 0) rfl)) (blkOk_by (N := ["self", "name", "bids", "followers", "home", "member", "_"]) (sc := defScope s_Page_init) (by decide +kernel)) (fun _ _ _ _ _ => (pg_tupK (K := K) (n := 2) rfl (by rfl) (pgs_cons (pg_name (i := 5) sc_Page_init.nd rfl (.inl rfl)) (pgs_cons (pg_name (i := 6) sc_Page_init.nd rfl (.inl rfl)) pgs_nil)))) (fun _ _ _ _ _ => pts_nil) (fun _ _ _ _ _ => (pv 5))) pa_nil)) rfl)
  (pss_cons (ps_fld (pv 0) (pe_callTy call_tuple_of (by rfl) m_tuple (by decide +kernel) (pa_cons (pv 3) pa_nil)) rfl)
  (pss_one (ps_fld (pv 0) (pv 4) rfl)))))), ?_⟩
    refine ⟨_, rfl, _, rfl, p, C, dx, _, rfl, hp, T.cl, T.n1, by decide, ?_⟩
    have k1 := samep_upd (p := p) (H := H) (o := .ins C dx (putF "name" (vN n) []))
    have p1 := upd_same (H := H) (a := p) (o := .ins C dx (putF "name" (vN n) []))
    have b1 := k1 _ _ hb' (ne_of hb' hp (by intro z; cases z))
    have f1 := k1 _ _ hf (ne_of hf hp (by intro z; cases z))
    have t1 := bids_frame hT hp k1
    generalize upd H p (.ins C dx (putF "name" (vN n) [])) = H1 at k1 p1 b1 f1 t1 ⊢
    have l1 : (putF "name" (vN n) []).length ≤ 1 := put_len (Nat.zero_le _)
    have a1 : (putF "name" (vN n) []).lookup ("name" : Str) = some (vN n) := put_same _ _ _
    generalize putF "name" (vN n) [] = g1 at p1 l1 a1
    refine ⟨_, rfl, b, _, rfl, .inr ⟨tupAt b1, _, rfl, p, C, dx, _, rfl, p1, T.cl, T.n2, by omega, ?_⟩⟩
    have e2 := samep_upd (p := p) (H := H1) (o := .ins C dx (putF "bids" (.ref b) g1))
    have k2 := k1.trans e2
    have p2 := upd_same (H := H1) (a := p) (o := .ins C dx (putF "bids" (.ref b) g1))
    have b2 := e2 _ _ b1 (ne_of b1 p1 (by intro z; cases z))
    have f2 := e2 _ _ f1 (ne_of f1 p1 (by intro z; cases z))
    have t2 := bids_frame t1 p1 e2
    generalize upd H1 p (.ins C dx (putF "bids" (.ref b) g1)) = H2 at k2 p2 b2 f2 t2 ⊢
    have l2 : (putF "bids" (.ref b) g1).length ≤ 2 := put_len l1
    have a2 : (putF "bids" (.ref b) g1).lookup ("name" : Str) = some (vN n) := put_ne a1 (by decide +kernel)
    have c2 : (putF "bids" (.ref b) g1).lookup ("bids" : Str) = some (.ref b) := put_same _ _ _
    generalize putF "bids" (.ref b) g1 = g2 at p2 l2 a2 c2
    refine ⟨_, rfl, p, C, dx, _, _, rfl, p2, T.cl, T.n2, c2, b, rfl, ⟨_, tupAt b2⟩, fun D nD => ?_⟩
    refine lc_tup (K := K) (a := b) (xs := es.map V.ref) (fun i H' => Same H2 H' ∧ H' D = some (.lst ((ds.take i).map fun d => vN d.1))) ⟨same_upd nD, upd_same⟩ (fun i H' _ hq => tupAt (hq.1 _ _ b2)) (fun i v H' hv hq => ?_) (fun H3 hq => ?_)
    · obtain ⟨s1, eD⟩ := hq
      obtain ⟨e, d, rfl, ed, he⟩ := bids_at (t2.same s1) hv
      have hi := (List.getElem?_eq_some_iff.mp ed).1
      refine gTup2w he [some (.ref p), some (vN n), some (.ref b), some (.ref f), some (.bl hb), some (vN d.1), some (.int d.2)] (by simp [wipe, L2.start]) ?_
      refine ⟨rfl, yesT ⟨_, rfl, _, eD, by rw [List.length_map, List.length_take]; exact small1000 (by omega), same_at s1 nD, ?_⟩⟩
      rw [List.take_add_one, ed, List.map_append]
      exact upd_same
    obtain ⟨s3, eD⟩ := hq
    rw [el, List.take_length, show (ds.map fun d => vN d.1) = (ds.map (·.1)).map vN by rw [List.map_map]; rfl] at eD
    refine ⟨D, _, rfl, .inl ⟨lstAt eD, fun wt nw => ?_⟩⟩
    have s4 := s3.trans (same_upd (o := .tup ((ds.map (·.1)).map vN)) nw)
    have w4 := upd_same (H := H3) (a := wt) (o := .tup ((ds.map (·.1)).map vN))
    generalize upd H3 wt (.tup ((ds.map (·.1)).map vN)) = H4 at s4 w4 ⊢
    have p4 := s4 _ _ p2
    have b4 := s4 _ _ b2
    have f4 := s4 _ _ f2
    have t4 := t2.same s4
    have k4 := k2.trans (same_p (p := p) s4)
    refine ⟨_, rfl, p, C, dx, _, rfl, p4, T.cl, T.n3, by omega, ?_⟩
    have e5 := samep_upd (p := p) (H := H4) (o := .ins C dx (putF "wishers" (.ref wt) g2))
    have k5 := k4.trans e5
    have p5 := upd_same (H := H4) (a := p) (o := .ins C dx (putF "wishers" (.ref wt) g2))
    have b5 := e5 _ _ b4 (ne_of b4 p4 (by intro z; cases z))
    have f5 := e5 _ _ f4 (ne_of f4 p4 (by intro z; cases z))
    have w5 := e5 _ _ w4 (ne_of w4 p4 (by intro z; cases z))
    have t5 := bids_frame t4 p4 e5
    generalize upd H4 p (.ins C dx (putF "wishers" (.ref wt) g2)) = H5 at k5 p5 b5 f5 w5 t5 ⊢
    have l5 : (putF "wishers" (.ref wt) g2).length ≤ 3 := put_len l2
    have a5 : (putF "wishers" (.ref wt) g2).lookup ("name" : Str) = some (vN n) := put_ne a2 (by decide +kernel)
    have c5 : (putF "wishers" (.ref wt) g2).lookup ("bids" : Str) = some (.ref b) := put_ne c2 (by decide +kernel)
    have d5 : (putF "wishers" (.ref wt) g2).lookup ("wishers" : Str) = some (.ref wt) := put_same _ _ _
    generalize putF "wishers" (.ref wt) g2 = g5 at p5 l5 a5 c5 d5
    refine ⟨_, rfl, f, _, rfl, .inr ⟨tupAt f5, _, rfl, p, C, dx, _, rfl, p5, T.cl, T.n4, by omega, ?_⟩⟩
    have e6 := samep_upd (p := p) (H := H5) (o := .ins C dx (putF "followers" (.ref f) g5))
    have k6 := k5.trans e6
    have p6 := upd_same (H := H5) (a := p) (o := .ins C dx (putF "followers" (.ref f) g5))
    have b6 := e6 _ _ b5 (ne_of b5 p5 (by intro z; cases z))
    have f6 := e6 _ _ f5 (ne_of f5 p5 (by intro z; cases z))
    have w6 := e6 _ _ w5 (ne_of w5 p5 (by intro z; cases z))
    have t6 := bids_frame t5 p5 e6
    generalize upd H5 p (.ins C dx (putF "followers" (.ref f) g5)) = H6 at k6 p6 b6 f6 w6 t6 ⊢
    have l6 : (putF "followers" (.ref f) g5).length ≤ 4 := put_len l5
    have a6 : (putF "followers" (.ref f) g5).lookup ("name" : Str) = some (vN n) := put_ne a5 (by decide +kernel)
    have c6 : (putF "followers" (.ref f) g5).lookup ("bids" : Str) = some (.ref b) := put_ne c5 (by decide +kernel)
    have d6 : (putF "followers" (.ref f) g5).lookup ("wishers" : Str) = some (.ref wt) := put_ne d5 (by decide +kernel)
    have h6 : (putF "followers" (.ref f) g5).lookup ("followers" : Str) = some (.ref f) := put_same _ _ _
    generalize putF "followers" (.ref f) g5 = g6 at p6 l6 a6 c6 d6 h6
    refine ⟨_, rfl, _, rfl, p, C, dx, _, rfl, p6, T.cl, T.n5, by omega, ?_⟩
    have e7 := samep_upd (p := p) (H := H6) (o := .ins C dx (putF "home" (.bl hb) g6))
    exact q _ ⟨dx, b, wt, f, _, es, upd_same, put_ne a6 (by decide +kernel), put_ne c6 (by decide +kernel), put_ne d6 (by decide +kernel), put_ne h6 (by decide +kernel), put_same _ _ _, e7 _ _ b6 (ne_of b6 p6 (by intro z; cases z)), bids_frame t6 p6 e7, e7 _ _ w6 (ne_of w6 p6 (by intro z; cases z)), e7 _ _ f6 (ne_of f6 p6 (by intro z; cases z))⟩ (k6.trans e7)
end
end TK

/-! Book.__init__ -/
namespace TK
open PySem PySem.Spec PyProof.Rows L2
abbrev s_Book_init : Stmt := inClass (topS 43) 0
theorem sc_Book_init : FnScope ["self", "members", "pages", "starts", "home", "page", "name", "bids", "followers"] ["self", "members", "pages", "starts", "home"] (defScope s_Book_init) := ⟨rfl, rfl, rfl, by decide +kernel, rfl, by decide +kernel, by decide +kernel⟩
/-- one behind the other -/
def AllAt {α : Type} (R : Hp → Addr → α → Prop) (H : Hp) (es : List Addr) (ds : List α) : Prop := es.length = ds.length ∧ ∀ (i : Nat) (e : Addr), es[i]? = some e → ∃ d, ds[i]? = some d ∧ R H e d
theorem AllAt.mono {α : Type} {R S : Hp → Addr → α → Prop} {H H' : Hp} {es : List Addr} {ds : List α} (h : AllAt R H es ds) (k : ∀ e d, R H e d → S H' e d) : AllAt S H' es ds := ⟨h.1, fun i e he => by
  obtain ⟨d, a, b⟩ := h.2 i e he
  exact ⟨d, a, k e d b⟩⟩
theorem AllAt.app {α : Type} {R : Hp → Addr → α → Prop} {H : Hp} {es fs : List Addr} {ds us : List α} (h : AllAt R H es ds) (k : AllAt R H fs us) : AllAt R H (es ++ fs) (ds ++ us) := by
  refine ⟨by rw [List.length_append, List.length_append, h.1, k.1], fun i e he => ?_⟩
  by_cases hi : i < es.length
  · rw [List.getElem?_append_left hi] at he
    rw [List.getElem?_append_left (by rw [← h.1]; exact hi)]
    exact h.2 i e he
  · rw [List.getElem?_append_right (by omega)] at he
    rw [List.getElem?_append_right (by rw [← h.1]; omega), ← h.1]
    exact k.2 _ e he
theorem AllAt.one {α : Type} {R : Hp → Addr → α → Prop} {H : Hp} {e : Addr} {d : α} (h : R H e d) : AllAt R H [e] [d] := ⟨rfl, fun i a ha => by
  match i, ha with
  | 0, ha => cases Option.some.inj ha; exact ⟨d, rfl, h⟩⟩
theorem AllAt.nil {α : Type} {R : Hp → Addr → α → Prop} {H : Hp} : AllAt R H [] [] := ⟨rfl, fun _ _ h => nomatch h⟩
theorem all_at {α : Type} {R : Hp → Addr → α → Prop} {H : Hp} {es : List Addr} {ds : List α} (h : AllAt R H es ds) {i : Nat} {x : V} (hx : (es.map V.ref)[i]? = some x) : ∃ e d, x = .ref e ∧ ds[i]? = some d ∧ R H e d := by
  rw [List.getElem?_map] at hx
  obtain ⟨e, he, rfl⟩ := Option.map_eq_some_iff.mp hx
  obtain ⟨d, a, b⟩ := h.2 i e he
  exact ⟨e, d, rfl, a, b⟩
/-- what is no list stays -/
def NlKeep (H H' : Hp) : Prop := ∀ c o, H c = some o → (∀ xs : List V, o ≠ .lst xs) → H' c = some o
theorem nl_same {H H' : Hp} (s : Same H H') : NlKeep H H' := fun c o e _ => s c o e
theorem nl_wrote {H : Hp} {D : Addr} {xs : List V} {o : HO} (e : H D = some (.lst xs)) : NlKeep H (upd H D o) := fun c x ec n => by
  by_cases h : c = D
  · rw [h, e] at ec; exact absurd (Option.some.inj ec).symm (n xs)
  · rw [upd_ne h]; exact ec
theorem NlKeep.trans {H H' H'' : Hp} (s : NlKeep H H') (t : NlKeep H' H'') : NlKeep H H'' := fun c o e n => t c o (s c o e n) n
theorem bids_nl {H H' : Hp} {es : List Addr} {ds : List BidD} (h : BidsAt H es ds) (k : NlKeep H H') : BidsAt H' es ds := ⟨h.1, fun i e he => by
  obtain ⟨d, a, b⟩ := h.2 i e he
  exact ⟨d, a, k _ _ b (fun _ => nofun)⟩⟩
def RowR (zs : List Nam) (H : Hp) (r : Addr) (d : PgD) : Prop := ∃ (bt ft : Addr) (es : List Addr), H r = some (.tup [vN d.nm, .ref bt, .ref ft]) ∧ H bt = some (.tup (es.map V.ref)) ∧ BidsAt H es (sortB zs d.bids) ∧ H ft = some (.tup (d.fol.map vN))
theorem RowR.nl {zs : List Nam} {H H' : Hp} {r : Addr} {d : PgD} (h : RowR zs H r d) (k : NlKeep H H') : RowR zs H' r d := by
  obtain ⟨bt, ft, es, h1, h2, h3, h4⟩ := h
  exact ⟨bt, ft, es, k _ _ h1 (fun _ => nofun), k _ _ h2 (fun _ => nofun), bids_nl h3 k, k _ _ h4 (fun _ => nofun)⟩
theorem RowR.fr {zs : List Nam} {H H' : Hp} {r p C dx : Addr} {fs : List (Str × V)} {d : PgD} (h : RowR zs H r d) (hp : H p = some (.ins C dx fs)) (f : SameP p H H') : RowR zs H' r d := by
  obtain ⟨bt, ft, es, h1, h2, h3, h4⟩ := h
  exact ⟨bt, ft, es, f _ _ h1 (ne_of h1 hp (by intro z; cases z)), f _ _ h2 (ne_of h2 hp (by intro z; cases z)), bids_frame h3 hp f, f _ _ h4 (ne_of h4 hp (by intro z; cases z))⟩
theorem PgAt.nl {C : Addr} {H H' : Hp} {p : Addr} {n : Nam} {ds : List BidD} {fl : List Nam} {hb : Bool} (h : PgAt C H p n ds fl hb) (k : NlKeep H H') : PgAt C H' p n ds fl hb := by
  obtain ⟨dx, bt, wt, ft, fs, es, h0, h1, h2, h3, h4, h5, h6, h7, h8, h9⟩ := h
  exact ⟨dx, bt, wt, ft, fs, es, k _ _ h0 (fun _ => nofun), h1, h2, h3, h4, h5, k _ _ h6 (fun _ => nofun), bids_nl h7 k, k _ _ h8 (fun _ => nofun), k _ _ h9 (fun _ => nofun)⟩
theorem PgAt.fr {C : Addr} {H H' : Hp} {p b CB dx : Addr} {fs : List (Str × V)} {n : Nam} {ds : List BidD} {fl : List Nam} {hb : Bool} (h : PgAt C H p n ds fl hb) (hp : H b = some (.ins CB dx fs)) (ne : p ≠ b) (f : SameP b H H') : PgAt C H' p n ds fl hb := by
  obtain ⟨dx', bt, wt, ft, fs', es, h0, h1, h2, h3, h4, h5, h6, h7, h8, h9⟩ := h
  exact ⟨dx', bt, wt, ft, fs', es, f _ _ h0 ne, h1, h2, h3, h4, h5, f _ _ h6 (ne_of h6 hp (by intro z; cases z)), bids_frame h7 hp f, f _ _ h8 (ne_of h8 hp (by intro z; cases z)), f _ _ h9 (ne_of h9 hp (by intro z; cases z))⟩
theorem pgs_frame {K : PySem.W.Frag} {H H' : Hp} {p C dx : Addr} {fs : List (Str × V)} {ps : List Addr} {ds : List PgD} (h : PgsIn K H ps ds) (hp : H p = some (.ins C dx fs)) (f : SameP p H H') : PgsIn K H' ps ds := ⟨h.1, fun i e he => by
  obtain ⟨d, a, b1, f1, es, h1, h2, h3, h4⟩ := h.2 i e he
  exact ⟨d, a, b1, f1, es, f _ _ h1 (ne_of h1 hp (by intro z; cases z)), sqL_frame h2 hp f, bids_frame h3 hp f, sqL_frame h4 hp f⟩⟩
/-- what the def is given -/
structure BkG (K : PySem.W.Frag) (H : Hp) (a b c h : Addr) (zs ss hs : List Nam) (ps : List Addr) (ds : List PgD) : Prop where
  m : SqL K H a (zs.map vN)
  b : SqL K H b (ps.map V.ref)
  t : PgsIn K H ps ds
  c : SqL K H c (ss.map vN)
  h : SqL K H h (hs.map vN)
theorem BkG.same {K : PySem.W.Frag} {H H' : Hp} {a b c h : Addr} {zs ss hs : List Nam} {ps : List Addr} {ds : List PgD} (g : BkG K H a b c h zs ss hs ps ds) (s : Same H H') : BkG K H' a b c h zs ss hs ps ds := ⟨s.seq g.m, s.seq g.b, g.t.same s, s.seq g.c, s.seq g.h⟩
theorem BkG.fr {K : PySem.W.Frag} {H H' : Hp} {a b c h p C dx : Addr} {fs : List (Str × V)} {zs ss hs : List Nam} {ps : List Addr} {ds : List PgD} (g : BkG K H a b c h zs ss hs ps ds) (hp : H p = some (.ins C dx fs)) (f : SameP p H H') : BkG K H' a b c h zs ss hs ps ds := ⟨sqL_frame g.m hp f, sqL_frame g.b hp f, pgs_frame g.t hp f, sqL_frame g.c hp f, sqL_frame g.h hp f⟩
structure TxtBk (K : PySem.W.Frag) (C : Addr) : Prop where
  cl : Cls K C
  n1 : NoAttr K C "members"
  n2 : NoAttr K C "names"
  n3 : NoAttr K C "starts"
  n4 : NoAttr K C "home"
  n5 : NoAttr K C "_rows"
  n6 : NoAttr K C "_pages"
def fldsB (m n s h r g : Addr) : List (Str × V) := putF "_pages" (.ref g) (putF "_rows" (.ref r) (putF "home" (.ref h) (putF "starts" (.ref s) (putF "names" (.ref n) (putF "members" (.ref m) [])))))
theorem fldsB_names (m n s h r g : Addr) : (fldsB m n s h r g).lookup ("names" : Str) = some (.ref n) := put_ne (put_ne (put_ne (put_ne (put_same _ _ _) (by decide +kernel)) (by decide +kernel)) (by decide +kernel)) (by decide +kernel)
theorem fldsB_pages (m n s h r g : Addr) : (fldsB m n s h r g).lookup ("_pages" : Str) = some (.ref g) := put_same _ _ _
theorem fldsB_no (m n s h r g : Addr) {x : Str} (hx : x ∉ (["members", "names", "starts", "home", "_rows", "_pages"] : List Str)) : (fldsB m n s h r g).lookup x = none := by
  have k : ∀ y, y ∈ (["members", "names", "starts", "home", "_rows", "_pages"] : List Str) → ¬ x = y := fun y hy e => hx (e ▸ hy)
  unfold fldsB
  rw [lookup_putF, if_neg (k _ (by simp)), lookup_putF, if_neg (k _ (by simp)), lookup_putF, if_neg (k _ (by simp)), lookup_putF, if_neg (k _ (by simp)), lookup_putF, if_neg (k _ (by simp)), lookup_putF, if_neg (k _ (by simp))]
  rfl
abbrev PgR (CP : Addr) (zs hs : List Nam) (p : Addr) : Hp → Addr → PgD → Prop := fun H q d => PgAt CP H q d.nm (sortB zs d.bids) d.fol (decide (d.nm ∈ hs)) ∧ q ≠ p
/-- a book -/
def BkAt (C CP : Addr) (H : Hp) (p : Addr) (zs ss hs : List Nam) (ds : List PgD) : Prop := ∃ (dx m n s h r g : Addr) (o : Obj) (rs qs : List Addr), H p = some (.ins C dx (fldsB m n s h r g)) ∧ H m = some (.tup (zs.map vN)) ∧ H n = some (.frz o (.tup ((ds.map (·.nm)).map vN))) ∧ o.cls = .type "tuple" ∧ o.dict = none ∧ H s = some (.tup (ss.map vN)) ∧ H h = some (.tup (hs.map vN)) ∧
  H r = some (.tup (rs.map V.ref)) ∧ AllAt (RowR zs) H rs ds ∧ H g = some (.tup (qs.map V.ref)) ∧ AllAt (PgR CP zs hs p) H qs ds
theorem BkAt.same {C CP : Addr} {H H' : Hp} {p : Addr} {zs ss hs : List Nam} {ds : List PgD} (h : BkAt C CP H p zs ss hs ds) (t : Same H H') : BkAt C CP H' p zs ss hs ds := by
  obtain ⟨dx, m, n, s, hh, r, g, o, rs, qs, h1, h2, h3, h4, h5, h6, h7, h8, h9, h10, h11⟩ := h
  exact ⟨dx, m, n, s, hh, r, g, o, rs, qs, t _ _ h1, t _ _ h2, t _ _ h3, h4, h5, t _ _ h6, t _ _ h7, t _ _ h8, h9.mono fun _ _ k => k.nl (nl_same t), t _ _ h10, h11.mono fun _ _ k => ⟨k.1.same t, k.2⟩⟩
section
variable {P : Program} {w : World} {K : PySem.W.Frag} {mg : Str → Option Value} {base : Heap}
def spInitBk (K : PySem.W.Frag) (C CP : Addr) : Sp := fun vs H Q _ => ∃ (p a b c h dx : Addr) (zs ss hs : List Nam) (ps : List Addr) (ds : List PgD), vs = [.ref p, .ref a, .ref b, .ref c, .ref h] ∧ H p = some (.ins C dx []) ∧ BkG K H a b c h zs ss hs ps ds ∧ 1 ≤ zs.length ∧ zs.length ≤ 4 ∧ (∀ z ∈ zs, Nm z) ∧ zs.Nodup ∧ POk zs ds ∧ ss ≠ [] ∧ ss.Nodup ∧ (∀ x ∈ ss, x ∈ ds.map (·.nm)) ∧ hs.Nodup ∧ (∀ x ∈ hs, x ∈ ds.map (·.nm)) ∧
  ∀ H', BkAt C CP H' p zs ss ((ds.map (·.nm)).filter fun n => decide (n ∈ hs)) ds → SameP p H H' → Q .non H'
theorem ok_Book {f C CP fP : Addr} {fd fdP : FuncData} {dvs : List V} {kws : List (Str × V)} (F : FunD K "__init__" "Book.__init__" (defArgs s_Book_init) (defBody s_Book_init) (defScope s_Book_init) dvs kws f fd) (T : TxtBk K C) (m_tuple : mg "tuple" = none) (d_check_names : DefD P w K mg base "check_names" 2 ["names", "most", "hook"] (spCheckN K) [.bl false])
    (d_check_pages : Def P w K mg base "_check_pages" 3 ["members", "pages"] (spCheckPg K)) (d_check_ends : Def P w K mg base "_check_ends" 2 ["names", "starts", "home"] (spEnds K)) (d_sorted_bids : Def P w K mg base "_sorted_bids" 1 ["members", "bids"] (spSortB K))
    (M_Page : Mk K CP fP) (G_Page : FnOk P w K mg base CX0 1 fP fdP ["self", "name", "bids", "followers", "home"] (spInitPg CP)) (mg_Page : mg "Page" = some (.ref CP)) (b_Page : Binds K fdP ["self", "name", "bids", "followers", "home"] []) :
    FnOk P w K mg base CX0 4 f fd ["self", "members", "pages", "starts", "home"] (spInitBk K C CP) := by
  refine F.ok (CX := CX0) sc_Book_init (fun vs H Q E h => ?_) (fun cdv A outer s H vs Q E hr h => ?_)
  · obtain ⟨p, a, b, c, h, dx, zs, ss, hs, ps, ds, rfl, _⟩ := h
    rfl
  · obtain ⟨p, a, b, c, h, dx, zs, ss, hs, ps, ds, rfl, hp, g, z1, z4, nm, nd, ok, sne, snd, ssub, hnd, hsub, q⟩ := h
    have pl : (ps.map V.ref).length = ds.length := by rw [List.length_map, g.t.1]
    have l4 := ok.l4
    refine ⟨_, (pss_cons (ps_expr (pe_callDD d_check_names (hr.mono (by decide)) (by rfl) (pa_cons (pv 1) (pa_cons pe_int pa_nil))))
  (pss_cons (ps_expr (pe_callD d_check_pages (hr.mono (by decide)) (by rfl) (pa_cons (pv 1) (pa_cons (pv 2) pa_nil))))
  (pss_cons (ps_fld (pv 0) (pe_callTy call_tuple_of (by rfl) m_tuple (by decide +kernel) (pa_cons (pv 1) pa_nil)) rfl)
  (pss_cons (ps_fld (pv 0) (pe_callTy call_tuple_frz (by rfl) m_tuple (by decide +kernel) (pa_cons (pe_lc (own := [("page", 5)]) (by rfl) sc_Book_init.nd (pi_list (pv 2)) (blkOk_by (N := ["self", "members", "pages", "starts", "home", "page", "name", "bids", "followers"]) (sc := defScope s_Book_init) (by decide +kernel)) (fun _ _ _ _ _ => (pg_name (i := 5) sc_Book_init.nd rfl (.inl rfl))) (fun _ _ _ _ _ => pts_nil) (fun _ _ _ _ _ => (pe_ix (ix_tupK (K := K) rfl) (pv 5) pe_int (fun _ _ => rfl)))) pa_nil)) rfl)
  (pss_cons (ps_expr (pe_callD d_check_ends (hr.mono (by decide)) (by rfl) (pa_cons (pe_fld (pv 0) rfl) (pa_cons (pv 3) (pa_cons (pv 4) pa_nil)))))
  (pss_cons (ps_fld (pv 0) (pe_callTy call_tuple_of (by rfl) m_tuple (by decide +kernel) (pa_cons (pv 3) pa_nil)) rfl)
  (pss_cons (ps_fld (pv 0) (pe_callTy call_tuple_of (by rfl) m_tuple (by decide +kernel) (pa_cons (pe_lc (own := [("name", 6)]) (by rfl) sc_Book_init.nd (pi_tup (pe_fld (pv 0) rfl)) (blkOk_by (N := ["self", "members", "pages", "starts", "home", "page", "name", "bids", "followers"]) (sc := defScope s_Book_init) (by decide +kernel)) (fun _ _ _ _ _ => (pg_name (i := 6) sc_Book_init.nd rfl (.inl rfl))) (fun _ _ _ _ _ => (pts_one (pt_cmpR (op_in_seqK (K := K) rfl) (pv 6) (pv 4) (by rfl)))) (fun _ _ _ _ _ => (pv 6))) pa_nil)) rfl)
  (pss_cons (ps_fld (pv 0) (pe_callTy call_tuple_of (by rfl) m_tuple (by decide +kernel) (pa_cons (pe_lc (own := [("name", 6), ("bids", 7), ("followers", 8)]) (by rfl) sc_Book_init.nd (pi_list (pv 2)) (blkOk_by (N := ["self", "members", "pages", "starts", "home", "page", "name", "bids", "followers"]) (sc := defScope s_Book_init) (by decide +kernel)) (fun _ _ _ _ _ => (pg_tupK (K := K) (n := 3) rfl (by rfl) (pgs_cons (pg_name (i := 6) sc_Book_init.nd rfl (.inl rfl)) (pgs_cons (pg_name (i := 7) sc_Book_init.nd rfl (.inl rfl)) (pgs_cons (pg_name (i := 8) sc_Book_init.nd rfl (.inl rfl)) pgs_nil))))) (fun _ _ _ _ _ => pts_nil) (fun _ _ _ _ _ => (pe_tup (pa_cons (pv 6) (pa_cons (pe_callD d_sorted_bids (hr.mono (by decide)) (by rfl) (pa_cons (pv 1) (pa_cons (pv 7) pa_nil))) (pa_cons (pe_callTy (call_tuple_ofK (K := K) rfl) (by rfl) m_tuple (by decide +kernel) (pa_cons (pv 8) pa_nil)) pa_nil)))))) pa_nil)) rfl)
  (pss_one (ps_fld (pv 0) (pe_callTy call_tuple_of (by rfl) m_tuple (by decide +kernel) (pa_cons (pe_lc (own := [("name", 6), ("bids", 7), ("followers", 8)]) (by rfl) sc_Book_init.nd (pi_tup (pe_fld (pv 0) rfl)) (blkOk_by (N := ["self", "members", "pages", "starts", "home", "page", "name", "bids", "followers"]) (sc := defScope s_Book_init) (by decide +kernel)) (fun _ _ _ _ _ => (pg_tupK (K := K) (n := 3) rfl (by rfl) (pgs_cons (pg_name (i := 6) sc_Book_init.nd rfl (.inl rfl)) (pgs_cons (pg_name (i := 7) sc_Book_init.nd rfl (.inl rfl)) (pgs_cons (pg_name (i := 8) sc_Book_init.nd rfl (.inl rfl)) pgs_nil))))) (fun _ _ _ _ _ => pts_nil) (fun _ _ _ _ _ => (pe_make M_Page G_Page (hr.mono (by decide)) (by rfl) mg_Page b_Page .nil pass0 (pa_cons (pv 6) (pa_cons (pv 7) (pa_cons (pv 8) (pa_cons (pe_cmpR (op_in_seqK (K := K) rfl) (pv 6) (pe_fldK (K := K) rfl (pv 0) rfl) (by rfl)) pa_nil))))))) pa_nil)) rfl)))))))))), ?_⟩
    refine ⟨_, rfl, a, 4, zs, rfl, .inl g.m, z1, by omega, by omega, nm, nd, fun H1 s1 => ?_⟩
    refine ⟨_, rfl, _, rfl, a, b, zs, ps, ds, rfl, s1.seq g.m, s1.seq g.b, g.t.same s1, ok, fun H2 s2 => ?_⟩
    have s12 := s1.trans s2
    -- members
    refine ⟨_, rfl, a, _, rfl, .inl ⟨s12.seq g.m, fun m nmA => ?_⟩⟩
    have s3 := s12.trans (same_upd (o := .tup (zs.map vN)) nmA)
    have m3 := upd_same (H := H2) (a := m) (o := .tup (zs.map vN))
    have g3 := g.same s3
    have p3 := s3 _ _ hp
    have f3 := same_p (p := p) s3
    generalize upd H2 m (.tup (zs.map vN)) = H3 at m3 g3 p3 f3 ⊢
    refine ⟨_, rfl, p, C, dx, _, rfl, p3, T.cl, T.n1, by decide, ?_⟩
    have e4 := samep_upd (p := p) (H := H3) (o := .ins C dx (putF "members" (.ref m) []))
    have p4 := upd_same (H := H3) (a := p) (o := .ins C dx (putF "members" (.ref m) []))
    have f4 := f3.trans e4
    have m4 := e4 _ _ m3 (ne_of m3 p3 (by intro z; cases z))
    have g4 := g3.fr p3 e4
    generalize upd H3 p (.ins C dx (putF "members" (.ref m) [])) = H4 at p4 f4 m4 g4 ⊢
    -- names
    refine ⟨_, rfl, b, rfl, ⟨_, g4.b⟩, fun D nD => ?_⟩
    refine lc_list (K := K) (a := b) (xs := ps.map V.ref) (fun i H' => Same H4 H' ∧ H' D = some (.lst (((ds.map (·.nm)).take i).map vN))) ⟨same_upd nD, upd_same⟩ (fun i H' _ hq => hq.1.seq g4.b) (fun i v H' hv hq => ?_) (fun H5 hq => ?_)
    · obtain ⟨sq, eD⟩ := hq
      obtain ⟨p', d, rfl, ed, ⟨b1, f1, es, he, _⟩⟩ := pgs_at (g4.t.same sq) hv
      have hi := (List.getElem?_eq_some_iff.mp ed).1
      refine ⟨rfl, yesT ⟨_, rfl, _, _, 0, vN d.nm, rfl, rfl, tupAt he, atI_in (by decide) rfl, _, eD, by rw [List.length_map, List.length_take, List.length_map]; exact small1000 (by omega), same_at sq nD, ?_⟩⟩
      rw [List.take_add_one, List.getElem?_map, ed, List.map_append]
      exact upd_same
    obtain ⟨s5, eD⟩ := hq
    rw [pl, show ds.length = (ds.map (·.nm)).length from (List.length_map ..).symm, List.take_length] at eD
    refine ⟨D, _, rfl, lstAt eD, fun n o nn oc od => ?_⟩
    have s6 := s5.trans (same_upd (o := .frz o (.tup ((ds.map (·.nm)).map vN))) nn)
    have n6 := upd_same (H := H5) (a := n) (o := .frz o (.tup ((ds.map (·.nm)).map vN)))
    have p6 := s6 _ _ p4
    have m6 := s6 _ _ m4
    have g6 := g4.same s6
    have f6 := f4.trans (same_p (p := p) s6)
    generalize upd H5 n (.frz o (.tup ((ds.map (·.nm)).map vN))) = H6 at n6 p6 m6 g6 f6 ⊢
    refine ⟨_, rfl, p, C, dx, _, rfl, p6, T.cl, T.n2, Nat.lt_of_le_of_lt (put_len (n := 0) (Nat.le_refl 0)) (by decide), ?_⟩
    have e7 := samep_upd (p := p) (H := H6) (o := .ins C dx (putF "names" (.ref n) (putF "members" (.ref m) [])))
    have p7 := upd_same (H := H6) (a := p) (o := .ins C dx (putF "names" (.ref n) (putF "members" (.ref m) [])))
    have f7 := f6.trans e7
    have m7 := e7 _ _ m6 (ne_of m6 p6 (by intro z; cases z))
    have n7 := e7 _ _ n6 (ne_of n6 p6 (by intro z; cases z))
    have g7 := g6.fr p6 e7
    generalize upd H6 p (.ins C dx (putF "names" (.ref n) (putF "members" (.ref m) []))) = H7 at p7 f7 m7 n7 g7 ⊢
    clear e7 e4 p6 m6 n6 g6 f6 s6 s5 eD p4 m4 g4 f4 p3 m3 g3 f3 s3
    -- the ends
    refine ⟨_, rfl, p, C, dx, _, _, rfl, p7, T.cl, T.n2, put_same _ _ _, _, rfl, _, rfl, n, c, h, ds.map (·.nm), ss, hs, rfl, .inr (.inl (.inr ⟨o, n7⟩)), g7.c, g7.h, sne, snd, ssub, hnd, hsub, by rw [List.length_map]; omega, fun H8 s8 => ?_⟩
    -- starts
    refine ⟨_, rfl, c, _, rfl, .inl ⟨s8.seq g7.c, fun st nst => ?_⟩⟩
    have s9 := s8.trans (same_upd (o := .tup (ss.map vN)) nst)
    have t9 := upd_same (H := H8) (a := st) (o := .tup (ss.map vN))
    have p9 := s9 _ _ p7
    have m9 := s9 _ _ m7
    have n9 := s9 _ _ n7
    have g9 := g7.same s9
    have f9 := f7.trans (same_p (p := p) s9)
    generalize upd H8 st (.tup (ss.map vN)) = H9 at t9 p9 m9 n9 g9 f9 ⊢
    refine ⟨_, rfl, p, C, dx, _, rfl, p9, T.cl, T.n3, Nat.lt_of_le_of_lt (put_len (n := 1) (put_len (n := 0) (Nat.le_refl 0))) (by decide), ?_⟩
    have e10 := samep_upd (p := p) (H := H9) (o := .ins C dx (putF "starts" (.ref st) (putF "names" (.ref n) (putF "members" (.ref m) []))))
    have p10 := upd_same (H := H9) (a := p) (o := .ins C dx (putF "starts" (.ref st) (putF "names" (.ref n) (putF "members" (.ref m) []))))
    have f10 := f9.trans e10
    have m10 := e10 _ _ m9 (ne_of m9 p9 (by intro z; cases z))
    have n10 := e10 _ _ n9 (ne_of n9 p9 (by intro z; cases z))
    have t10 := e10 _ _ t9 (ne_of t9 p9 (by intro z; cases z))
    have g10 := g9.fr p9 e10
    generalize upd H9 p (.ins C dx (putF "starts" (.ref st) (putF "names" (.ref n) (putF "members" (.ref m) [])))) = H10 at p10 f10 m10 n10 t10 g10 ⊢
    clear e10 p9 m9 n9 t9 g9 f9 s9 s8 p7 m7 n7 g7 f7
    -- home
    refine ⟨_, rfl, p, C, dx, _, _, rfl, p10, T.cl, T.n2, put_ne (put_same _ _ _) (by decide +kernel), n, rfl, ⟨_, .inl (.inr ⟨o, n10⟩)⟩, fun D2 nD2 => ?_⟩
    refine lc_tup (K := K) (a := n) (xs := (ds.map (·.nm)).map vN) (fun i H' => Same H10 H' ∧ H' D2 = some (.lst ((((ds.map (·.nm)).take i).filter fun z => decide (z ∈ hs)).map vN))) ⟨same_upd nD2, upd_same⟩ (fun i H' _ hq => .inl (.inr ⟨o, hq.1 _ _ n10⟩)) (fun i v H' hv hq => ?_) (fun H11 hq => ?_)
    · obtain ⟨sq, eD⟩ := hq
      obtain ⟨z, ez, rfl⟩ := vN_at hv
      have hi := (List.getElem?_eq_some_iff.mp ez).1
      rw [List.length_map] at hi
      have fl : (((ds.map (·.nm)).take i).filter fun z => decide (z ∈ hs)).length ≤ 4 := Nat.le_trans (List.length_filter_le _ _) (by rw [List.length_take]; omega)
      rw [flt_at ez]
      refine ⟨rfl, _, rfl, _, rfl, h, _, rfl, .inl (sq.seq g10.h), rfl, nms_flat _, _, rfl, ?_⟩
      rw [in_nm]
      by_cases hz : z ∈ hs
      · rw [decide_eq_true hz]
        refine iteT ⟨_, rfl, _, eD, by rw [List.length_map]; exact small1000 (by omega), same_at sq nD2, ?_⟩
        rw [if_pos rfl, List.map_append]
        exact upd_same
      · rw [decide_eq_false hz]
        exact iteF ⟨sq, by rw [if_neg Bool.false_ne_true, List.append_nil]; exact eD⟩
    obtain ⟨s11, eD2⟩ := hq
    rw [List.length_map, List.take_length] at eD2
    generalize hh2 : (ds.map (·.nm)).filter (fun z => decide (z ∈ hs)) = hs2 at eD2 q
    refine ⟨D2, _, rfl, .inl ⟨lstAt eD2, fun ht nht => ?_⟩⟩
    have s12 := s11.trans (same_upd (o := .tup (hs2.map vN)) nht)
    have h12 := upd_same (H := H11) (a := ht) (o := .tup (hs2.map vN))
    have p12 := s12 _ _ p10
    have m12 := s12 _ _ m10
    have n12 := s12 _ _ n10
    have t12 := s12 _ _ t10
    have g12 := g10.same s12
    have f12 := f10.trans (same_p (p := p) s12)
    generalize upd H11 ht (.tup (hs2.map vN)) = H12 at h12 p12 m12 n12 t12 g12 f12 ⊢
    refine ⟨_, rfl, p, C, dx, _, rfl, p12, T.cl, T.n4, Nat.lt_of_le_of_lt (put_len (n := 2) (put_len (n := 1) (put_len (n := 0) (Nat.le_refl 0)))) (by decide), ?_⟩
    have e13 := samep_upd (p := p) (H := H12) (o := .ins C dx (putF "home" (.ref ht) (putF "starts" (.ref st) (putF "names" (.ref n) (putF "members" (.ref m) [])))))
    have p13 := upd_same (H := H12) (a := p) (o := .ins C dx (putF "home" (.ref ht) (putF "starts" (.ref st) (putF "names" (.ref n) (putF "members" (.ref m) [])))))
    have f13 := f12.trans e13
    have m13 := e13 _ _ m12 (ne_of m12 p12 (by intro z; cases z))
    have n13 := e13 _ _ n12 (ne_of n12 p12 (by intro z; cases z))
    have t13 := e13 _ _ t12 (ne_of t12 p12 (by intro z; cases z))
    have h13 := e13 _ _ h12 (ne_of h12 p12 (by intro z; cases z))
    have g13 := g12.fr p12 e13
    generalize upd H12 p (.ins C dx (putF "home" (.ref ht) (putF "starts" (.ref st) (putF "names" (.ref n) (putF "members" (.ref m) []))))) = H13 at p13 f13 m13 n13 t13 h13 g13 ⊢
    clear e13 p12 m12 n12 t12 h12 g12 f12 s12 s11 eD2 p10 m10 n10 t10 g10 f10
    -- the rows
    refine ⟨_, rfl, b, rfl, ⟨_, g13.b⟩, fun D3 nD3 => ?_⟩
    refine lc_list (K := K) (a := b) (xs := ps.map V.ref) (fun i H' => ∃ rs : List Addr, Same H13 H' ∧ H' D3 = some (.lst (rs.map V.ref)) ∧ AllAt (RowR zs) H' rs (ds.take i)) ⟨[], same_upd nD3, upd_same, .nil⟩ (fun i H' _ hq => hq.choose_spec.1.seq g13.b) (fun i v H' hv hq => ?_) (fun H14 hq => ?_)
    · obtain ⟨rs, sq, eD, hR⟩ := hq
      obtain ⟨p', d, rfl, ed, ⟨b1, f1, es, he, hb, hbs, hf⟩⟩ := pgs_at (g13.t.same sq) hv
      have hi := (List.getElem?_eq_some_iff.mp ed).1
      have rl : rs.length = i := by rw [hR.1, List.length_take]; omega
      rw [List.take_add_one, ed]
      refine gTup3 he [some (.ref p), some (.ref a), some (.ref b), some (.ref c), some (.ref h), none, some (vN d.nm), some (.ref b1), some (.ref f1)] (by simp [wipe, L2.start]) ?_
      refine ⟨rfl, yesT ⟨_, rfl, _, rfl, _, rfl, a, b1, zs, es, d.bids, rfl, sq.seq g13.m, hb, hbs, by omega, ok.bl d (List.mem_of_getElem? ed), fun H1' t es' nt s1' et hB => ?_⟩⟩
      refine ⟨_, rfl, f1, _, rfl, .inl ⟨s1'.seq hf, fun u nu => ?_⟩⟩
      have s2' := s1'.trans (same_upd (o := .tup (d.fol.map vN)) nu)
      refine ⟨(show (3 : Nat) ≤ sizeLine by decide), fun x nx => ?_⟩
      have s3' := s2'.trans (same_upd (o := .tup [vN d.nm, .ref t, .ref u]) nx)
      have eD' := s3' _ _ eD
      have row : RowR zs (upd (upd H1' u (.tup (d.fol.map vN))) x (.tup [vN d.nm, .ref t, .ref u])) x d := ⟨t, u, es', upd_same, (same_upd nx) _ _ ((same_upd nu) _ _ et), (hB.same (same_upd nu)).same (same_upd nx), (same_upd nx) _ _ upd_same⟩
      exact ⟨_, eD', by rw [List.length_map, rl]; exact small1000 (by omega), rs ++ [x], same_at (sq.trans s3') nD3, by rw [List.map_append]; exact upd_same, ((hR.mono fun _ _ k => k.nl (nl_same s3')).app (.one row)).mono fun _ _ k => k.nl (nl_wrote eD')⟩
    obtain ⟨rs, s14, eD3, hR⟩ := hq
    rw [pl, List.take_length] at hR
    refine ⟨D3, _, rfl, .inl ⟨lstAt eD3, fun r nr => ?_⟩⟩
    have tr := same_upd (o := .tup (rs.map V.ref)) nr
    have s15 := s14.trans tr
    have r15 := upd_same (H := H14) (a := r) (o := .tup (rs.map V.ref))
    have R15 := hR.mono fun _ _ k => k.nl (nl_same tr)
    have p15 := s15 _ _ p13
    have m15 := s15 _ _ m13
    have n15 := s15 _ _ n13
    have t15 := s15 _ _ t13
    have h15 := s15 _ _ h13
    have f15 := f13.trans (same_p (p := p) s15)
    generalize upd H14 r (.tup (rs.map V.ref)) = H15 at r15 R15 p15 m15 n15 t15 h15 f15 ⊢
    refine ⟨_, rfl, p, C, dx, _, rfl, p15, T.cl, T.n5, Nat.lt_of_le_of_lt (put_len (n := 3) (put_len (n := 2) (put_len (n := 1) (put_len (n := 0) (Nat.le_refl 0))))) (by decide), ?_⟩
    have e16 := samep_upd (p := p) (H := H15) (o := .ins C dx (putF "_rows" (.ref r) (putF "home" (.ref ht) (putF "starts" (.ref st) (putF "names" (.ref n) (putF "members" (.ref m) []))))))
    have p16 := upd_same (H := H15) (a := p) (o := .ins C dx (putF "_rows" (.ref r) (putF "home" (.ref ht) (putF "starts" (.ref st) (putF "names" (.ref n) (putF "members" (.ref m) []))))))
    have f16 := f15.trans e16
    have m16 := e16 _ _ m15 (ne_of m15 p15 (by intro z; cases z))
    have n16 := e16 _ _ n15 (ne_of n15 p15 (by intro z; cases z))
    have t16 := e16 _ _ t15 (ne_of t15 p15 (by intro z; cases z))
    have h16 := e16 _ _ h15 (ne_of h15 p15 (by intro z; cases z))
    have r16 := e16 _ _ r15 (ne_of r15 p15 (by intro z; cases z))
    have R16 := R15.mono fun _ _ k => k.fr p15 e16
    generalize upd H15 p (.ins C dx (putF "_rows" (.ref r) (putF "home" (.ref ht) (putF "starts" (.ref st) (putF "names" (.ref n) (putF "members" (.ref m) [])))))) = H16 at p16 f16 m16 n16 t16 h16 r16 R16 ⊢
    clear e16 p15 m15 n15 t15 h15 r15 R15 f15 s15 tr s14 eD3 hR p13 m13 n13 t13 h13 g13 f13
    have rl : (rs.map V.ref).length = ds.length := by rw [List.length_map, R16.1]
    -- the pages
    refine ⟨_, rfl, p, C, dx, _, _, rfl, p16, T.cl, T.n5, put_same _ _ _, r, rfl, ⟨_, tupAt r16⟩, fun D4 nD4 => ?_⟩
    refine lc_tup (K := K) (a := r) (xs := rs.map V.ref) (fun i H' => ∃ qs : List Addr, Same H16 H' ∧ H' D4 = some (.lst (qs.map V.ref)) ∧ AllAt (PgR CP zs hs2 p) H' qs (ds.take i)) ⟨[], same_upd nD4, upd_same, .nil⟩ (fun i H' _ hq => tupAt (hq.choose_spec.1 _ _ r16)) (fun i v H' hv hq => ?_) (fun H17 hq => ?_)
    · obtain ⟨qs, sq, eD, hQ⟩ := hq
      obtain ⟨r', d, rfl, ed, ⟨bt, ft, es, he, hb, hbs, hf⟩⟩ := all_at (R16.mono fun _ _ k => k.nl (nl_same sq)) hv
      have hi := (List.getElem?_eq_some_iff.mp ed).1
      have ql : qs.length = i := by rw [hQ.1, List.length_take]; omega
      rw [List.take_add_one, ed]
      refine gTup3 he [some (.ref p), some (.ref a), some (.ref b), some (.ref c), some (.ref h), none, some (vN d.nm), some (.ref bt), some (.ref ft)] (by simp [wipe, L2.start]) ?_
      refine ⟨rfl, yesT ⟨_, rfl, _, rfl, _, rfl, _, rfl, _, rfl, p, C, dx, _, _, rfl, sq _ _ p16, T.cl, T.n4, put_ne (put_same _ _ _) (by decide +kernel), ht, _, rfl, .inr (tupAt (sq _ _ h16)), rfl, nms_flat _, fun x dx' nx ndx nex => ?_⟩⟩
      have sdx := same_upd (o := .own x) ndx
      have nxx : (upd H' dx' (.own x)) x = none := by rw [upd_ne nex.symm]; exact nx
      have sx := sdx.trans (same_upd (o := .ins CP dx' []) nxx)
      have bl : (sortB zs d.bids).length ≤ 500 := by
        have b64 := ok.bl d (List.mem_of_getElem? ed)
        refine Nat.le_trans sortB_len (Nat.le_trans (Nat.mul_le_mul (show zs.length ≤ 4 from z4) (show d.bids.length ≤ 64 by omega)) (by decide))
      refine ⟨x, bt, ft, dx', d.nm, _, es, sortB zs d.bids, d.fol, rfl, upd_same, sx _ _ hb, hbs.same sx, sx _ _ hf, bl, fun H2' pg sp => ⟨rfl, ?_⟩⟩
      have sK : Same H' H2' := fun y ob e => sp y ob (sx _ _ e) (ne_of_none e nx)
      have eD' := sK _ _ eD
      have xp : x ≠ p := (ne_of_none (sq _ _ p16) nx).symm
      have pg' : PgAt CP H2' x d.nm (sortB zs d.bids) d.fol (decide (d.nm ∈ hs2)) := by
        have e : inV (vN d.nm) (hs2.map vN) = decide (d.nm ∈ hs2) := inV_nm
        rw [← e]
        exact pg
      have Q1 : AllAt (PgR CP zs hs2 p) H2' qs (ds.take i) := hQ.mono fun _ _ k => ⟨k.1.same sK, k.2⟩
      have Q2 : AllAt (PgR CP zs hs2 p) H2' (qs ++ [x]) (ds.take i ++ [d]) := Q1.app (.one ⟨pg', xp⟩)
      exact ⟨_, eD', by rw [List.length_map, ql]; exact small1000 (by omega), qs ++ [x], same_at (sq.trans sK) nD4, by rw [List.map_append]; exact upd_same, Q2.mono fun _ _ k => ⟨k.1.nl (nl_wrote eD'), k.2⟩⟩
    obtain ⟨qs, s17, eD4, hQ⟩ := hq
    rw [rl, List.take_length] at hQ
    refine ⟨D4, _, rfl, .inl ⟨lstAt eD4, fun gg ngg => ?_⟩⟩
    have tg := same_upd (o := .tup (qs.map V.ref)) ngg
    have s18 := s17.trans tg
    have g18 := upd_same (H := H17) (a := gg) (o := .tup (qs.map V.ref))
    have Q18 := hQ.mono (S := PgR CP zs hs2 p) (H' := upd H17 gg (.tup (qs.map V.ref))) fun _ _ k => ⟨k.1.same tg, k.2⟩
    have p18 := s18 _ _ p16
    generalize upd H17 gg (.tup (qs.map V.ref)) = H18 at tg s18 g18 Q18 p18 ⊢
    refine ⟨_, rfl, p, C, dx, _, rfl, p18, T.cl, T.n6, Nat.lt_of_le_of_lt (put_len (n := 4) (put_len (n := 3) (put_len (n := 2) (put_len (n := 1) (put_len (n := 0) (Nat.le_refl 0)))))) (by decide), ?_⟩
    have e19 := samep_upd (p := p) (H := H18) (o := .ins C dx (fldsB m n st ht r gg))
    have fr := (f16.trans (same_p (p := p) s18)).trans e19
    have go : ∀ {y : Addr} {xs : List V}, H16 y = some (.tup xs) → (upd H18 p (.ins C dx (fldsB m n st ht r gg))) y = some (.tup xs) := fun e => e19 _ _ (s18 _ _ e) (ne_of (s18 _ _ e) p18 (by intro z; cases z))
    refine q _ ⟨dx, m, n, st, ht, r, gg, o, rs, qs, upd_same, go m16, e19 _ _ (s18 _ _ n16) (ne_of (s18 _ _ n16) p18 (by intro z; cases z)), oc, od, go t16, go h16, go r16, R16.mono fun _ _ k => (k.nl (nl_same s18)).fr p18 e19, e19 _ _ g18 (ne_of g18 p18 (by intro z; cases z)), Q18.mono fun _ _ k => ⟨k.1.fr p18 k.2 e19, k.2⟩⟩ fr
end
end TK

/-! a page of a book; its pages, one behind the other; what a turn rule says of a page -/
namespace TK
open PySem PySem.Spec PyProof.Rows L2
abbrev s_Book_page : Stmt := inClass (topS 43) 4
theorem sc_Book_page : FnScope ["self", "name"] ["self", "name"] (defScope s_Book_page) := ⟨rfl, rfl, rfl, by decide +kernel, rfl, by decide +kernel, by decide +kernel⟩
abbrev s_Book_iter : Stmt := inClass (topS 43) 2
theorem sc_Book_iter : FnScope ["self"] ["self"] (defScope s_Book_iter) := ⟨rfl, rfl, rfl, by decide +kernel, rfl, by decide +kernel, by decide +kernel⟩
abbrev s_Rule_candidates : Stmt := inClass (topS 32) 4
theorem sc_Rule_candidates : FnScope ["self", "page", "member"] ["self", "page"] (defScope s_Rule_candidates) := ⟨rfl, rfl, rfl, by decide +kernel, rfl, by decide +kernel, by decide +kernel⟩
abbrev s_TurnRule_moves : Stmt := inClass (topS 33) 3
theorem sc_TurnRule_moves : FnScope ["self", "page"] ["self", "page"] (defScope s_TurnRule_moves) := ⟨rfl, rfl, rfl, by decide +kernel, rfl, by decide +kernel, by decide +kernel⟩
abbrev s_TurnRule_lets : Stmt := inClass (topS 33) 4
theorem sc_TurnRule_lets : FnScope ["self", "page", "move"] ["self", "page", "move"] (defScope s_TurnRule_lets) := ⟨rfl, rfl, rfl, by decide +kernel, rfl, by decide +kernel, by decide +kernel⟩
theorem first_bk {ns : List Nam} {x : Nam} {j : Nat} (nd : ns.Nodup) (h : ns[j]? = some x) : (ns.map sOf)[j]? = some (sOf x) ∧ ∀ m, m < j → (ns.map sOf)[m]? ≠ some (sOf x) := by
  refine ⟨by rw [List.getElem?_map, h]; rfl, fun m hm e => ?_⟩
  rw [List.getElem?_map] at e
  obtain ⟨y, ey, q⟩ := Option.map_eq_some_iff.mp e
  cases sOf_inj q
  have := (List.getElem?_inj (List.getElem?_eq_some_iff.mp ey).1 nd).mp (ey.trans h.symm)
  omega
section
variable {P : Program} {w : World} {K : PySem.W.Frag} {mg : Str → Option Value} {base : Heap}
def spPage (C CP : Addr) : Sp := fun vs H Q _ => ∃ (p : Addr) (x : Nam) (zs ss hs : List Nam) (ds : List PgD) (j : Nat) (d : PgD), vs = [.ref p, vN x] ∧ BkAt C CP H p zs ss hs ds ∧ (ds.map (·.nm)).Nodup ∧ ds[j]? = some d ∧ d.nm = x ∧
  ∀ g, PgAt CP H g d.nm (sortB zs d.bids) d.fol (decide (d.nm ∈ hs)) → Q (.ref g) H
theorem ok_Book_page {f C CP : Addr} {fd : FuncData} (F : Fun K "page" "Book.page" s_Book_page f fd) (T : TxtBk K C) : FnOk P w K mg base CX0 1 f fd ["self", "name"] (spPage C CP) := by
  refine F.ok sc_Book_page (fun vs H Q E h => ?_) (fun cdv A outer s H vs Q E hr h => ?_)
  · obtain ⟨p, x, zs, ss, hs, ds, j, d, rfl, _⟩ := h
    rfl
  · obtain ⟨p, x, zs, ss, hs, ds, j, d, rfl, ⟨dx, m, n, s0, h0, r, g, o, rs, qs, hp, hm, hn, oc, od, hs', hh, hr', hR, hg, hQ⟩, nd, ed, rfl, q⟩ := h
    have en : (ds.map (·.nm))[j]? = some d.nm := by rw [List.getElem?_map, ed]; rfl
    obtain ⟨f1, f2⟩ := first_bk nd en
    refine ⟨_, (pss_cons (ps_if (pt_cmpR op_notIn_seq (pv 1) (pe_fld (pv 0) rfl) (by rfl)) (pss_one ps_never) pss_nil)
  (pss_one (ps_ret (pe_ix ix_tup (pe_fld (pv 0) rfl) (pe_bmF PySem.F.plainAttrs_tuple PySem.F.slot_tuple_index PySem.F.type_tuple_index L2.mt_tup_index (pe_fld (pv 0) rfl) (pa_cons (pv 1) pa_nil)) (fun _ _ => rfl))))), ?_⟩
    refine ⟨_, rfl, _, rfl, p, C, dx, _, _, rfl, hp, T.cl, T.n2, fldsB_names _ _ _ _ _ _, n, _, rfl, .inr (.inl (.inr ⟨o, hn⟩)), rfl, nms_flat _, _, rfl, ?_⟩
    rw [notin_nm, decide_eq_true (List.mem_of_getElem? en)]
    refine iteF ?_
    have jl : j < qs.length := by rw [hQ.1]; exact (List.getElem?_eq_some_iff.mp ed).1
    obtain ⟨d', ed', pg⟩ := hQ.2 j _ (List.getElem?_eq_getElem jl)
    cases Option.some.inj (ed.symm.trans ed')
    refine ⟨_, rfl, p, C, dx, _, _, rfl, hp, T.cl, T.n6, fldsB_pages _ _ _ _ _ _, _, rfl, p, C, dx, _, _, rfl, hp, T.cl, T.n2, fldsB_names _ _ _ _ _ _, ⟨n, o, _, rfl, hn, oc, od⟩, _, rfl, n, (ds.map (·.nm)).map sOf, sOf d.nm, j, rfl, rfl, .inl (.inr ⟨o, by rw [← vN_strs]; exact hn⟩), f1, f2, ?_⟩
    refine ⟨_, _, _, _, rfl, rfl, tupAt hg, atI_nat (by rw [List.getElem?_map, List.getElem?_eq_getElem jl]; rfl), ?_⟩
    exact q _ pg.1
def RBk (K : PySem.W.Frag) (C : Addr) (a t : Addr) (H : Hp) : Prop := ∃ dx m n s h r xs, H a = some (.ins C dx (fldsB m n s h r t)) ∧ SqT K H t xs
theorem ok_Book_iter {f C : Addr} {fd : FuncData} (F : Fun K "__iter__" "Book.__iter__" s_Book_iter f fd) (b : Binds K fd ["self"] []) (T : TxtBk K C) (m_iter : mg "iter" = none) : FnIt P w K mg base 1 f (RBk K C) := by
  refine fnIt_of (k := 0) F sc_Book_iter b fun cdv A outer s H a t hr hR => ?_
  obtain ⟨dx, m, n, s0, h0, r, xs, ha, ht⟩ := hR
  refine ⟨_, PSs.nox (pss_one (ps_ret (pe_callB call_iterT (by rfl) m_iter (by decide +kernel) (pa_cons (pe_fld (pv 0) rfl) pa_nil)))), ?_⟩
  exact ⟨_, rfl, a, C, dx, _, _, rfl, ha, T.cl, T.n6, fldsB_pages _ _ _ _ _ _, t, xs, rfl, ht, fun it hn hs => ⟨it, rfl, hn, hs, rfl⟩⟩
def candN (ds : List BidD) (kb : List Nam) : List Nam := (ds.map (·.1)).filter fun x => !decide (x ∈ kb)
def spCand (K : PySem.W.Frag) (C CL CT CP : Addr) : Sp := fun vs H Q _ => ∃ (p g : Addr) (zs kb : List Nam) (ts : List Tie) (n : Nam) (ds : List BidD) (fl : List Nam) (hb : Bool), vs = [.ref p, .ref g] ∧ RuAt K C CL CT H p zs kb ts ∧ PgAt CP H g n ds fl hb ∧ ds.length ≤ 500 ∧
  ∀ H' t, H t = none → Same H H' → H' t = some (.tup ((candN ds kb).map vN)) → Q (.ref t) H'
theorem ok_Rule_candidates {f C CL CT CP : Addr} {fd : FuncData} (F : Fun K "candidates" "Rule.candidates" s_Rule_candidates f fd) (T : TxtRu K C) (TP : TxtPg K CP) (m_tuple : mg "tuple" = none) : FnOk P w K mg base CX0 1 f fd ["self", "page"] (spCand K C CL CT CP) := by
  refine F.ok sc_Rule_candidates (fun vs H Q E h => ?_) (fun cdv A outer s H vs Q E hr h => ?_)
  · obtain ⟨p, g, zs, kb, ts, n, ds, fl, hb, rfl, _⟩ := h
    rfl
  · obtain ⟨p, g, zs, kb, ts, n, ds, fl, hb, rfl, ⟨dx, m, bt, l, ht, fs, hh, hp, k1, k2, k3, k4, lc, hm, hbt, hl, tk, hmin⟩, ⟨gx, gb, gw, gf, gs, es, hg, g1, g2, g3, g4, g5, hgb, hgB, hgw, hgf⟩, l500, q⟩ := h
    refine ⟨_, (pss_one (ps_ret (pe_callTy call_tuple_of (by rfl) m_tuple (by decide +kernel) (pa_cons (pe_lc (own := [("member", 2)]) (by rfl) sc_Rule_candidates.nd (pi_tup (pe_fld (pv 1) rfl)) (blkOk_by (N := ["self", "page", "member"]) (sc := defScope s_Rule_candidates) (by decide +kernel)) (fun _ _ _ _ _ => (pg_name (i := 2) sc_Rule_candidates.nd rfl (.inl rfl))) (fun _ _ _ _ _ => (pts_one (pt_cmpR (op_notIn_seqK (K := K) rfl) (pv 2) (pe_fldK (K := K) rfl (pv 0) rfl) (by rfl)))) (fun _ _ _ _ _ => (pv 2))) pa_nil)))), ?_⟩
    refine ⟨_, rfl, g, CP, gx, _, _, rfl, hg, TP.cl, TP.n3, g3, gw, rfl, ⟨_, tupAt hgw⟩, fun D nD => ?_⟩
    refine lc_tup (K := K) (a := gw) (xs := (ds.map (·.1)).map vN) (fun i H' => Same H H' ∧ H' D = some (.lst ((((ds.map (·.1)).take i).filter fun x => !decide (x ∈ kb)).map vN))) ⟨same_upd nD, upd_same⟩ (fun i H' _ hq => tupAt (hq.1 _ _ hgw)) (fun i v H' hv hq => ?_) (fun H1 hq => ?_)
    · obtain ⟨s1, eD⟩ := hq
      obtain ⟨x, ex, rfl⟩ := vN_at hv
      have hi := (List.getElem?_eq_some_iff.mp ex).1
      rw [List.length_map] at hi
      have cl : (((ds.map (·.1)).take i).filter fun x => !decide (x ∈ kb)).length ≤ 500 := Nat.le_trans (List.length_filter_le _ _) (by rw [List.length_take]; omega)
      rw [flt_at ex]
      refine ⟨rfl, _, rfl, _, rfl, p, C, dx, _, _, rfl, s1 _ _ hp, T.cl, T.n4, k2, bt, _, rfl, .inr (tupAt (s1 _ _ hbt)), rfl, nms_flat _, _, rfl, ?_⟩
      rw [notin_nm]
      by_cases hx : x ∈ kb
      · rw [decide_eq_true hx]
        exact iteF ⟨s1, by rw [if_neg (by decide), List.append_nil]; exact eD⟩
      · rw [decide_eq_false hx]
        refine iteT ⟨_, rfl, _, eD, by rw [List.length_map]; exact small1000 (by omega), same_at s1 nD, ?_⟩
        rw [if_pos (by decide), List.map_append]
        exact upd_same
    · obtain ⟨s1, eD⟩ := hq
      rw [List.length_map, List.take_length] at eD
      refine ⟨D, _, rfl, .inl ⟨lstAt eD, fun t nt => ?_⟩⟩
      exact q _ t (none_of s1 nt) (s1.trans (same_upd nt)) upd_same
def spMoves (K : PySem.W.Frag) (C CL CT CP : Addr) : Sp := fun vs H Q _ => ∃ (p g : Addr) (zs kb : List Nam) (ts : List Tie) (n : Nam) (ds : List BidD) (fl : List Nam) (hb : Bool), vs = [.ref p, .ref g] ∧ RuAt K C CL CT H p zs kb ts ∧ PgAt CP H g n ds fl hb ∧ ds.length ≤ 500 ∧
  ∀ H' t, H t = none → Same H H' → H' t = some (.lst ((candN ds kb ++ [[]]).map vN)) → Q (.ref t) H'
theorem ok_TurnRule_moves {f C CL CT CP gc : Addr} {fd fdc : FuncData} (F : Fun K "moves" "TurnRule.moves" s_TurnRule_moves f fd) (T : TxtRu K C) (Me_candidates : Meth K C "candidates" gc) (G_candidates : FnOk P w K mg base CX0 1 gc fdc ["self", "page"] (spCand K C CL CT CP)) (b_candidates : Binds K fdc ["self", "page"] []) :
    FnOk P w K mg base CX0 2 f fd ["self", "page"] (spMoves K C CL CT CP) := by
  refine F.ok sc_TurnRule_moves (fun vs H Q E h => ?_) (fun cdv A outer s H vs Q E hr h => ?_)
  · obtain ⟨p, g, zs, kb, ts, n, ds, fl, hb, rfl, _⟩ := h
    rfl
  · obtain ⟨p, g, zs, kb, ts, n, ds, fl, hb, rfl, ru, pg, l500, q⟩ := h
    obtain ⟨dx, m, bt, l, ht, fs, hh, hp, k1, k2, k3, k4, lc, _⟩ := id ru
    refine ⟨_, (pss_one (ps_ret (pe_lst (StX.pa_star (pe_meth (pv 0) T.cl Me_candidates G_candidates (hr.mono (by decide)) b_candidates .nil pass0 (pa_cons (pv 1) pa_nil)) (pa_cons pe_str pa_nil))))), ?_⟩
    refine ⟨_, rfl, p, dx, _, rfl, hp, lc.2 _ (by decide +kernel), _, rfl, p, g, zs, kb, ts, n, ds, fl, hb, rfl, ru, pg, l500, fun H1 t nt s1 et => ?_⟩
    have cl : (candN ds kb).length ≤ 500 := Nat.le_trans (List.length_filter_le _ _) (by rw [List.length_map]; exact l500)
    refine ⟨t, _, rfl, .inl (tupAt et), Nat.le_of_lt (small1000 (by rw [List.length_append, List.length_map]; show _ + 1 ≤ 1000; omega)), fun u nu => ?_⟩
    have e : (candN ds kb).map vN ++ [V.str (Str.ofString "")] = (candN ds kb ++ [[]]).map vN := by rw [List.map_append]; rfl
    rw [e]
    exact q _ u (none_of s1 nu) (s1.trans (same_upd nu)) upd_same
def spLets : Sp := fun vs H Q _ => ∃ (p g : Addr) (x : Nam), vs = [.ref p, .ref g, vN x] ∧ ∀ H' t e i, H t = none → Same H H' → H' t = some (.lst [.ref e]) → H' e = some (.tup [.ref i, .int 0]) → H' i = some (.tup (if x = [] then [] else [vN x])) → Q (.ref t) H'
theorem ok_TurnRule_lets {f : Addr} {fd : FuncData} (F : Fun K "lets" "TurnRule.lets" s_TurnRule_lets f fd) : FnOk P w K mg base CX0 1 f fd ["self", "page", "move"] spLets := by
  refine F.ok sc_TurnRule_lets (fun vs H Q E h => ?_) (fun cdv A outer s H vs Q E hr h => ?_)
  · obtain ⟨p, g, x, rfl, _⟩ := h
    rfl
  · obtain ⟨p, g, x, rfl, q⟩ := h
    refine ⟨_, (pss_one (ps_ret (pe_ifExp (pt_cmpR op_eq (pv 2) pe_str (nomark _)) (pe_lst (pa_cons (pe_tup (pa_cons (pe_tup pa_nil) (pa_cons pe_int pa_nil))) pa_nil)) (pe_lst (pa_cons (pe_tup (pa_cons (pe_tup (pa_cons (pv 2) pa_nil)) (pa_cons pe_int pa_nil))) pa_nil))))), ?_⟩
    refine ⟨_, rfl, rfl, _, rfl, ?_⟩
    by_cases h : x = []
    · subst h
      rw [decide_eq_true (show vN [] = V.str (Str.ofString "") from rfl)]
      refine iteT ⟨Nat.zero_le _, fun i ni => ⟨(show (2 : Nat) ≤ sizeLine by decide), fun e ne => ⟨(show (1 : Nat) ≤ sizeLine by decide), fun t nt => ?_⟩⟩⟩
      have s1 := same_upd (o := .tup []) ni
      have s2 := same_upd (o := .tup [V.ref i, .int 0]) ne
      have s3 := same_upd (o := .lst [V.ref e]) nt
      exact q _ t e i (none_of (s1.trans s2) nt) (s1.trans (s2.trans s3)) upd_same (s3 _ _ upd_same) (s3 _ _ (s2 _ _ upd_same))
    · rw [decide_eq_false (show ¬ vN x = V.str (Str.ofString "") from fun e => h (sOf_inj (V.str.inj (show vN x = vN [] from e))))]
      refine iteF ⟨_, rfl, (show (1 : Nat) ≤ sizeLine by decide), fun i ni => ⟨(show (2 : Nat) ≤ sizeLine by decide), fun e ne => ⟨(show (1 : Nat) ≤ sizeLine by decide), fun t nt => ?_⟩⟩⟩
      rw [if_neg h] at q
      have s1 := same_upd (o := .tup [vN x]) ni
      have s2 := same_upd (o := .tup [V.ref i, .int 0]) ne
      have s3 := same_upd (o := .lst [V.ref e]) nt
      exact q _ t e i (none_of (s1.trans s2) nt) (s1.trans (s2.trans s3)) upd_same (s3 _ _ upd_same) (s3 _ _ (s2 _ _ upd_same))
end
end TK

/-! links, some of a row, a row in another order -/
namespace TK
open PySem PySem.Spec PyProof.Rows L2
/-! right ties, under way -/
structure TsOk (zs : List Nam) (ts : List Tie) : Prop where
  a : ∀ t ∈ ts, t.1 ∈ zs
  b : ∀ t ∈ ts, t.2.1 ∈ zs
  ne : ∀ t ∈ ts, t.1 ≠ t.2.1
  h0 : ∀ t ∈ ts, 0 ≤ t.2.2
  h9 : ∀ t ∈ ts, t.2.2 ≤ 1000000000
theorem TsOk.nil {zs : List Nam} : TsOk zs [] := ⟨(fun _ h => nomatch h), (fun _ h => nomatch h), (fun _ h => nomatch h), (fun _ h => nomatch h), (fun _ h => nomatch h)⟩
theorem TsOk.app {zs : List Nam} {ts us : List Tie} (h : TsOk zs ts) (k : TsOk zs us) : TsOk zs (ts ++ us) :=
  ⟨fun t m => (List.mem_append.mp m).elim (h.a t) (k.a t), fun t m => (List.mem_append.mp m).elim (h.b t) (k.b t), fun t m => (List.mem_append.mp m).elim (h.ne t) (k.ne t), fun t m => (List.mem_append.mp m).elim (h.h0 t) (k.h0 t), fun t m => (List.mem_append.mp m).elim (h.h9 t) (k.h9 t)⟩
theorem TsOk.sub {zs : List Nam} {ts us : List Tie} (h : TsOk zs ts) (k : ∀ t ∈ us, t ∈ ts) : TsOk zs us :=
  ⟨fun t m => h.a t (k t m), fun t m => h.b t (k t m), fun t m => h.ne t (k t m), fun t m => h.h0 t (k t m), fun t m => h.h9 t (k t m)⟩
structure TW (H0 H : Hp) (D : Addr) (zs : List Nam) (es : List Addr) (ts : List Tie) : Prop where
  s : Same H0 H
  d : H D = some (.lst (es.map V.ref))
  t : TiesAt H es ts
  o : TsOk zs ts
theorem TW.add {H0 H : Hp} {D q : Addr} {zs : List Nam} {es : List Addr} {ts : List Tie} {t : Tie} (h : TW H0 H D zs es ts) (n : H0 D = none) (nq : H q = none) (a : t.1 ∈ zs) (b : t.2.1 ∈ zs) (ne : t.1 ≠ t.2.1) (h0 : 0 ≤ t.2.2) (h9 : t.2.2 ≤ 1000000000) :
    TW H0 (upd (upd H q (.tup [vN t.1, vN t.2.1, .int t.2.2])) D (.lst (es.map V.ref ++ [.ref q]))) D zs (es ++ [q]) (ts ++ [t]) := by
  have sq := same_upd (o := .tup [vN t.1, vN t.2.1, .int t.2.2]) nq
  have Dq : D ≠ q := ne_of_none h.d nq
  have fD : ∀ c x, H c = some x → c ≠ D → (upd (upd H q (.tup [vN t.1, vN t.2.1, .int t.2.2])) D (.lst (es.map V.ref ++ [.ref q]))) c = some x := fun c x e n => by rw [upd_ne n]; exact sq _ _ e
  refine ⟨fun c x e => fD c x (h.s _ _ e) (ne_of_none e n), by rw [List.map_append]; exact upd_same, ?_, h.o.app ?_⟩
  · refine TiesAt.snoc (H := upd (upd H q (.tup [vN t.1, vN t.2.1, .int t.2.2])) D (.lst (es.map V.ref ++ [.ref q]))) ⟨h.t.1, fun j e he => ?_⟩ (Same.refl _) ?_
    · obtain ⟨t', h1, h2⟩ := h.t.2 j e he
      exact ⟨t', h1, fD _ _ h2 (ne_of h2 h.d (by intro z; cases z))⟩
    · show _ = _
      rw [upd_ne Dq.symm]; exact upd_same
  · have one : ∀ x ∈ [t], x = t := fun x m => List.mem_singleton.mp m
    exact ⟨fun x m => by rw [one x m]; exact a, fun x m => by rw [one x m]; exact b, fun x m => by rw [one x m]; exact ne, fun x m => by rw [one x m]; exact h0, fun x m => by rw [one x m]; exact h9⟩
/-! the two ends of a tie -/
theorem two_ne {L a d : Int} (h0 : 0 ≤ a) (h1 : a < L) (d0 : 0 ≤ d) (d1 : d < L - 1) : 0 ≤ (a + 1 + d) % L ∧ (a + 1 + d) % L < L ∧ (a + 1 + d) % L ≠ a := by
  refine ⟨Int.emod_nonneg _ (by omega), Int.emod_lt_of_pos _ (by omega), ?_⟩
  by_cases h : a + 1 + d < L
  · rw [Int.emod_eq_of_lt (by omega) h]; omega
  · rw [show a + 1 + d = (a + 1 + d - L) + L * 1 by omega, Int.add_mul_emod_self_left, Int.emod_eq_of_lt (by omega) (by omega)]; omega
theorem nm_getC {zs : List Nam} {i : Int} (h0 : 0 ≤ i) (h : i < zs.length) : ∃ z, zs[i.toNat]? = some z ∧ z ∈ zs ∧ atI (zs.map vN) i = some (vN z) := by
  have hl : i.toNat < zs.length := by omega
  refine ⟨zs[i.toNat], List.getElem?_eq_getElem hl, List.getElem_mem hl, atI_in h0 ?_⟩
  rw [List.getElem?_map, List.getElem?_eq_getElem hl]
  rfl
theorem nm_neC {zs : List Nam} {i j : Int} {y z : Nam} (nd : zs.Nodup) (i0 : 0 ≤ i) (j0 : 0 ≤ j) (h1 : zs[i.toNat]? = some y) (h2 : zs[j.toNat]? = some z) (ne : j ≠ i) : y ≠ z := by
  intro e
  subst e
  have hl := (List.getElem?_eq_some_iff.mp h1).1
  have := (List.getElem?_inj hl nd).mp (h1.trans h2.symm)
  omega
theorem pow4 {i : Int} (h0 : 0 ≤ i) (h1 : i < 4) : ∃ v : Int, atI [V.int 1, V.int 2, V.int 4, V.int 8] i = some (.int v) ∧ 0 < v ∧ v < 1000000 := by
  obtain rfl | rfl | rfl | rfl : i = 0 ∨ i = 1 ∨ i = 2 ∨ i = 3 := by omega
  · exact ⟨1, rfl, by decide, by decide⟩
  · exact ⟨2, rfl, by decide, by decide⟩
  · exact ⟨4, rfl, by decide, by decide⟩
  · exact ⟨8, rfl, by decide, by decide⟩
theorem nm_at {zs : List (List Nat)} {i : Int} (h0 : 0 ≤ i) (h : i < zs.length) : ∃ z, zs[i.toNat]? = some z ∧ atI (zs.map vN) i = some (vN z) := by
  have h1 : i.toNat < zs.length := by omega
  refine ⟨zs[i.toNat], List.getElem?_eq_getElem h1, atI_in h0 ?_⟩
  rw [List.getElem?_map, List.getElem?_eq_getElem h1]; rfl
theorem sub_snoc {α : Type} {ws zs : List α} {i : Nat} {z : α} (h : ws.Sublist (zs.take i)) (e : zs[i]? = some z) : (ws ++ [z]).Sublist (zs.take (i + 1)) := by
  rw [List.take_add_one, e]
  exact h.append (List.Sublist.refl _)
theorem sub_keep {α : Type} {ws zs : List α} {i : Nat} (h : ws.Sublist (zs.take i)) : ws.Sublist (zs.take (i + 1)) := by
  rw [List.take_add_one]
  exact h.trans (List.sublist_append_left _ _)
theorem erase_perm {α : Type} : ∀ {rs : List α} {k : Nat} {x : α}, rs[k]? = some x → (x :: rs.eraseIdx k).Perm rs
  | [], k, x, h => by simp at h
  | r :: rs, 0, x, h => by
    have : r = x := by simpa using h
    subst this; exact List.Perm.refl _
  | r :: rs, k + 1, x, h => by
    have ih := erase_perm (rs := rs) (k := k) (x := x) (by simpa using h)
    exact (List.Perm.swap r x _).trans (ih.cons r)
theorem erase_map {α β : Type} (f : α → β) : ∀ {rs : List α} {k : Nat}, (rs.map f).eraseIdx k = (rs.eraseIdx k).map f
  | [], k => rfl
  | r :: rs, 0 => rfl
  | r :: rs, k + 1 => by
    show f r :: (rs.map f).eraseIdx k = _
    rw [erase_map f]; rfl
theorem erase_len {α : Type} {rs : List α} {k : Nat} (h : k < rs.length) : (rs.eraseIdx k).length + 1 = rs.length := by
  rw [List.length_eraseIdx, if_pos h]; omega
theorem sh1 {i : Int} (h0 : 0 ≤ i) (h1 : i < 4) : ∃ v : Int, atI [V.int 1, V.int 4, V.int 12, V.int 24] i = some (.int v) ∧ 0 < v ∧ v < 1000000 := by
  obtain rfl | rfl | rfl | rfl : i = 0 ∨ i = 1 ∨ i = 2 ∨ i = 3 := by omega
  · exact ⟨1, rfl, by decide, by decide⟩
  · exact ⟨4, rfl, by decide, by decide⟩
  · exact ⟨12, rfl, by decide, by decide⟩
  · exact ⟨24, rfl, by decide, by decide⟩
theorem sh2 {i : Int} (h0 : 0 ≤ i) (h1 : i < 4) : ∃ v : Int, atI [V.int 4, V.int 3, V.int 2, V.int 1] i = some (.int v) ∧ 0 < v ∧ v < 1000000 := by
  obtain rfl | rfl | rfl | rfl : i = 0 ∨ i = 1 ∨ i = 2 ∨ i = 3 := by omega
  · exact ⟨4, rfl, by decide, by decide⟩
  · exact ⟨3, rfl, by decide, by decide⟩
  · exact ⟨2, rfl, by decide, by decide⟩
  · exact ⟨1, rfl, by decide, by decide⟩
theorem ne_new {H : Hp} {a b : Addr} {o : HO} (h : H a = some o) (n : H b = none) : a ≠ b := fun e => by rw [e, n] at h; cases h
section
variable {P : Program} {w : World} {K : PySem.W.Frag} {mg : Str → Option Value} {base : Heap}
/-! _law_links -/
def spLinks (K : PySem.W.Frag) : Sp := fun vs H Q _ => ∃ (a b : Addr) (ns : List Int) (s n : Int) (zs : List Nam), vs = [.ref a, .int s, .ref b, .int n] ∧ SqL K H a (ns.map V.int) ∧ SqL K H b (zs.map vN) ∧ 0 ≤ s ∧ s + n ≤ ns.length ∧ 0 ≤ n ∧ n ≤ 12 ∧ zs.length ≤ 6 ∧ zs.Nodup ∧
  ∀ (H' : Hp) (p : Addr) (es : List Addr) (ts : List Tie), TW H H' p zs es ts → ts.length ≤ 12 → Q (.ref p) H'
theorem ok_L_links {f : Addr} {fd : FuncData} (F : Fun K "_law_links" "_law_links" s_L_links f fd) (m_len : mg "len" = none) (m_range : mg "range" = none)
    (d_L_part : Def P w K mg base "_law_part" 1 ["_law_pool_here", "_law_spot", "_law_under", "_law_size"] (spPart K)) : FnOk P w K mg base CX0 2 f fd ["_law_pool_here", "_law_spot", "_law_members", "_law_number"] (spLinks K) := by
  refine F.ok sc_L_links (fun vs H Q E h => ?_) (fun cdv A outer s H vs Q E hr h => ?_)
  · obtain ⟨a, b, ns, s, n, zs, rfl, _⟩ := h
    rfl
  · obtain ⟨a, b, ns, sp, n, zs, rfl, hA, hB, s0, sn, n0, n12, z6, nd, q⟩ := h
    have zl : (zs.map vN).length = zs.length := List.length_map ..
    refine ⟨_, (pss_cons (ps_set (i := 4) sc_L_links.nd rfl (.inl rfl) (pe_lst pa_nil))
  (pss_cons (ps_if (pt_cmpR op_lt (pe_callB call_len_seq (by rfl) m_len (by decide +kernel) (pa_cons (pv 2) pa_nil)) pe_int (nomark _)) (pss_one (ps_ret (pv 4))) pss_nil)
  (pss_cons (ps_for PassesOwn.never rfl (pi_range1 (by rfl) m_range (pa_cons (pv 3) pa_nil)) (pg_name (i := 5) sc_L_links.nd rfl (.inl rfl))
    (pss_cons (ps_set (i := 6) sc_L_links.nd rfl (.inl rfl) (pe_op op_mod (pe_callD d_L_part (hr.mono (by decide)) (by rfl) (pa_cons (pv 0) (pa_cons (pe_op op_add (pv 1) (pv 5)) (pa_cons pe_int (pa_cons pe_int pa_nil))))) (pe_callB call_len_seq (by rfl) m_len (by decide +kernel) (pa_cons (pv 2) pa_nil))))
  (pss_cons (ps_set (i := 7) sc_L_links.nd rfl (.inl rfl) (pe_op op_mod (pe_op op_add (pe_op op_add (pv 6) pe_int) (pe_op op_mod (pe_callD d_L_part (hr.mono (by decide)) (by rfl) (pa_cons (pv 0) (pa_cons (pe_op op_add (pv 1) (pv 5)) (pa_cons pe_int (pa_cons pe_int pa_nil))))) (pe_op op_sub (pe_callB call_len_seq (by rfl) m_len (by decide +kernel) (pa_cons (pv 2) pa_nil)) pe_int))) (pe_callB call_len_seq (by rfl) m_len (by decide +kernel) (pa_cons (pv 2) pa_nil))))
  (pss_cons (ps_set (i := 8) sc_L_links.nd rfl (.inl rfl) (pe_callD d_L_part (hr.mono (by decide)) (by rfl) (pa_cons (pv 0) (pa_cons (pe_op op_add (pv 1) (pv 5)) (pa_cons pe_int (pa_cons pe_int pa_nil))))))
  (pss_cons (ps_if (pt_cmpR op_eq (pe_callD d_L_part (hr.mono (by decide)) (by rfl) (pa_cons (pv 0) (pa_cons (pe_op op_add (pv 1) (pv 5)) (pa_cons pe_int (pa_cons pe_int pa_nil))))) pe_int (nomark _)) (pss_one (ps_set (i := 8) sc_L_links.nd rfl (.inl rfl) (pe_op op_sub (pe_op op_pow pe_int pe_int) (pv 8)))) pss_nil)
  (pss_one (ps_expr (pe_bm PySem.F.plainAttrs_list PySem.F.slot_list_append PySem.F.type_list_append mt_append (pv 4) (pa_cons (pe_tup (pa_cons (pe_ix ix_list (pv 2) (pv 6) (fun _ _ => rfl)) (pa_cons (pe_ix ix_list (pv 2) (pv 7) (fun _ _ => rfl)) (pa_cons (pv 8) pa_nil)))) pa_nil)))))))))
  (pss_one (ps_ret (pv 4)))))), ?_⟩
    refine ⟨Nat.zero_le _, fun p np => ?_⟩
    have s1 := same_upd (o := .lst []) np
    have w0 : TW H (upd H p (.lst [])) p zs [] [] := ⟨s1, upd_same, ⟨rfl, fun _ _ h => nomatch h⟩, .nil⟩
    refine ⟨_, rfl, _, _, rfl, .inl (s1.seq hB), _, _, rfl, rfl, _, rfl, ite2 (fun e => ?_) (fun e => ?_)⟩
    · exact ⟨_, rfl, q _ p [] [] w0 (Nat.zero_le _)⟩
    have l2 : 2 ≤ zs.length := by
      rw [zl] at e
      have := of_decide_eq_false (Bool.eq_false_iff.mpr e)
      omega
    refine ⟨_, rfl, _, rfl, by omega, by omega, for_range (fun i σ H' => ∃ (es : List Addr) (ts : List Tie) (y1 y2 y3 y4 : Option V), σ = [some (.ref a), some (.int sp), some (.ref b), some (.int n), some (.ref p), y1, y2, y3, y4] ∧ TW H H' p zs es ts ∧ ts.length = i) ⟨[], [], _, _, _, _, rfl, w0, rfl⟩ ?_ ?_⟩
    · rintro i σ H' hi ⟨es, ts, y1, y2, y3, y4, rfl, tw, hl⟩
      have hA' := tw.s.seq hA
      have hB' := tw.s.seq hB
      have p1 := part_lo (ns := ns) (s := sp + (0 + (i : Int))) (u := 1) (z := 12) (by decide)
      have p2 := part_lo (ns := ns) (s := sp + (0 + (i : Int))) (u := 12) (z := 6) (by decide)
      have t1 := part_lo (ns := ns) (s := sp + (0 + (i : Int))) (u := 72) (z := 7) (by decide)
      have t2 := part_hi (ns := ns) (s := sp + (0 + (i : Int))) (u := 72) (z := 7) (by decide)
      have o1 : 0 ≤ partOf ns (sp + (0 + (i : Int))) 1 12 % (zs.length : Int) := Int.emod_nonneg _ (by omega)
      have o2 : partOf ns (sp + (0 + (i : Int))) 1 12 % (zs.length : Int) < zs.length := Int.emod_lt_of_pos _ (by omega)
      have d1 : 0 ≤ partOf ns (sp + (0 + (i : Int))) 12 6 % ((zs.length : Int) - 1) := Int.emod_nonneg _ (by omega)
      have d2 : partOf ns (sp + (0 + (i : Int))) 12 6 % ((zs.length : Int) - 1) < (zs.length : Int) - 1 := Int.emod_lt_of_pos _ (by omega)
      obtain ⟨w1, w2, w3⟩ := two_ne o1 o2 d1 d2
      obtain ⟨y, gy, my, ay⟩ := nm_getC o1 o2
      obtain ⟨z, gz, mz, az⟩ := nm_getC w1 w2
      have nyz := nm_neC nd o1 w1 gy gz w3
      refine ⟨_, rfl, _, rfl, _, rfl, _, _, rfl, rfl, _, _, _, _, _, rfl, hA', by omega, by omega, by decide, by decide, by decide, _, rfl, _, _, rfl, .inl hB', _, _, rfl, rfl, by rw [zl]; omega, ?_⟩
      rw [zl]
      refine ⟨_, rfl, _, _, rfl, rfl, _, rfl, _, rfl, _, rfl, _, _, rfl, rfl, _, _, _, _, _, rfl, hA', by omega, by omega, by decide, by decide, by decide, _, rfl, _, _, rfl, .inl hB', _, _, rfl, rfl, _, _, rfl, rfl, by rw [zl]; omega, _, _, rfl, rfl, _, rfl, _, _, rfl, .inl hB', _, _, rfl, rfl, by rw [zl]; omega, ?_⟩
      rw [zl]
      refine ⟨_, rfl, _, rfl, _, rfl, _, _, rfl, rfl, _, _, _, _, _, rfl, hA', by omega, by omega, by decide, by decide, by decide, ?_⟩
      refine ⟨_, rfl, _, rfl, _, rfl, _, _, rfl, rfl, _, _, _, _, _, rfl, hA', by omega, by omega, by decide, by decide, by decide, rfl, _, rfl, ite2 (fun e => ?_) (fun e => ?_)⟩
      · refine ⟨_, _, rfl, rfl, ⟨by decide, by decide, by decide⟩, _, rfl, _, _, rfl, rfl, ?_⟩
        refine ⟨_, rfl, .inl ⟨rfl, _, lstAt tw.d⟩, _, rfl, _, rfl, _, _, _, _, rfl, rfl, hB', ay, _, rfl, _, rfl, _, _, _, _, rfl, rfl, hB', az, _, rfl, (show (3 : Nat) ≤ sizeLine by decide), fun t nt => ?_⟩
        have Dt : p ≠ t := ne_of_none tw.d nt
        refine ⟨_, _, _, rfl, rfl, by rw [upd_ne Dt]; exact tw.d, by rw [List.length_map, tw.t.1]; exact small1000 (by omega), es ++ [t], ts ++ [(y, z, 10 ^ (9 : Int).toNat - partOf ns (sp + (0 + (i : Int))) 72 7)], _, _, _, _, rfl, tw.add (t := (y, z, 10 ^ (9 : Int).toNat - partOf ns (sp + (0 + (i : Int))) 72 7)) np nt my mz nyz ?_ ?_, by rw [List.length_append, hl]; rfl⟩
        · show (0 : Int) ≤ 1000000000 - partOf ns (sp + (0 + (i : Int))) 72 7
          omega
        · show (1000000000 : Int) - partOf ns (sp + (0 + (i : Int))) 72 7 ≤ 1000000000
          omega
      · refine ⟨_, rfl, .inl ⟨rfl, _, lstAt tw.d⟩, _, rfl, _, rfl, _, _, _, _, rfl, rfl, hB', ay, _, rfl, _, rfl, _, _, _, _, rfl, rfl, hB', az, _, rfl, (show (3 : Nat) ≤ sizeLine by decide), fun t nt => ?_⟩
        have Dt : p ≠ t := ne_of_none tw.d nt
        exact ⟨_, _, _, rfl, rfl, by rw [upd_ne Dt]; exact tw.d, by rw [List.length_map, tw.t.1]; exact small1000 (by omega), es ++ [t], ts ++ [(y, z, partOf ns (sp + (0 + (i : Int))) 72 7)], _, _, _, _, rfl, tw.add (t := (y, z, partOf ns (sp + (0 + (i : Int))) 72 7)) np nt my mz nyz (by show 0 ≤ partOf ns (sp + (0 + (i : Int))) 72 7; omega) (by show partOf ns (sp + (0 + (i : Int))) 72 7 ≤ 1000000000; omega), by rw [List.length_append, hl]; rfl⟩
    · rintro σ H' ⟨es, ts, y1, y2, y3, y4, rfl, tw, hl⟩
      exact ⟨_, rfl, q _ p es ts tw (by omega)⟩
def spSome (K : PySem.W.Frag) : Sp := fun vs H Q _ => ∃ (a p : Addr) (ns : List Int) (s : Int) (zs : List (List Nat)), vs = [.ref a, .int s, .ref p] ∧ SqL K H a (ns.map V.int) ∧ 0 ≤ s ∧ s < ns.length ∧ SqL K H p (zs.map vN) ∧ zs.length ≤ 4 ∧
  ∀ (d : Addr) (ws : List (List Nat)) (H' : Hp), Same H H' → H d = none → H' d = some (.lst (ws.map vN)) → ws.Sublist zs → Q (.ref d) H'
theorem ok_L_some {f : Addr} {fd : FuncData} (F : Fun K "_law_some" "_law_some" s_L_some f fd) (m_len : mg "len" = none) (m_range : mg "range" = none) (d_L_part : Def P w K mg base "_law_part" 1 ["_law_pool_here", "_law_spot", "_law_under", "_law_size"] (spPart K)) :
    FnOk P w K mg base CX0 2 f fd ["_law_pool_here", "_law_spot", "_law_names_here"] (spSome K) := by
  refine F.ok sc_L_some (fun vs H Q E h => ?_) (fun cdv A outer s H vs Q E hr h => ?_)
  · obtain ⟨a, p, ns, s, zs, rfl, _⟩ := h
    rfl
  · obtain ⟨a, p, ns, s, zs, rfl, hS, h0, h1, hp, hl, q⟩ := h
    refine ⟨_, (pss_cons (ps_set (i := 3) sc_L_some.nd rfl (.inl rfl) (pe_lst pa_nil))
  (pss_cons (ps_for PassesOwn.never rfl (pi_range1 (by rfl) m_range (pa_cons (pe_callB call_len_seq (by rfl) m_len (by decide +kernel) (pa_cons (pv 2) pa_nil)) pa_nil)) (pg_name (i := 4) sc_L_some.nd rfl (.inl rfl))
    (pss_one (ps_if (pt_cmpR op_eq (pe_callD d_L_part (hr.mono (by decide)) (by rfl) (pa_cons (pv 0) (pa_cons (pv 1) (pa_cons (pe_ix ix_list (pe_lst (pa_cons pe_int (pa_cons pe_int (pa_cons pe_int (pa_cons pe_int pa_nil))))) (pv 4) (fun _ _ => rfl)) (pa_cons pe_int pa_nil))))) pe_int (nomark _)) (pss_one (ps_expr (pe_bm PySem.F.plainAttrs_list PySem.F.slot_list_append PySem.F.type_list_append mt_append (pv 3) (pa_cons (pe_ix ix_list (pv 2) (pv 4) (fun _ _ => rfl)) pa_nil)))) pss_nil)))
  (pss_one (ps_ret (pv 3))))), ?_⟩
    refine ⟨Nat.zero_le _, fun d nd => ?_⟩
    have s1 : Same H (upd H d (.lst [])) := same_upd nd
    refine ⟨_, rfl, _, _, rfl, .inl (s1.seq hp), _, rfl, by omega, by rw [List.length_map]; omega, for_range (fun i σ H2 => Same H H2 ∧ ∃ (ws : List (List Nat)) (y : Option V), σ = [some (.ref a), some (.int s), some (.ref p), some (.ref d), y] ∧ ws.Sublist (zs.take i) ∧ H2 d = some (.lst (ws.map vN))) ⟨s1, [], _, rfl, List.Sublist.refl _, upd_same⟩ ?_ ?_⟩
    · rintro i σ H2 hi ⟨sm, ws, y, rfl, sub, ed⟩
      rw [List.length_map] at hi
      obtain ⟨u, eu, u0, u1⟩ := pow4 (i := 0 + (i : Int)) (by omega) (by omega)
      refine ⟨_, rfl, _, rfl, (show 4 ≤ sizeLine by decide), fun l nl => ⟨_, rfl, _, _, _, _, rfl, rfl, lstAt upd_same, eu, ?_⟩⟩
      have sl := same_upd (o := .lst [V.int 1, V.int 2, V.int 4, V.int 8]) nl
      have sm2 := sm.trans sl
      refine ⟨a, ns, s, u, 2, rfl, sm2.seq hS, h0, h1, u0, u1, by decide, ?_⟩
      refine ⟨rfl, _, rfl, ite2 (fun e => ?_) (fun e => ?_)⟩
      · obtain ⟨z, ez, az⟩ := nm_at (zs := zs) (i := 0 + (i : Int)) (by omega) (by omega)
        rw [show (0 + (i : Int)).toNat = i by omega] at ez
        refine ⟨_, rfl, .inl ⟨rfl, _, lstAt (sl _ _ ed)⟩, _, rfl, _, rfl, _, _, _, _, rfl, rfl, sm2.seq hp, az, ?_⟩
        have hw := sub.length_le
        rw [List.length_take] at hw
        refine ⟨_, _, _, rfl, rfl, sl _ _ ed, by rw [List.length_map]; exact small1000 (by omega), same_at sm2 nd, ws ++ [z], _, rfl, sub_snoc sub ez, ?_⟩
        rw [upd_same, List.map_append]; rfl
      · exact ⟨sm2, ws, _, rfl, sub_keep sub, sl _ _ ed⟩
    · rintro σ H2 ⟨sm, ws, y, rfl, sub, ed⟩
      rw [List.length_map, Int.toNat_natCast, List.take_length] at sub
      exact ⟨_, rfl, q d ws H2 sm nd ed sub⟩
def spShufG {α : Type} (emb : α → V) (K : PySem.W.Frag) : Sp := fun vs H Q _ => ∃ (a p : Addr) (ns : List Int) (s : Int) (zs : List α), vs = [.ref a, .int s, .ref p] ∧ SqL K H a (ns.map V.int) ∧ 0 ≤ s ∧ s < ns.length ∧ SqL K H p (zs.map emb) ∧ zs.length ≤ 4 ∧
  ∀ (d : Addr) (ts : List α) (H' : Hp), Same H H' → H d = none → H' d = some (.lst (ts.map emb)) → ts.Perm zs → Q (.ref d) H'
theorem ok_L_shuffledG {α : Type} (emb : α → V) {f : Addr} {fd : FuncData} (F : Fun K "_law_shuffled" "_law_shuffled" s_L_shuffled f fd) (m_len : mg "len" = none) (m_range : mg "range" = none) (m_list : mg "list" = none) (d_L_part : Def P w K mg base "_law_part" 1 ["_law_pool_here", "_law_spot", "_law_under", "_law_size"] (spPart K)) :
    FnOk P w K mg base CX0 2 f fd ["_law_pool_here", "_law_spot", "_law_row"] (spShufG emb K) := by
  refine F.ok sc_L_shuffled (fun vs H Q E h => ?_) (fun cdv A outer s H vs Q E hr h => ?_)
  · obtain ⟨a, p, ns, s, zs, rfl, _⟩ := h
    rfl
  · obtain ⟨a, p, ns, s, zs, rfl, hS, h0, h1, hp, hl, q⟩ := h
    refine ⟨_, (pss_cons (ps_set (i := 3) sc_L_shuffled.nd rfl (.inl rfl) (pe_callTy call_list_of (by rfl) m_list (by decide +kernel) (pa_cons (pv 2) pa_nil)))
  (pss_cons (ps_set (i := 4) sc_L_shuffled.nd rfl (.inl rfl) (pe_lst pa_nil))
  (pss_cons (ps_for PassesOwn.never rfl (pi_range1 (by rfl) m_range (pa_cons (pe_callB call_len_seq (by rfl) m_len (by decide +kernel) (pa_cons (pv 2) pa_nil)) pa_nil)) (pg_name (i := 5) sc_L_shuffled.nd rfl (.inl rfl))
    (pss_one (ps_expr (pe_bm PySem.F.plainAttrs_list PySem.F.slot_list_append PySem.F.type_list_append mt_append (pv 4) (pa_cons (pe_bm PySem.F.plainAttrs_list PySem.F.slot_list_pop PySem.F.type_list_pop mt_popAt (pv 3) (pa_cons (pe_op op_modN (pe_callD d_L_part (hr.mono (by decide)) (by rfl) (pa_cons (pv 0) (pa_cons (pv 1) (pa_cons (pe_ix ix_list (pe_lst (pa_cons pe_int (pa_cons pe_int (pa_cons pe_int (pa_cons pe_int pa_nil))))) (pv 5) (fun _ _ => rfl)) (pa_cons (pe_ix ix_list (pe_lst (pa_cons pe_int (pa_cons pe_int (pa_cons pe_int (pa_cons pe_int pa_nil))))) (pv 5) (fun _ _ => rfl)) pa_nil))))) (pe_callB call_len_seq (by rfl) m_len (by decide +kernel) (pa_cons (pv 3) pa_nil))) pa_nil)) pa_nil)))))
  (pss_one (ps_ret (pv 4)))))), ?_⟩
    refine ⟨_, rfl, p, _, rfl, .inl hp, fun lf nlf => ?_⟩
    have s1 : Same H (upd H lf (.lst (zs.map emb))) := same_upd nlf
    refine ⟨Nat.zero_le _, fun tk ntk => ?_⟩
    have s2 := s1.trans (same_upd (o := .lst []) ntk)
    have ntk0 : H tk = none := s1.free ntk
    have hne : lf ≠ tk := ne_new upd_same ntk
    refine ⟨_, rfl, _, _, rfl, .inl (s2.seq hp), _, rfl, by omega, by rw [List.length_map]; omega, for_range (fun i σ H2 => Same H H2 ∧ ∃ (rs ts : List α) (y : Option V), σ = [some (.ref a), some (.int s), some (.ref p), some (.ref lf), some (.ref tk), y] ∧ H2 lf = some (.lst (rs.map emb)) ∧ H2 tk = some (.lst (ts.map emb)) ∧ rs.length + i = zs.length ∧ ts.length = i ∧ (ts ++ rs).Perm zs)
      ⟨s2, zs, [], _, rfl, by rw [upd_ne hne]; exact upd_same, upd_same, rfl, rfl, List.Perm.refl _⟩ ?_ ?_⟩
    · rintro i σ H2 hi ⟨sm, rs, ts, y, rfl, el, et, ll, lt, pm⟩
      rw [List.length_map] at hi
      obtain ⟨u, eu, u0, u1⟩ := sh1 (i := 0 + (i : Int)) (by omega) (by omega)
      obtain ⟨v, ev, v0, v1⟩ := sh2 (i := 0 + (i : Int)) (by omega) (by omega)
      have rl : 0 < rs.length := by omega
      have m0 := Int.emod_nonneg (partOf ns s u v) (show (rs.length : Int) ≠ 0 by omega)
      have m1 := Int.emod_lt_of_pos (partOf ns s u v) (show (0 : Int) < (rs.length : Int) by omega)
      obtain ⟨k, hk⟩ : ∃ k : Nat, partOf ns s u v % (rs.length : Int) = (k : Int) := ⟨(partOf ns s u v % (rs.length : Int)).toNat, by omega⟩
      have hkl : k < rs.length := by omega
      have ek : rs[k]? = some rs[k] := List.getElem?_eq_getElem hkl
      refine ⟨_, rfl, .inl ⟨rfl, _, lstAt et⟩, _, rfl, .inl ⟨rfl, _, lstAt el⟩, ?_⟩
      refine ⟨_, rfl, _, rfl, (show 4 ≤ sizeLine by decide), fun l1 n1 => ⟨_, rfl, _, _, _, _, rfl, rfl, lstAt upd_same, eu, (show 4 ≤ sizeLine by decide), fun l2 n2 => ⟨_, rfl, _, _, _, _, rfl, rfl, lstAt upd_same, ev, ?_⟩⟩⟩
      have t1 := same_upd (o := .lst [V.int 1, V.int 4, V.int 12, V.int 24]) n1
      have t2 := t1.trans (same_upd (o := .lst [V.int 4, V.int 3, V.int 2, V.int 1]) n2)
      have sm2 := sm.trans t2
      have el2 := t2 _ _ el
      have et2 := t2 _ _ et
      obtain ⟨H4, eH4⟩ : ∃ H4, H4 = upd (upd H2 l1 (.lst [V.int 1, V.int 4, V.int 12, V.int 24])) l2 (.lst [V.int 4, V.int 3, V.int 2, V.int 1]) := ⟨_, rfl⟩
      rw [← eH4] at t2 sm2 el2 et2 ⊢
      refine ⟨a, ns, s, u, v, rfl, sm2.seq hS, h0, h1, u0, u1, v0, ?_⟩
      refine ⟨_, rfl, _, _, rfl, .inl (lstAt el2), _, _, rfl, rfl, (by show ((rs.map emb).length : Int) ≠ 0; rw [List.length_map]; omega), ?_⟩
      have fm : (partOf ns s u v).fmod ((rs.map emb).length : Int) = (k : Int) := by rw [List.length_map, Int.fmod_eq_emod_of_nonneg _ (by omega), hk]
      refine ⟨lf, rs.map emb, (k : Int), k, emb rs[k], rfl, congrArg (fun z => [V.int z]) fm, el2, by omega, by omega, ?_, by rw [List.getElem?_map, ek]; rfl, ?_⟩
      · rw [List.length_map]
        have : seqIndex? ((k : Nat) : Int) rs.length = some k := by
          unfold seqIndex?
          simp
          omega
        exact this
      rw [erase_map]
      have et5 : (upd H4 lf (.lst ((rs.eraseIdx k).map emb))) tk = some (.lst (ts.map emb)) := by rw [upd_ne hne.symm]; exact et2
      refine ⟨_, _, _, rfl, rfl, et5, by rw [List.length_map]; exact small1000 (by omega), ?_⟩
      refine ⟨same_at (same_at sm2 nlf) ntk0, rs.eraseIdx k, ts ++ [rs[k]], _, rfl, by rw [upd_ne hne]; exact upd_same, by rw [upd_same, List.map_append]; rfl, by have := erase_len hkl; omega, by rw [List.length_append, lt]; rfl, ?_⟩
      refine List.Perm.trans ?_ pm
      rw [List.append_assoc]
      exact (erase_perm ek).append_left ts
    · rintro σ H2 ⟨sm, rs, ts, y, rfl, el, et, ll, lt, pm⟩
      rw [List.length_map, Int.toNat_natCast] at ll
      have : rs = [] := List.length_eq_zero_iff.mp (by omega)
      subst this
      rw [List.append_nil] at pm
      exact ⟨_, rfl, q tk ts H2 sm ntk0 et pm⟩
end
end TK

/-! the pages that the law draws -/
namespace TK
open PySem PySem.Spec PyProof.Rows L2
theorem canLay_strs : ∀ zs : List Nam, (∀ z ∈ zs, Nm z) → PyData.canLayAll0 ((zs.map sOf).map PyData.str) = true
  | [], _ => rfl
  | z :: r, h => by
    have h1 := canLay_strs r fun z m => h z (List.mem_cons_of_mem _ m)
    have h2 : PyData.strOk (sOf z) = true := nmH_ok (.inl (h z (List.mem_cons_self ..)))
    show PyData.canLayAll0 (PyData.str (sOf z) :: _) = true
    simp only [PyData.canLayAll0, PyData.canLay0, h2, Bool.true_and]
    exact h1
theorem depth_strs : ∀ ns : List Str, PyData.depthAll (ns.map PyData.str) = 0
  | [] => rfl
  | _ :: r => by simp [PyData.depthAll, PyData.depth, depth_strs r]
theorem shaped_strs {zs : List Nam} (h : ∀ z ∈ zs, Nm z) : SeqAt.shaped (.list ((zs.map sOf).map PyData.str)) = true := by
  simp only [SeqAt.shaped, PyData.canLay0, PyData.depth, canLay_strs zs h, depth_strs]; rfl
theorem dpAll_nms {K : PySem.W.Frag} {H : Hp} : ∀ (zs : List Nam), DpAll K H (zs.map vN) ((zs.map sOf).map PyData.str)
  | [] => .nil
  | z :: zs => .cons (.str _) (dpAll_nms zs)
theorem dp_nms {K : PySem.W.Frag} {H : Hp} {a : Addr} {zs : List Nam} (h : SqL K H a (zs.map vN)) : Dp K H (.ref a) (.list ((zs.map sOf).map PyData.str)) := .lst h (dpAll_nms zs)
theorem eqv_nil (zs : List Str) : PyData.eqv (.list (zs.map PyData.str)) (.list (([] : List Str).map PyData.str)) = decide (zs = []) := by
  cases zs with
  | nil => rfl
  | cons z zs => rfl
/-- a row of the law -/
def RwI (H0 : Hp) (D : Addr) : Hp → Addr → PgD → Prop := fun H p d => ∃ (b f : Addr) (es : List Addr), H p = some (.tup [vN d.nm, .ref b, .ref f]) ∧ H b = some (.lst (es.map V.ref)) ∧ BidsAt H es d.bids ∧ H f = some (.lst (d.fol.map vN)) ∧ b ≠ D ∧ f ≠ D ∧ H0 b = none ∧ H0 f = none
theorem RwI.go {H0 : Hp} {D : Addr} {H H' : Hp} {p : Addr} {d : PgD} (h : RwI H0 D H p d) (e : ∃ xs, H D = some (.lst xs)) (k : ∀ c o, H c = some o → c ≠ D → H' c = some o) : RwI H0 D H' p d := by
  obtain ⟨b, f, es, h1, h2, h3, h4, h5, h6, h7, h8⟩ := h
  obtain ⟨xs, e⟩ := e
  refine ⟨b, f, es, k _ _ h1 (ne_of h1 e nofun), k _ _ h2 h5, ⟨h3.1, fun i e' he => ?_⟩, k _ _ h4 h6, h5, h6, h7, h8⟩
  obtain ⟨d', a, b'⟩ := h3.2 i e' he
  exact ⟨d', a, k _ _ b' (ne_of b' e nofun)⟩
/-- right rows -/
structure RwOk (zs ts us : List Nam) (ds : List PgD) : Prop where
  nm : ds.map (·.nm) = us
  b : ∀ d ∈ ds, BOk zs d.bids
  bl : ∀ d ∈ ds, d.bids.length ≤ 4
  f : ∀ d ∈ ds, d.fol.Nodup
  fs : ∀ d ∈ ds, ∀ x ∈ d.fol, x ∈ ts
  fl : ∀ d ∈ ds, d.fol.length ≤ 4
theorem RwOk.nil {zs ts : List Nam} : RwOk zs ts [] [] := ⟨rfl, nofun, nofun, nofun, nofun, nofun⟩
theorem RwOk.app {zs ts us : List Nam} {ds : List PgD} {d : PgD} (h : RwOk zs ts us ds) (b : BOk zs d.bids) (bl : d.bids.length ≤ 4) (f : d.fol.Nodup) (fs : ∀ x ∈ d.fol, x ∈ ts) (fl : d.fol.length ≤ 4) : RwOk zs ts (us ++ [d.nm]) (ds ++ [d]) := by
  have one : ∀ {p : PgD → Prop}, (∀ x ∈ ds, p x) → p d → ∀ x ∈ ds ++ [d], p x := fun h k x m => (List.mem_append.mp m).elim (h x) fun m => by rw [List.mem_singleton.mp m]; exact k
  exact ⟨by rw [List.map_append, h.nm]; rfl, one h.b b, one h.bl bl, one h.f f, one h.fs fs, one h.fl fl⟩
theorem bids_rev {H : Hp} {es : List Addr} {ds : List BidD} (h : BidsAt H es ds) : BidsAt H es.reverse ds.reverse := by
  have l := h.1
  refine ⟨by rw [List.length_reverse, List.length_reverse, l], fun i e he => ?_⟩
  have hi : i < es.length := by have := (List.getElem?_eq_some_iff.mp he).1; rwa [List.length_reverse] at this
  rw [List.getElem?_reverse hi] at he
  obtain ⟨d, a, b⟩ := h.2 _ e he
  exact ⟨d, by rw [List.getElem?_reverse (by omega), ← l]; exact a, b⟩
theorem BOk.rev {zs : List Nam} {ds : List BidD} (h : BOk zs ds) : BOk zs ds.reverse := ⟨by rw [List.map_reverse]; exact (List.reverse_perm _).nodup_iff.mpr h.nd, fun x m => h.sub x (by rw [List.map_reverse] at m; exact List.mem_reverse.mp m), fun d m => h.h0 d (List.mem_reverse.mp m), fun d m => h.h9 d (List.mem_reverse.mp m)⟩
theorem sev {i : Int} (h0 : 0 ≤ i) (h1 : i < 4) : ∃ v : Int, atI [V.int 1, V.int 7, V.int 49, V.int 343] i = some (.int v) ∧ 0 < v ∧ v < 1000000 := by
  obtain rfl | rfl | rfl | rfl : i = 0 ∨ i = 1 ∨ i = 2 ∨ i = 3 := by omega
  · exact ⟨1, rfl, by decide, by decide⟩
  · exact ⟨7, rfl, by decide, by decide⟩
  · exact ⟨49, rfl, by decide, by decide⟩
  · exact ⟨343, rfl, by decide, by decide⟩
section
variable {P : Program} {w : World} {K : PySem.W.Frag} {mg : Str → Option Value} {base : Heap}
def spPagesL (K : PySem.W.Frag) : Sp := fun vs H Q _ => ∃ (a m t : Addr) (ns : List Int) (s : Int) (zs ts : List Nam), vs = [.ref a, .int s, .ref m, .ref t] ∧ SqL K H a (ns.map V.int) ∧ 0 ≤ s ∧ s + 12 ≤ ns.length ∧ SqL K H m (zs.map vN) ∧ SqL K H t (ts.map vN) ∧ zs.length ≤ 4 ∧ ts.length ≤ 4 ∧ zs.Nodup ∧ ts.Nodup ∧ (∀ z ∈ ts, Nm z) ∧
  ∀ (H' : Hp) (D : Addr) (ps : List Addr) (ds : List PgD), H D = none → Same H H' → H' D = some (.lst (ps.map V.ref)) → AllAt (RwI H D) H' ps ds → RwOk zs ts ts ds → Q (.ref D) H'
theorem ok_L_pages {f : Addr} {fd : FuncData} (F : Fun K "_law_pages" "_law_pages" s_L_pages f fd) (m_len : mg "len" = none) (m_range : mg "range" = none) (d_L_part : Def P w K mg base "_law_part" 1 ["_law_pool_here", "_law_spot", "_law_under", "_law_size"] (spPart K))
    (d_L_some : Def P w K mg base "_law_some" 2 ["_law_pool_here", "_law_spot", "_law_names_here"] (spSome K)) : FnOk P w K mg base CX0 3 f fd ["_law_pool_here", "_law_spot", "_law_members", "_law_names_here"] (spPagesL K) := by
  refine F.ok sc_L_pages (fun vs H Q E h => ?_) (fun cdv A outer s H vs Q E hr h => ?_)
  · obtain ⟨a, m, t, ns, s, zs, ts, rfl, _⟩ := h
    rfl
  · obtain ⟨a, m, t, ns, s, zs, ts, rfl, hA, s0, s12, hM, hT, z4, t4, nz, nt, tn, q⟩ := h
    refine ⟨_, (pss_cons (ps_set (i := 4) sc_L_pages.nd rfl (.inl rfl) (pe_lst pa_nil))
  (pss_cons (ps_for PassesOwn.never rfl (pi_range1 (by rfl) m_range (pa_cons (pe_callB call_len_seq (by rfl) m_len (by decide +kernel) (pa_cons (pv 3) pa_nil)) pa_nil)) (pg_name (i := 5) sc_L_pages.nd rfl (.inl rfl))
    (pss_cons (ps_set (i := 6) sc_L_pages.nd rfl (.inl rfl) (pv 2))
  (pss_cons (ps_cut (ps_if (pt_cmpR op_eq (pe_callD d_L_part (hr.mono (by decide)) (by rfl) (pa_cons (pv 0) (pa_cons (pe_op op_add (pv 1) (pe_op op_mul pe_int (pv 5))) (pa_cons pe_int (pa_cons pe_int pa_nil))))) pe_int (nomark _)) (pss_one (ps_set (i := 6) sc_L_pages.nd rfl (.inl rfl) (pe_callD d_L_some (hr.mono (by decide)) (by rfl) (pa_cons (pv 0) (pa_cons (pe_op op_add (pv 1) (pe_op op_mul pe_int (pv 5))) (pa_cons (pv 2) pa_nil)))))) pss_nil))
  (pss_cons (ps_set (i := 7) sc_L_pages.nd rfl (.inl rfl) (pe_lst pa_nil))
  (pss_cons (ps_for PassesOwn.never rfl (pi_range1 (by rfl) m_range (pa_cons (pe_callB call_len_seq (by rfl) m_len (by decide +kernel) (pa_cons (pv 2) pa_nil)) pa_nil)) (pg_name (i := 8) sc_L_pages.nd rfl (.inl rfl))
    (pss_one (ps_if (pt_cmpR op_in_seq (pe_ix ix_list (pv 2) (pv 8) (fun _ _ => rfl)) (pv 6) (by rfl)) (pss_one (ps_expr (pe_bm PySem.F.plainAttrs_list PySem.F.slot_list_append PySem.F.type_list_append mt_append (pv 7) (pa_cons (pe_tup (pa_cons (pe_ix ix_list (pv 2) (pv 8) (fun _ _ => rfl)) (pa_cons (pe_callD d_L_part (hr.mono (by decide)) (by rfl) (pa_cons (pv 0) (pa_cons (pe_op op_add (pe_op op_add (pv 1) (pe_op op_mul pe_int (pv 5))) pe_int) (pa_cons (pe_ix ix_list (pe_lst (pa_cons pe_int (pa_cons pe_int (pa_cons pe_int (pa_cons pe_int pa_nil))))) (pv 8) (fun _ _ => rfl)) (pa_cons pe_int pa_nil))))) pa_nil))) pa_nil)))) pss_nil)))
  (pss_cons (ps_cut (ps_if (pt_cmpR op_eq (pe_callD d_L_part (hr.mono (by decide)) (by rfl) (pa_cons (pv 0) (pa_cons (pe_op op_add (pv 1) (pe_op op_mul pe_int (pv 5))) (pa_cons pe_int (pa_cons pe_int pa_nil))))) pe_int (nomark _)) (pss_one (ps_set (i := 7) sc_L_pages.nd rfl (.inl rfl) (pe_revL (pv 7)))) pss_nil))
  (pss_cons (ps_set (i := 9) sc_L_pages.nd rfl (.inl rfl) (pe_callD d_L_some (hr.mono (by decide)) (by rfl) (pa_cons (pv 0) (pa_cons (pe_op op_add (pe_op op_add (pv 1) (pe_op op_mul pe_int (pv 5))) pe_int) (pa_cons (pv 3) pa_nil)))))
  (pss_cons (ps_cut (ps_if (PW.pt (pw_and (pt_cmpR (op_eqD hr.units) (pv 9) (pe_lst pa_nil) (nomark _)) (pw_and1 (pt_cmpR op_gt (pe_callD d_L_part (hr.mono (by decide)) (by rfl) (pa_cons (pv 0) (pa_cons (pe_op op_add (pe_op op_add (pv 1) (pe_op op_mul pe_int (pv 5))) pe_int) (pa_cons pe_int (pa_cons pe_int pa_nil))))) pe_int (nomark _))))) (pss_one (ps_set (i := 9) sc_L_pages.nd rfl (.inl rfl) (pe_lst (pa_cons (pe_ix ix_list (pv 3) (pv 5) (fun _ _ => rfl)) pa_nil)))) pss_nil))
  (pss_cons (ps_cut (ps_if (pt_cmpR op_eq (pe_callD d_L_part (hr.mono (by decide)) (by rfl) (pa_cons (pv 0) (pa_cons (pe_op op_add (pe_op op_add (pv 1) (pe_op op_mul pe_int (pv 5))) pe_int) (pa_cons pe_int (pa_cons pe_int pa_nil))))) pe_int (nomark _)) (pss_one (ps_set (i := 9) sc_L_pages.nd rfl (.inl rfl) (pe_revL (pv 9)))) pss_nil))
  (pss_one (ps_expr (pe_bm PySem.F.plainAttrs_list PySem.F.slot_list_append PySem.F.type_list_append mt_append (pv 4) (pa_cons (pe_tup (pa_cons (pe_ix ix_list (pv 3) (pv 5) (fun _ _ => rfl)) (pa_cons (pv 7) (pa_cons (pv 9) pa_nil)))) pa_nil)))))))))))))
  (pss_one (ps_ret (pv 4))))), ?_⟩
    refine ⟨Nat.zero_le _, fun D nD => ?_⟩
    have w0 := same_upd (o := .lst []) nD
    refine ⟨_, rfl, _, _, rfl, .inl (w0.seq hT), _, rfl, by rw [List.length_map]; omega, by rw [List.length_map]; omega, for_range (fun j σ H' => ∃ (ps : List Addr) (ds : List PgD) (y5 y6 y7 y8 y9 : Option V), σ = [some (.ref a), some (.int s), some (.ref m), some (.ref t), some (.ref D), y5, y6, y7, y8, y9] ∧ Same H H' ∧ H' D = some (.lst (ps.map V.ref)) ∧ AllAt (RwI H D) H' ps ds ∧ RwOk zs ts (ts.take j) ds) ⟨[], [], _, _, _, _, _, rfl, w0, upd_same, .nil, .nil⟩ ?_ ?_⟩
    · rintro j σ H1 hj ⟨ps, ds, y5, y6, y7, y8, y9, rfl, s1, eD, hR, ok⟩
      rw [List.length_map] at hj
      obtain ⟨z, ez, az⟩ := nm_at (zs := ts) (i := 0 + (j : Int)) (by omega) (by omega)
      rw [show (0 + (j : Int)).toNat = j by omega] at ez
      have hA1 := s1.seq hA
      have hM1 := s1.seq hM
      have hT1 := s1.seq hT
      have j3 : CMul 3 (0 + (j : Int)) := .inl ⟨by decide, by decide⟩
      refine ⟨_, rfl, (fun σ' H' => ∃ (wv : Addr) (ws : List Nam), σ' = [some (.ref a), some (.int s), some (.ref m), some (.ref t), some (.ref D), some (.int (0 + (j : Int))), some (.ref wv), y7, y8, y9] ∧ Same H1 H' ∧ SqL K H' wv (ws.map vN)), ?_, ?_⟩
      · refine ⟨_, rfl, _, rfl, _, rfl, _, _, rfl, rfl, j3, _, _, rfl, rfl, _, _, _, _, _, rfl, hA1, by omega, by omega, by decide, by decide, by decide, rfl, _, rfl, ite2 (fun e => ?_) (fun e => ?_)⟩
        · refine ⟨_, rfl, _, rfl, _, rfl, _, _, rfl, rfl, j3, _, _, rfl, rfl, _, rfl, _, _, _, _, _, rfl, hA1, by omega, by omega, hM1, z4, fun d ws H2 s2 nd ed _ => ?_⟩
          exact ⟨d, ws, rfl, s2, lstAt ed⟩
        · exact ⟨m, zs, rfl, Same.refl _, hM1⟩
      rintro σ' H2 ⟨wv, ws, rfl, s2, hW⟩
      have hA2 := s2.seq hA1
      have hM2 := s2.seq hM1
      -- the bids
      refine ⟨Nat.zero_le _, fun B nB => ?_⟩
      have sB := same_upd (o := .lst []) nB
      have b1 := upd_same (H := H2) (a := B) (o := .lst [])
      have hA3 := sB.seq hA2
      have hM3 := sB.seq hM2
      have hW3 := sB.seq hW
      have s3 := s2.trans sB
      have fB : ∀ {H' : Hp}, Same H2 H' → ∀ c o, H1 c = some o → c ≠ B := fun _ c o e => ne_of_none (s2 _ _ e) nB
      refine ⟨_, rfl, _, _, rfl, .inl hM3, _, rfl, by rw [List.length_map]; omega, by rw [List.length_map]; omega, for_range (fun k σ H' => ∃ (es : List Addr) (us : List BidD) (y8 : Option V), σ = [some (.ref a), some (.int s), some (.ref m), some (.ref t), some (.ref D), some (.int (0 + (j : Int))), some (.ref wv), some (.ref B), y8, y9] ∧ Same H2 H' ∧ H' B = some (.lst (es.map V.ref)) ∧ BidsAt H' es us ∧ (us.map (·.1)).Sublist (zs.take k) ∧ ∀ d ∈ us, 0 ≤ d.2 ∧ d.2 ≤ 6) ⟨[], [], _, rfl, sB, b1, ⟨rfl, nofun⟩, List.Sublist.refl _, nofun⟩ ?_ ?_⟩
      · rintro k σ H4 hk ⟨es, us, y8, rfl, s4, eB, hE, sub, bd⟩
        rw [List.length_map] at hk
        obtain ⟨x, ex, ax⟩ := nm_at (zs := zs) (i := 0 + (k : Int)) (by omega) (by omega)
        rw [show (0 + (k : Int)).toNat = k by omega] at ex
        have hl : us.length ≤ k := by have := sub.length_le; rw [List.length_map, List.length_take] at this; omega
        refine ⟨_, rfl, _, rfl, _, _, _, _, rfl, rfl, s4.seq hM2, ax, _, rfl, wv, _, rfl, .inl (s4.seq hW), rfl, nms_flat _, _, rfl, ?_⟩
        rw [in_nm]
        by_cases mx : x ∈ ws
        · rw [decide_eq_true mx]
          obtain ⟨u, eu, u0, u1⟩ := sev (i := 0 + (k : Int)) (by omega) (by omega)
          refine iteT ⟨_, rfl, .inl ⟨rfl, _, lstAt eB⟩, _, rfl, _, rfl, _, _, _, _, rfl, rfl, s4.seq hM2, ax, ?_⟩
          refine ⟨_, rfl, _, rfl, _, rfl, _, _, rfl, rfl, j3, _, _, rfl, rfl, _, _, rfl, rfl, (show 4 ≤ sizeLine by decide), fun l nl => ⟨_, rfl, _, _, _, _, rfl, rfl, lstAt upd_same, eu, ?_⟩⟩
          have sl := same_upd (o := .lst [V.int 1, V.int 7, V.int 49, V.int 343]) nl
          generalize upd H4 l (.lst [V.int 1, V.int 7, V.int 49, V.int 343]) = H5 at sl ⊢
          have p0 := part_lo (ns := ns) (s := s + 3 * (0 + (j : Int)) + 1) (u := u) (z := 7) (by decide)
          have p1 := part_hi (ns := ns) (s := s + 3 * (0 + (j : Int)) + 1) (u := u) (z := 7) (by decide)
          refine ⟨_, _, _, _, _, rfl, sl.seq (s4.seq hA2), by omega, by omega, u0, u1, by decide, (show (2 : Nat) ≤ sizeLine by decide), fun g ng => ?_⟩
          have sg := same_upd (o := .tup [vN x, V.int (partOf ns (s + 3 * (0 + (j : Int)) + 1) u 7)]) ng
          have g6 := upd_same (H := H5) (a := g) (o := .tup [vN x, V.int (partOf ns (s + 3 * (0 + (j : Int)) + 1) u 7)])
          generalize upd H5 g (.tup [vN x, V.int (partOf ns (s + 3 * (0 + (j : Int)) + 1) u 7)]) = H6 at sg g6 ⊢
          have s46 := sl.trans sg
          refine ⟨_, _, _, rfl, rfl, s46 _ _ eB, by rw [List.length_map, hE.1]; exact small1000 (by omega), es ++ [g], us ++ [(x, partOf ns (s + 3 * (0 + (j : Int)) + 1) u 7)], _, rfl, same_at (s4.trans s46) nB, by rw [upd_same, List.map_append]; rfl, ?_, ?_, ?_⟩
          · exact ((hE.same s46).app (.one g6)).wrote (s46 _ _ eB)
          · rw [List.map_append]; exact sub_snoc sub ex
          · exact fun d md => (List.mem_append.mp md).elim (bd d) fun md => by rw [List.mem_singleton.mp md]; exact ⟨p0, by show partOf ns (s + 3 * (0 + (j : Int)) + 1) u 7 ≤ 6; omega⟩
        · rw [decide_eq_false mx]
          exact iteF ⟨es, us, _, rfl, s4, eB, hE, sub_keep sub, bd⟩
      rintro σ H4 ⟨es, us, y8', rfl, s4, eB, hE, sub, bd⟩
      rw [List.length_map, Int.toNat_natCast, List.take_length] at sub
      have bok : BOk zs us := ⟨sub.nodup nz, fun x mx => sub.subset mx, fun d md => (bd d md).1, fun d md => by have := (bd d md).2; omega⟩
      have ul : us.length ≤ 4 := by have := sub.length_le; rw [List.length_map] at this; omega
      clear bd sub fB
      have BD : B ≠ D := (ne_of_none (s2 _ _ eD) nB).symm
      have hB0 : H B = none := none_of (s1.trans s2) nB
      have s24 := s2.trans s4
      refine ⟨(fun σ' H' => ∃ (bv : Addr) (es : List Addr) (us : List BidD), σ' = [some (.ref a), some (.int s), some (.ref m), some (.ref t), some (.ref D), some (.int (0 + (j : Int))), some (.ref wv), some (.ref bv), y8', y9] ∧ Same H1 H' ∧ H' bv = some (.lst (es.map V.ref)) ∧ BidsAt H' es us ∧ BOk zs us ∧ us.length ≤ 4 ∧ bv ≠ D ∧ H bv = none), ?_, ?_⟩
      · refine ⟨_, rfl, _, rfl, _, rfl, _, _, rfl, rfl, j3, _, _, rfl, rfl, _, _, _, _, _, rfl, s24.seq hA1, by omega, by omega, by decide, by decide, by decide, rfl, _, rfl, ite2 (fun e => ?_) (fun e => ?_)⟩
        · refine ⟨_, rfl, B, _, rfl, lstAt eB, fun r nr => ?_⟩
          rw [← List.map_reverse]
          have sr := same_upd (o := .lst (es.reverse.map V.ref)) nr
          exact ⟨r, es.reverse, us.reverse, rfl, s24.trans sr, upd_same, bids_rev (hE.same sr), bok.rev, by rw [List.length_reverse]; exact ul, (ne_of_none (s24 _ _ eD) nr).symm, none_of (s1.trans s24) nr⟩
        · exact ⟨B, es, us, rfl, s24, eB, hE, bok, ul, BD, hB0⟩
      clear eB hE bok ul BD hB0
      rintro σ' H5 ⟨bv, es, us, rfl, s5, eB, hE, bok, ul, BD, hB0⟩
      clear s24 s4 s3 sB b1 hA3 hM3 hW3 nB hA2 hM2 hW s2
      -- the followers
      refine ⟨_, rfl, _, rfl, _, rfl, _, _, rfl, rfl, j3, _, _, rfl, rfl, _, _, rfl, rfl, _, rfl, _, _, _, _, _, rfl, s5.seq hA1, by omega, by omega, s5.seq hT1, t4, fun d fs H6 s6 nd ed sub => ?_⟩
      have s56 := s5.trans s6
      have fsub := sub.subset
      have fnd := sub.nodup nt
      have fl4 : fs.length ≤ 4 := Nat.le_trans sub.length_le t4
      have fnm : ∀ z ∈ fs, Nm z := fun z mz => tn z (fsub mz)
      refine ⟨(fun σ' H' => ∃ (fv : Addr) (fs : List Nam), σ' = [some (.ref a), some (.int s), some (.ref m), some (.ref t), some (.ref D), some (.int (0 + (j : Int))), some (.ref wv), some (.ref bv), y8', some (.ref fv)] ∧ Same H5 H' ∧ H' fv = some (.lst (fs.map vN)) ∧ fs.Nodup ∧ (∀ x ∈ fs, x ∈ ts) ∧ fs.length ≤ 4 ∧ fv ≠ D ∧ H fv = none), ?_, ?_⟩
      · refine ⟨_, rfl, Nat.zero_le _, fun n0 nn0 => ?_⟩
        have s7 := same_upd (o := .lst []) nn0
        have h0 := upd_same (H := H6) (a := n0) (o := .lst [])
        generalize upd H6 n0 (.lst []) = H7 at s7 h0 ⊢
        have s67 := s6.trans s7
        have s17 := s5.trans s67
        have keep : ∀ {σ : L2.St}, σ = [some (.ref a), some (.int s), some (.ref m), some (.ref t), some (.ref D), some (.int (0 + (j : Int))), some (.ref wv), some (.ref bv), y8', some (.ref d)] → ∃ (fv : Addr) (fs : List Nam), σ = [some (.ref a), some (.int s), some (.ref m), some (.ref t), some (.ref D), some (.int (0 + (j : Int))), some (.ref wv), some (.ref bv), y8', some (.ref fv)] ∧ Same H5 H7 ∧ H7 fv = some (.lst (fs.map vN)) ∧ fs.Nodup ∧ (∀ x ∈ fs, x ∈ ts) ∧ fs.length ≤ 4 ∧ fv ≠ D ∧ H fv = none :=
          fun e => ⟨d, fs, e, s67, s7 _ _ ed, fnd, fun x m => fsub m, fl4, (ne_of_none (s5 _ _ eD) nd).symm, none_of (s1.trans s5) nd⟩
        refine ⟨_, _, dp_nms (lstAt (s7 _ _ ed)), dp_nms (zs := []) (lstAt h0), shaped_strs fnm, shaped_strs nofun, _, rfl, ite2 (fun e => ?_) (fun e => ?_)⟩
        · refine ⟨_, rfl, _, rfl, _, rfl, _, _, rfl, rfl, j3, _, _, rfl, rfl, _, _, rfl, rfl, _, _, _, _, _, rfl, s17.seq hA1, by omega, by omega, by decide, by decide, by decide, _, _, rfl, rfl, _, rfl, ite2 (fun e => ?_) (fun e => ?_)⟩
          · refine ⟨_, rfl, _, rfl, _, _, _, _, rfl, rfl, s17.seq hT1, az, (show (1 : Nat) ≤ sizeLine by decide), fun r nr => ?_⟩
            have sr := same_upd (o := .lst [vN z]) nr
            exact ⟨r, [z], rfl, s67.trans sr, upd_same, List.nodup_cons.mpr ⟨nofun, List.nodup_nil⟩, fun x mx => by rw [List.mem_singleton.mp mx]; exact List.mem_of_getElem? ez, by show 1 ≤ 4; decide, (ne_of_none (s17 _ _ eD) nr).symm, none_of (s1.trans s17) nr⟩
          · exact keep rfl
        · exact keep rfl
      clear ed sub fsub fnd fl4 fnm
      rintro σ' H7 ⟨fv, fs, rfl, s7, eF, fnd, fsub, fl4, FD, hF0⟩
      have s17 := s5.trans s7
      refine ⟨(fun σ' H' => ∃ (fv : Addr) (fs : List Nam), σ' = [some (.ref a), some (.int s), some (.ref m), some (.ref t), some (.ref D), some (.int (0 + (j : Int))), some (.ref wv), some (.ref bv), y8', some (.ref fv)] ∧ Same H5 H' ∧ H' fv = some (.lst (fs.map vN)) ∧ fs.Nodup ∧ (∀ x ∈ fs, x ∈ ts) ∧ fs.length ≤ 4 ∧ fv ≠ D ∧ H fv = none), ?_, ?_⟩
      · refine ⟨_, rfl, _, rfl, _, rfl, _, _, rfl, rfl, j3, _, _, rfl, rfl, _, _, rfl, rfl, _, _, _, _, _, rfl, s17.seq hA1, by omega, by omega, by decide, by decide, by decide, rfl, _, rfl, ite2 (fun e => ?_) (fun e => ?_)⟩
        · refine ⟨_, rfl, fv, _, rfl, lstAt eF, fun r nr => ?_⟩
          rw [← List.map_reverse]
          have sr := same_upd (o := .lst (fs.reverse.map vN)) nr
          exact ⟨r, fs.reverse, rfl, s7.trans sr, upd_same, (List.reverse_perm _).nodup_iff.mpr fnd, fun x mx => fsub x (List.mem_reverse.mp mx), by rw [List.length_reverse]; exact fl4, (ne_of_none (s17 _ _ eD) nr).symm, none_of (s1.trans s17) nr⟩
        · exact ⟨fv, fs, rfl, s7, eF, fnd, fsub, fl4, FD, hF0⟩
      clear eF fnd fsub fl4 FD hF0 s7 s17
      rintro σ' H8 ⟨fv, fs, rfl, s8, eF, fnd, fsub, fl4, FD, hF0⟩
      have s18 := s5.trans s8
      refine ⟨_, rfl, .inl ⟨rfl, _, lstAt (s18 _ _ eD)⟩, _, rfl, _, rfl, _, _, _, _, rfl, rfl, s18.seq hT1, az, _, rfl, _, rfl, (show (3 : Nat) ≤ sizeLine by decide), fun g ng => ?_⟩
      have sg := same_upd (o := .tup [vN z, .ref bv, .ref fv]) ng
      have g9 := upd_same (H := H8) (a := g) (o := .tup [vN z, .ref bv, .ref fv])
      generalize upd H8 g (.tup [vN z, .ref bv, .ref fv]) = H9 at sg g9 ⊢
      have s59 := s8.trans sg
      have s19 := s5.trans s59
      have pl : ds.length ≤ j := by have := congrArg List.length ok.nm; rw [List.length_map, List.length_take] at this; omega
      have eD9 := s19 _ _ eD
      have gd : RwI H D H9 g ⟨z, us, fs⟩ := ⟨bv, fv, es, g9, s59 _ _ eB, hE.same s59, sg _ _ eF, BD, FD, hB0, hF0⟩
      have kD : ∀ c o, H9 c = some o → c ≠ D → (upd H9 D (.lst (ps.map V.ref ++ [.ref g]))) c = some o := fun c o e n => by rw [upd_ne n]; exact e
      refine ⟨_, _, _, rfl, rfl, eD9, by rw [List.length_map, hR.1]; exact small1000 (by omega), ps ++ [g], ds ++ [⟨z, us, fs⟩], _, _, _, _, _, rfl, same_at (s1.trans s19) nD, by rw [upd_same, List.map_append]; rfl, ?_, ?_⟩
      · exact ((hR.mono fun _ _ k => k.go ⟨_, eD⟩ fun c o e n => s19 _ _ e).app (.one gd)).mono fun _ _ k => k.go ⟨_, eD9⟩ kD
      · rw [List.take_add_one, ez]
        exact ok.app (d := ⟨z, us, fs⟩) bok ul fnd fsub fl4
    · rintro σ H2 ⟨ps, ds, y5, y6, y7, y8, y9, rfl, s1, eD, hR, ok⟩
      rw [List.length_map, Int.toNat_natCast, List.take_length] at ok
      exact ⟨_, rfl, q _ D ps ds nD s1 eD hR ok⟩
end
end TK

/-! the rows of the law; a rule of turns -/
namespace TK
open PySem PySem.Spec PyProof.Rows L2
theorem bids_un {H : Hp} {x : Addr} {l : List Addr} {ds : List BidD} (h : BidsAt H (x :: l) ds) : ∃ d us, ds = d :: us ∧ H x = some (.tup [vN d.1, .int d.2]) ∧ BidsAt H l us := by
  cases ds with
  | nil => exact nomatch h.1
  | cons d us =>
    refine ⟨d, us, rfl, ?_, by have := h.1; simpa using this, fun i e he => h.2 (i + 1) e he⟩
    obtain ⟨d', a, b⟩ := h.2 0 x rfl
    cases Option.some.inj a
    exact b
theorem bids_co {H : Hp} {x : Addr} {l : List Addr} {d : BidD} {us : List BidD} (h : H x = some (.tup [vN d.1, .int d.2])) (k : BidsAt H l us) : BidsAt H (x :: l) (d :: us) := (BidsAt.one h).app k
theorem bids_perm {H : Hp} {es fs : List Addr} {ds : List BidD} (h : BidsAt H es ds) (p : fs.Perm es) : ∃ us, us.Perm ds ∧ BidsAt H fs us := by
  induction p generalizing ds with
  | nil => exact ⟨ds, List.Perm.refl _, h⟩
  | cons x p ih =>
    obtain ⟨d, us, rfl, hx, hl⟩ := bids_un h
    obtain ⟨vs, p1, b1⟩ := ih hl
    exact ⟨d :: vs, p1.cons d, bids_co hx b1⟩
  | swap x y l =>
    obtain ⟨d, us, rfl, hx, hl⟩ := bids_un h
    obtain ⟨e, vs, rfl, hy, hl⟩ := bids_un hl
    exact ⟨e :: d :: vs, List.Perm.swap d e vs, bids_co hy (bids_co hx hl)⟩
  | trans p q ih1 ih2 =>
    obtain ⟨us, p1, b1⟩ := ih2 h
    obtain ⟨vs, p2, b2⟩ := ih1 b1
    exact ⟨vs, p2.trans p1, b2⟩
theorem BOk.perm {zs : List Nam} {us ds : List BidD} (h : BOk zs ds) (p : us.Perm ds) : BOk zs us := ⟨(p.map _).nodup_iff.mpr h.nd, fun x m => h.sub x ((p.map _).mem_iff.mp m), fun d m => h.h0 d (p.mem_iff.mp m), fun d m => h.h9 d (p.mem_iff.mp m)⟩
def mirB (ds : List BidD) : List BidD := ds.map fun d => (d.1, 1000000000 - d.2)
theorem mir_fst (ds : List BidD) : (mirB ds).map (·.1) = ds.map (·.1) := by
  unfold mirB; rw [List.map_map]; rfl
theorem BOk.mir {zs : List Nam} {ds : List BidD} (h : BOk zs ds) : BOk zs (mirB ds) := by
  refine ⟨by rw [mir_fst]; exact h.nd, by rw [mir_fst]; exact h.sub, fun d m => ?_, fun d m => ?_⟩
  · obtain ⟨e, me, rfl⟩ := List.mem_map.mp m
    have := h.h9 e me
    show 0 ≤ 1000000000 - e.2
    omega
  · obtain ⟨e, me, rfl⟩ := List.mem_map.mp m
    have := h.h0 e me
    show 1000000000 - e.2 ≤ 1000000000
    omega
section
variable {P : Program} {w : World} {K : PySem.W.Frag} {mg : Str → Option Value} {base : Heap}
def spRowsL (K : PySem.W.Frag) : Sp := fun vs H Q _ => ∃ (a m t : Addr) (ns : List Int) (zs ts : List Nam), vs = [.ref a, .ref m, .ref t] ∧ SqL K H a (ns.map V.int) ∧ ns.length = 30 ∧ SqL K H m (zs.map vN) ∧ SqL K H t (ts.map vN) ∧ zs.length ≤ 4 ∧ ts.length ≤ 4 ∧ zs.Nodup ∧ ts.Nodup ∧ (∀ z ∈ ts, Nm z) ∧
  ∀ (H' : Hp) (D : Addr) (ps : List Addr) (ds : List PgD), H D = none → Same H H' → H' D = some (.lst (ps.map V.ref)) → AllAt (RwI H D) H' ps ds → RwOk zs ts ts ds → Q (.ref D) H'
theorem ok_L_rows {f : Addr} {fd : FuncData} (F : Fun K "_law_rows" "_law_rows" s_L_rows f fd) (m_len : mg "len" = none) (d_L_part : Def P w K mg base "_law_part" 1 ["_law_pool_here", "_law_spot", "_law_under", "_law_size"] (spPart K))
    (d_L_pages : Def P w K mg base "_law_pages" 3 ["_law_pool_here", "_law_spot", "_law_members", "_law_names_here"] (spPagesL K)) (d_L_shuffled : Def P w K mg base "_law_shuffled" 2 ["_law_pool_here", "_law_spot", "_law_row"] (spShufG V.ref K)) : FnOk P w K mg base CX0 4 f fd ["_law_head", "_law_members", "_law_titles"] (spRowsL K) := by
  refine F.ok sc_L_rows (fun vs H Q E h => ?_) (fun cdv A outer s H vs Q E hr h => ?_)
  · obtain ⟨a, m, t, ns, zs, ts, rfl, _⟩ := h
    rfl
  · obtain ⟨a, m, t, ns, zs, ts, rfl, hA, nl, hM, hT, z4, t4, nz, nt, tn, q⟩ := h
    refine ⟨_, (pss_cons (ps_set (i := 3) sc_L_rows.nd rfl (.inl rfl) (pe_lst pa_nil))
  (pss_cons (ps_for PassesOwn.never rfl (pi_list (pe_callD d_L_pages (hr.mono (by decide)) (by rfl) (pa_cons (pv 0) (pa_cons pe_int (pa_cons (pv 1) (pa_cons (pv 2) pa_nil)))))) (pg_tup (by rfl) (pgs_cons (pg_name (i := 4) sc_L_rows.nd rfl (.inl rfl)) (pgs_cons (pg_name (i := 5) sc_L_rows.nd rfl (.inl rfl)) (pgs_cons (pg_name (i := 6) sc_L_rows.nd rfl (.inl rfl)) pgs_nil))))
    (pss_cons (ps_set (i := 7) sc_L_rows.nd rfl (.inl rfl) (pe_callD d_L_shuffled (hr.mono (by decide)) (by rfl) (pa_cons (pv 0) (pa_cons (pe_op op_add pe_int (pe_callB call_len_seq (by rfl) m_len (by decide +kernel) (pa_cons (pv 3) pa_nil))) (pa_cons (pv 5) pa_nil)))))
  (pss_cons (ps_cut (ps_if (pt_cmpR op_eq (pe_callD d_L_part (hr.mono (by decide)) (by rfl) (pa_cons (pv 0) (pa_cons pe_int (pa_cons pe_int (pa_cons pe_int pa_nil))))) pe_int (nomark _)) (pss_one (ps_setLc (i := 7) (own := [("_law_member", 8), ("_law_bid", 9)]) (by rfl) sc_L_rows.nd rfl rfl (sw_true rfl rfl rfl (by decide +kernel)) (pi_list (pv 7)) (blkOk_by (N := ["_law_head", "_law_members", "_law_titles", "_law_rows_here", "_law_title", "_law_bids", "_law_followers", "_law_offered", "_law_member", "_law_bid"]) (sc := defScope s_L_rows) (by decide +kernel)) (fun _ _ _ _ _ => (pg_tupK (K := K) (n := 2) rfl (by rfl) (pgs_cons (pg_name (i := 8) sc_L_rows.nd rfl (.inl rfl)) (pgs_cons (pg_name (i := 9) sc_L_rows.nd rfl (.inl rfl)) pgs_nil)))) (fun _ _ _ _ _ => pts_nil) (fun _ _ _ _ _ => (pe_tup (pa_cons (pv 8) (pa_cons (pe_op op_sub (pe_op op_pow pe_int pe_int) (pv 9)) pa_nil)))))) pss_nil))
  (pss_one (ps_expr (pe_bm PySem.F.plainAttrs_list PySem.F.slot_list_append PySem.F.type_list_append mt_append (pv 3) (pa_cons (pe_tup (pa_cons (pv 4) (pa_cons (pv 7) (pa_cons (pv 6) pa_nil)))) pa_nil)))))))
  (pss_one (ps_ret (pv 3))))), ?_⟩
    refine ⟨Nat.zero_le _, fun D nD => ?_⟩
    have w0 := same_upd (o := .lst []) nD
    have e0 := upd_same (H := H) (a := D) (o := .lst [])
    generalize upd H D (.lst []) = H1 at w0 e0 ⊢
    refine ⟨_, rfl, _, rfl, _, rfl, a, m, t, ns, 12, zs, ts, rfl, w0.seq hA, by decide, by omega, w0.seq hM, w0.seq hT, z4, t4, nz, nt, tn, fun H2 D2 ps ds nD2 s2 eD2 hR ok => ?_⟩
    have D2D : D2 ≠ D := (ne_of_none e0 nD2).symm
    have eD := s2 _ _ e0
    have pl : (ps.map V.ref).length = ds.length := by rw [List.length_map, hR.1]
    have dl : ds.length ≤ 4 := by have := congrArg List.length ok.nm; rw [List.length_map] at this; omega
    refine ⟨D2, rfl, ⟨_, lstAt eD2⟩, for_list (K := K) (a := D2) (xs := ps.map V.ref) (fun i σ H' => ∃ (qs : List Addr) (us : List PgD) (y4 y5 y6 y7 : Option V), σ = [some (.ref a), some (.ref m), some (.ref t), some (.ref D), y4, y5, y6, y7, none, none] ∧ (∀ c o, H2 c = some o → c ≠ D → H' c = some o) ∧ H' D = some (.lst (qs.map V.ref)) ∧ AllAt (RwI H D) H' qs us ∧ RwOk zs ts (ts.take i) us) ⟨[], [], _, _, _, _, rfl, fun _ _ e _ => e, eD, .nil, .nil⟩ (fun i σ H' _ hq => by obtain ⟨_, _, _, _, _, _, rfl, k, _⟩ := hq; exact lstAt (k _ _ eD2 D2D)) ?_ ?_⟩
    · rintro i v σ H3 hv ⟨qs, us, y4, y5, y6, y7, rfl, k3, e3, hQ, uk⟩
      obtain ⟨p, d, rfl, ed, b, f, es, h1, h2, h3, h4, h5, h6, h7, h8⟩ := all_at hR hv
      have hi := (List.getElem?_eq_some_iff.mp ed).1
      have md := List.mem_of_getElem? ed
      have et : ts[i]? = some d.nm := by rw [← ok.nm, List.getElem?_map, ed]; rfl
      have bD : b ≠ D := (ne_of_none e0 h7).symm
      have fD : f ≠ D := (ne_of_none e0 h8).symm
      have sH3 : Same H H3 := fun c o e => k3 _ _ (s2 _ _ (w0 _ _ e)) (ne_of_none e nD)
      have b3 := k3 _ _ h2 bD
      have B3 : BidsAt H3 es d.bids := ⟨h3.1, fun j e he => by
        obtain ⟨x, a1, a2⟩ := h3.2 j e he
        exact ⟨x, a1, k3 _ _ a2 (ne_of a2 eD nofun)⟩⟩
      have f3 := k3 _ _ h4 fD
      have ul : us.length = i := by have := congrArg List.length uk.nm; rw [List.length_map, List.length_take] at this; have := congrArg List.length ok.nm; rw [List.length_map] at this; omega
      have ql : (qs.map V.ref).length = i := by rw [List.length_map, hQ.1, ul]
      refine ⟨_, _, rfl, tupAt (k3 _ _ h1 (ne_of h1 eD nofun)), rfl, _, _, rfl, _, _, rfl, _, _, rfl, rfl, ?_⟩
      refine ⟨_, rfl, _, rfl, _, _, rfl, .inl (lstAt e3), _, _, rfl, rfl, _, rfl, _, _, _, _, es, rfl, sH3.seq hA, by omega, by rw [ql]; omega, lstAt b3, by rw [h3.1]; exact ok.bl _ md, fun ov os H4 s4 nv ev pm => ?_⟩
      obtain ⟨vs, pv, hV⟩ := bids_perm (B3.same s4) pm
      have vok := (ok.b _ md).perm pv
      have vl : vs.length ≤ 4 := by rw [pv.length_eq]; exact ok.bl _ md
      have vD : ov ≠ D := (ne_of_none e3 nv).symm
      have v0 : H ov = none := none_of sH3 nv
      refine ⟨(fun σ' H' => ∃ (ov : Addr) (os : List Addr) (vs : List BidD), σ' = [some (.ref a), some (.ref m), some (.ref t), some (.ref D), some (vN d.nm), some (.ref b), some (.ref f), some (.ref ov), none, none] ∧ Same H3 H' ∧ H' ov = some (.lst (os.map V.ref)) ∧ BidsAt H' os vs ∧ BOk zs vs ∧ vs.length ≤ 4 ∧ ov ≠ D ∧ H ov = none), ?_, ?_⟩
      · refine ⟨_, rfl, _, _, _, _, _, rfl, s4.seq (sH3.seq hA), by decide, by omega, by decide, by decide, by decide, rfl, _, rfl, ite2 (fun e => ?_) (fun e => ?_)⟩
        · refine ⟨_, rfl, ov, rfl, ⟨_, lstAt ev⟩, fun G nG => ?_⟩
          refine lc_list (K := K) (a := ov) (xs := os.map V.ref) (fun i H' => ∃ gs : List Addr, Same H4 H' ∧ H' G = some (.lst (gs.map V.ref)) ∧ BidsAt H' gs (mirB (vs.take i))) ⟨[], same_upd nG, upd_same, ⟨rfl, nofun⟩⟩ (fun i H' _ hq => by obtain ⟨_, s, _⟩ := hq; exact s.seq (lstAt ev)) (fun i v H' hv hq => ?_) (fun H5 hq => ?_)
          · obtain ⟨gs, s5, eG, hG⟩ := hq
            obtain ⟨e1, x, rfl, ex, he⟩ := bids_at (hV.same s5) hv
            have hi := (List.getElem?_eq_some_iff.mp ex).1
            refine gTup2w he [some (.ref a), some (.ref m), some (.ref t), some (.ref D), some (vN d.nm), some (.ref b), some (.ref f), some (.ref ov), some (vN x.1), some (.int x.2)] (by simp [wipe, L2.start]) ?_
            have gl : gs.length = i := by rw [hG.1]; unfold mirB; rw [List.length_map, List.length_take]; omega
            refine ⟨rfl, yesT ⟨_, rfl, _, _, rfl, rfl, ⟨by decide, by decide, by decide⟩, _, rfl, _, _, rfl, rfl, (show (2 : Nat) ≤ sizeLine by decide), fun g ng => ?_⟩⟩
            have sg := same_upd (o := .tup [vN x.1, .int (10 ^ (9 : Int).toNat - x.2)]) ng
            have g1 := upd_same (H := H') (a := g) (o := .tup [vN x.1, .int (10 ^ (9 : Int).toNat - x.2)])
            generalize upd H' g (.tup [vN x.1, .int (10 ^ (9 : Int).toNat - x.2)]) = H6 at sg g1 ⊢
            have eG6 := sg _ _ eG
            refine ⟨_, eG6, by rw [List.length_map, gl]; exact small1000 (by omega), gs ++ [g], same_at (s5.trans sg) nG, by rw [upd_same, List.map_append]; rfl, ?_⟩
            have e2 : mirB (vs.take (i + 1)) = mirB (vs.take i) ++ [(x.1, 1000000000 - x.2)] := by
              unfold mirB
              rw [List.take_add_one, ex, List.map_append]; rfl
            rw [e2]
            exact ((hG.same sg).app (.one (d := (x.1, 1000000000 - x.2)) g1)).wrote eG6
          · obtain ⟨gs, s5, eG, hG⟩ := hq
            rw [List.length_map, hV.1, List.take_length] at hG
            exact ⟨G, gs, mirB vs, rfl, s4.trans s5, eG, hG, vok.mir, by unfold mirB; rw [List.length_map]; exact vl, (ne_of_none (s4 _ _ e3) nG).symm, none_of (sH3.trans s4) nG⟩
        · exact ⟨ov, os, vs, rfl, s4, ev, hV, vok, vl, vD, v0⟩
      clear ev hV vok vl vD v0 pv pm s4 nv
      rintro σ' H5 ⟨ov, os, vs, rfl, s5, ev, hV, vok, vl, vD, v0⟩
      refine ⟨_, rfl, .inl ⟨rfl, _, lstAt (s5 _ _ e3)⟩, _, rfl, _, rfl, _, rfl, (show (3 : Nat) ≤ sizeLine by decide), fun g ng => ?_⟩
      have sg := same_upd (o := .tup [vN d.nm, .ref ov, .ref f]) ng
      have g6 := upd_same (H := H5) (a := g) (o := .tup [vN d.nm, .ref ov, .ref f])
      generalize upd H5 g (.tup [vN d.nm, .ref ov, .ref f]) = H6 at sg g6 ⊢
      have s36 := s5.trans sg
      have e6 := s36 _ _ e3
      have kD : ∀ c o, H6 c = some o → c ≠ D → (upd H6 D (.lst (qs.map V.ref ++ [.ref g]))) c = some o := fun c o e n => by rw [upd_ne n]; exact e
      have gd : RwI H D H6 g ⟨d.nm, vs, d.fol⟩ := ⟨ov, f, os, g6, sg _ _ ev, hV.same sg, s36 _ _ f3, vD, fD, v0, none_of w0 h8⟩
      refine ⟨_, _, _, rfl, rfl, e6, by rw [ql]; exact small1000 (by omega), qs ++ [g], us ++ [⟨d.nm, vs, d.fol⟩], _, _, _, _, rfl, fun c o e n => kD _ _ (s36 _ _ (k3 _ _ e n)) n, by rw [upd_same, List.map_append]; rfl, ?_, ?_⟩
      · exact ((hQ.mono fun _ _ k => k.go ⟨_, e3⟩ fun c o e n => s36 _ _ e).app (.one gd)).mono fun _ _ k => k.go ⟨_, e6⟩ kD
      · rw [List.take_add_one, et]
        exact uk.app (d := ⟨d.nm, vs, d.fol⟩) vok vl (ok.f d md) (ok.fs d md) (ok.fl d md)
    · rintro σ H3 ⟨qs, us, y4, y5, y6, y7, rfl, k3, e3, hQ, uk⟩
      rw [pl, show ds.length = ts.length by rw [← ok.nm, List.length_map], List.take_length] at uk
      exact ⟨_, rfl, q _ D qs us nD (fun c o e => k3 _ _ (s2 _ _ (w0 _ _ e)) (ne_of_none e nD)) e3 hQ uk⟩
end
end TK

/-! TurnRule.__init__ -/
namespace TK
open PySem PySem.Spec PyProof.Rows L2 NdefX
abbrev s_TurnRule_init : Stmt := inClass (topS 33) 1
abbrev ruPs : List Str := ["name", "members", "limit", "barred", "links", "deposit", "fee", "start"]
abbrev ruNs : List Str := ["self", "name", "members", "limit", "barred", "links", "deposit", "fee", "start", "__class__"]
theorem sc_TurnRule_init : NScope ruNs ("self" :: ruPs) ["__class__"] (defScope s_TurnRule_init) := nscope_by (by decide +kernel)
section
variable {P : Program} {w : World} {K : PySem.W.Frag} {mg : Str → Option Value} {base : Heap}
theorem ok_TurnRule_init {f C CL CT D f2 cc cda : Addr} {oc ccl cl dV kV doc pm ct : Value} {an od cdd cld : Option Addr} {osl ccs csl : Array (Option Value)} {vs0 : Array Value} {tf : Tok} {file : Str}
    (lk : K.lookup f = some ⟨oc, od, .func (PySem.W.fnX "__init__" "TurnRule.__init__" (defArgs s_TurnRule_init) (defBody s_TurnRule_init) (defScope s_TurnRule_init) [("__class__", cc)] dV kV doc pm an (.ref cda) ct), osl⟩) (hcd : PySem.W.codeIn K (.ref cda) "TurnRule.__init__" = true)
    (hcode : K.lookup cda = some ⟨ccl, cdd, .fields vs0, ccs⟩) (hvs : vs0[2]? = some (.str file tf)) (hfile : ((P.main.file : Str) == file) = true) (hcell : K.lookup cc = some ⟨cl, cld, .cell (some (.ref D)), csl⟩)
    (htop : (P.main.scope.names.lookup ("super" : Str)).isSome = false) (hsup : mg "super" = none) (O : SupO K C D f2) (FR : FnR P w K mg base CX0 8 f2 (spInitRu K C CL CT)) :
    FnOk P w K mg base CX0 9 f (PySem.W.fnX "__init__" "TurnRule.__init__" (defArgs s_TurnRule_init) (defBody s_TurnRule_init) (defScope s_TurnRule_init) [("__class__", cc)] dV kV doc pm an (.ref cda) ct) ("self" :: ruPs) (spInitRu K C CL CT) := by
  refine fn_superO (N := ruNs) (k := 8) lk hcd hcode hvs hfile hcell sc_TurnRule_init rfl rfl rfl htop hsup O FR (fun vs H Q E h => ?_) (fun A outer s H vs Q E a vs' hr e h => ?_) (fun _ => rfl) (fun _ => rfl) (fun _ => rfl)
  · obtain ⟨p, a, b, c, dx, nm, lim, d1, d2, d3, zs, ks, es, ts, rfl, hp, _⟩ := h
    exact ⟨p, _, dx, _, rfl, rfl, hp⟩
  · subst e
    obtain ⟨p, a', b, c, dx, nm, lim, d1, d2, d3, zs, ks, es, ts, ev, hp, hrest⟩ := h
    cases ev
    refine ⟨_, _, hr, pa_cons (pv 1) (pa_cons (pv 2) (pa_cons (pv 3) (pa_cons (pv 4) (pa_cons (pv 5) (pa_cons (pv 6) (pa_cons (pv 7) (pa_cons (pv 8) pa_nil))))))), pss_nil, ?_⟩
    refine ⟨_, rfl, _, rfl, _, rfl, _, rfl, _, rfl, _, rfl, _, rfl, _, rfl, ?_⟩
    obtain ⟨g, ok, z4, hnm, hlim, knd, ksub, hd1, hd2, hd3, q⟩ := hrest
    exact ⟨a, a', b, c, dx, nm, lim, d1, d2, d3, zs, ks, es, ts, rfl, hp, g, ok, z4, hnm, hlim, knd, ksub, hd1, hd2, hd3, fun H' hr' sp => q H' hr' sp⟩
end
end TK

/-! a rule of turns of the law -/
namespace TK
open PySem PySem.Spec PyProof.Rows L2
theorem RuN.same {n : Nat} {K : PySem.W.Frag} {C CL CT : Addr} {H H' : Hp} {p : Addr} {zs kb : List Nam} {ts : List Tie} (h : RuN n K C CL CT H p zs kb ts) (s : Same H H') : RuN n K C CL CT H' p zs kb ts := by
  obtain ⟨dx, m, bt, l, ht, fs, hh, h1, h2, h3, h4, h5, h6, h7, h8, h9, ⟨ts', h10, h11⟩, h12⟩ := h
  exact ⟨dx, m, bt, l, ht, fs, hh, s _ _ h1, h2, h3, h4, h5, h6, h7.same s, s _ _ h8, lk_same h9 s, ⟨ts', h10.same s, h11⟩, h12⟩
theorem RuN.here {n : Nat} {K : PySem.W.Frag} {C CL CT : Addr} {H : Hp} {p : Addr} {zs kb : List Nam} {ts : List Tie} (h : RuN n K C CL CT H p zs kb ts) : ∃ dx fs, H p = some (.ins C dx fs) ∧ Clean fs := by
  obtain ⟨dx, m, bt, l, ht, fs, hh, h1, h2, h3, h4, h5, h6, h7⟩ := h
  exact ⟨dx, fs, h1, h6.2⟩
theorem filt_perm {zs us ks : List Nam} (p : us.Perm ks) : (zs.filter fun z => decide (z ∈ us)) = zs.filter fun z => decide (z ∈ ks) :=
  List.filter_congr fun z _ => decide_eq_decide.mpr p.mem_iff
/-! the class, called by keywords -/
section
variable {K : PySem.W.Frag} {name qual : Str} {params : Arguments} {body : List Stmt} {scope : Scope} {cl : List (Str × Addr)} {D : Addr} {doc pm cdv ct : Value} {an : Option Addr} {kws : List (Str × V)} {ps : List Str}
theorem kbX (hq : ∀ q ∈ kws, ∃ u, PySem.W.nsIn K D q.1 = some (some u) ∧ RelV q.2 u) (n : Nat) (ks : List Str) (ms : List (Str × V)) (g : {α : Type} → List α → List α → List α → List α) (hms : ∀ q ∈ ms, q ∈ kws)
    (hrel : ∀ {vs mz zs : List V} {us mv ws : List Value}, Vals vs us → Vals mz mv → Vals zs ws → Vals (g vs mz zs) (g us mv ws))
    (h : ∀ (us mv ws : List Value), us.length = n → mv.length = ms.length → ws.length = ks.length →
      KwChain D ((ms.map (·.1)).zip mv) (bindArgs (PySem.W.fnX name qual params body scope cl .none (.ref D) doc pm an cdv ct) ⟨us, ks.zip ws⟩) (ps.zip (g us mv ws))) :
    ∃ g' : List Value → List Value → List Value, KBn K (PySem.W.fnX name qual params body scope cl .none (.ref D) doc pm an cdv ct) ps n ks g' (fun vs zs => g vs (ms.map (·.2)) zs) := by
  obtain ⟨mv, hl, rk, hks⟩ := kwd_vals (ms := ms) fun q hm => hq q (hms q hm)
  exact ⟨fun us ws => g us mv ws, ⟨fun s us ws X l1 l2 => BindsTo.of_looks fun M => KwChain.looks X hks (h us mv ws l1 hl l2), fun r1 r2 => hrel r1 rk r2⟩⟩
end
def gTurn {α : Type} (us mv ws : List α) : List α := us ++ (ws ++ mv)
def msT : List (Str × V) := [("deposit", .int 0), ("fee", .int 1), ("start", .int 0)]
theorem turn_kb {K : PySem.W.Frag} {cc cda D : Addr} {doc pm ct : Value} {an : Option Addr} (hq : ∀ q ∈ msT, ∃ u, PySem.W.nsIn K D q.1 = some (some u) ∧ RelV q.2 u) :
    ∃ g', KBn K (PySem.W.fnX "__init__" "TurnRule.__init__" (defArgs s_TurnRule_init) (defBody s_TurnRule_init) (defScope s_TurnRule_init) [("__class__", cc)] .none (.ref D) doc pm an (.ref cda) ct) ("self" :: ruPs) 3 ["limit", "barred", "links"] g' (fun vs zs => gTurn vs (msT.map (·.2)) zs) :=
  kbX (kws := msT) hq 3 ["limit", "barred", "links"] msT gTurn (fun _ h => h) (fun a b c => a.append (c.append b)) fun us mv ws h1 h2 h3 => match us, h1, mv, h2, ws, h3 with
    | [_, _, _], _, [_, _, _], _, [_, _, _], _ => ⟨_, _, _, _, _, _, rfl, rfl, ⟨_, _, _, _, _, _, rfl, rfl, ⟨_, _, _, _, _, _, rfl, rfl, rfl⟩⟩⟩
theorem cap_at {i : Int} (h0 : 0 ≤ i) (h1 : i < 5) : ∃ c : Option Int, atI [V.non, V.int 0, V.int 1, V.int 2, V.int 3] i = some (capV c) ∧ ∀ v, c = some v → 0 ≤ v ∧ v ≤ 3 := by
  obtain rfl | rfl | rfl | rfl | rfl : i = 0 ∨ i = 1 ∨ i = 2 ∨ i = 3 ∨ i = 4 := by omega
  · exact ⟨none, rfl, nofun⟩
  · exact ⟨some 0, rfl, fun v h => by cases h; decide⟩
  · exact ⟨some 1, rfl, fun v h => by cases h; decide⟩
  · exact ⟨some 2, rfl, fun v h => by cases h; decide⟩
  · exact ⟨some 3, rfl, fun v h => by cases h; decide⟩
section
variable {P : Program} {w : World} {K : PySem.W.Frag} {mg : Str → Option Value} {base : Heap}
def spTurnL (K : PySem.W.Frag) (C CL CT : Addr) : Sp := fun vs H Q _ => ∃ (a m : Addr) (ns : List Int) (nm : Nam) (zs : List Nam), vs = [.ref a, vN nm, .ref m] ∧ SqL K H a (ns.map V.int) ∧ ns.length = 6 ∧ Nm nm ∧ SqL K H m (zs.map vN) ∧ 1 ≤ zs.length ∧ zs.length ≤ 4 ∧ (∀ z ∈ zs, Nm z) ∧ zs.Nodup ∧
  ∀ (H' : Hp) (t x sh : Addr) (ks : List Nam) (ts : List Tie), Same H H' → H' t = some (.tup [.ref x, .ref sh]) → RuAt K C CL CT H' x zs (zs.filter fun z => decide (z ∈ ks)) ts → H' sh = some (.lst (ks.map vN)) → H sh = none → Q (.ref t) H'
theorem ok_L_turn_rule {f C CL CT fT : Addr} {fd fdT : FuncData} (F : Fun K "_law_turn_rule" "_law_turn_rule" s_L_turn_rule f fd) (m_list : mg "list" = none) (d_L_part : Def P w K mg base "_law_part" 1 ["_law_pool_here", "_law_spot", "_law_under", "_law_size"] (spPart K))
    (d_L_some : Def P w K mg base "_law_some" 2 ["_law_pool_here", "_law_spot", "_law_names_here"] (spSome K)) (d_L_shuffled : Def P w K mg base "_law_shuffled" 2 ["_law_pool_here", "_law_spot", "_law_row"] (spShufG vN K))
    (d_L_links : Def P w K mg base "_law_links" 2 ["_law_pool_here", "_law_spot", "_law_members", "_law_number"] (spLinks K))
    (M_TurnRule : Mk K C fT) (G_TurnRule : FnOk P w K mg base CX0 9 fT fdT ("self" :: ruPs) (spInitRu K C CL CT)) (mg_TurnRule : mg "TurnRule" = some (.ref C)) {g1 : List Value → List Value → List Value} (kb_TurnRule : KBn K fdT ("self" :: ruPs) 3 ["limit", "barred", "links"] g1 (fun vs zs => gTurn vs (msT.map (·.2)) zs)) :
    FnOk P w K mg base CX0 11 f fd ["_law_pool_here", "_law_name", "_law_members"] (spTurnL K C CL CT) := by
  refine F.ok sc_L_turn_rule (fun vs H Q E h => ?_) (fun cdv A outer s H vs Q E hr h => ?_)
  · obtain ⟨a, m, ns, nm, zs, rfl, _⟩ := h
    rfl
  · obtain ⟨a, m, ns, nm, zs, rfl, hA, nl, hnm, hM, z1, z4, zn, nz, q⟩ := h
    refine ⟨_, (pss_cons (ps_set (i := 3) sc_L_turn_rule.nd rfl (.inl rfl) (pe_callD d_L_some (hr.mono (by decide)) (by rfl) (pa_cons (pv 0) (pa_cons pe_int (pa_cons (pv 2) pa_nil)))))
  (pss_cons (ps_cut (ps_if (pt_cmpR op_eq (pe_callD d_L_part (hr.mono (by decide)) (by rfl) (pa_cons (pv 0) (pa_cons pe_int (pa_cons pe_int (pa_cons pe_int pa_nil))))) pe_int (nomark _)) (pss_one (ps_set (i := 3) sc_L_turn_rule.nd rfl (.inl rfl) (pe_lst pa_nil))) pss_nil))
  (pss_cons (ps_set (i := 4) sc_L_turn_rule.nd rfl (.inl rfl) (pe_ix ix_list (pe_lst (pa_cons pe_non (pa_cons pe_int (pa_cons pe_int (pa_cons pe_int (pa_cons pe_int pa_nil)))))) (pe_callD d_L_part (hr.mono (by decide)) (by rfl) (pa_cons (pv 0) (pa_cons pe_int (pa_cons pe_int (pa_cons pe_int pa_nil))))) (fun _ _ => rfl)))
  (pss_cons (ps_set (i := 5) sc_L_turn_rule.nd rfl (.inl rfl) (pe_callD d_L_links (hr.mono (by decide)) (by rfl) (pa_cons (pv 0) (pa_cons pe_int (pa_cons (pv 2) (pa_cons (pe_callD d_L_part (hr.mono (by decide)) (by rfl) (pa_cons (pv 0) (pa_cons pe_int (pa_cons pe_int (pa_cons pe_int pa_nil))))) pa_nil))))))
  (pss_one (ps_ret (pe_tup (pa_cons (pe_makeK M_TurnRule G_TurnRule (hr.mono (by decide)) (by rfl) mg_TurnRule kb_TurnRule pass0 (pa_cons (pv 1) (pa_cons (pe_callTy call_list_of (by rfl) m_list (by decide +kernel) (pa_cons (pv 2) pa_nil)) pa_nil)) (pk_cons (pv 4) (pk_cons (pe_callD d_L_shuffled (hr.mono (by decide)) (by rfl) (pa_cons (pv 0) (pa_cons pe_int (pa_cons (pv 3) pa_nil)))) (pk_cons (pv 5) pk_nil)))) (pa_cons (pv 3) pa_nil))))))))), ?_⟩
    refine ⟨_, rfl, _, rfl, _, _, _, _, _, rfl, hA, by decide, by omega, hM, z4, fun d fs H1 s1 nd ed sub => ?_⟩
    refine ⟨(fun σ' H' => ∃ (d : Addr) (ks : List Nam), σ' = [some (.ref a), some (vN nm), some (.ref m), some (.ref d), none, none] ∧ Same H H' ∧ H' d = some (.lst (ks.map vN)) ∧ ks.Sublist zs ∧ H d = none), ?_, ?_⟩
    · refine ⟨_, rfl, _, _, _, _, _, rfl, s1.seq hA, by decide, by omega, by decide, by decide, by decide, rfl, _, rfl, ite2 (fun e => ?_) (fun e => ?_)⟩
      · refine ⟨Nat.zero_le _, fun r nr => ?_⟩
        exact ⟨r, [], rfl, s1.trans (same_upd nr), upd_same, List.nil_sublist _, none_of s1 nr⟩
      · exact ⟨d, fs, rfl, s1, ed, sub, nd⟩
    clear ed sub nd s1
    rintro σ' H1 ⟨d, ks, rfl, s1, ed, sub, nd⟩
    have kl : ks.length ≤ 4 := Nat.le_trans sub.length_le z4
    obtain ⟨lim, el, hl⟩ := cap_at (part_lo (ns := ns) (s := 0) (u := 48) (z := 5) (by decide)) (part_hi (ns := ns) (s := 0) (u := 48) (z := 5) (by decide))
    refine ⟨(show (5 : Nat) ≤ sizeLine by decide), fun c5 n5 => ?_⟩
    have s5 := s1.trans (same_upd (o := .lst [V.non, V.int 0, V.int 1, V.int 2, V.int 3]) n5)
    have e5 := upd_same (H := H1) (a := c5) (o := .lst [V.non, V.int 0, V.int 1, V.int 2, V.int 3])
    have d5 := (same_upd (o := .lst [V.non, V.int 0, V.int 1, V.int 2, V.int 3]) n5) _ _ ed
    generalize upd H1 c5 (.lst [V.non, V.int 0, V.int 1, V.int 2, V.int 3]) = H2 at s5 e5 d5 ⊢
    refine ⟨_, rfl, _, _, _, _, _, rfl, s5.seq hA, by decide, by omega, by decide, by decide, by decide, _, _, _, _, rfl, rfl, lstAt e5, el, ?_⟩
    have n0 := part_lo (ns := ns) (s := 0) (u := 240) (z := 4) (by decide)
    have n1 := part_hi (ns := ns) (s := 0) (u := 240) (z := 4) (by decide)
    refine ⟨_, rfl, _, rfl, _, rfl, _, _, _, _, _, rfl, s5.seq hA, by decide, by omega, by decide, by decide, by decide, a, m, ns, 2, partOf ns 0 240 4, zs, rfl, s5.seq hA, s5.seq hM, by decide, by omega, n0, by omega, by omega, nz, fun H3 lt es ts tw tl => ?_⟩
    have s3 := s5.trans tw.s
    have ok : LOk zs ts := ⟨zn, nz, z1, by omega, tl, tw.o.a, tw.o.b, tw.o.ne, tw.o.h0, tw.o.h9⟩
    have d3 := tw.s _ _ d5
    have l3 := tw.d
    have t3 := tw.t
    refine ⟨_, rfl, _, rfl, m, _, rfl, .inl (s3.seq hM), fun m1 nm1 => ?_⟩
    have sA := same_upd (o := .lst (zs.map vN)) nm1
    have em1 := upd_same (H := H3) (a := m1) (o := .lst (zs.map vN))
    generalize upd H3 m1 (.lst (zs.map vN)) = HA at sA em1 ⊢
    refine ⟨_, rfl, _, rfl, _, rfl, a, d, ns, 1, ks, rfl, (s3.trans sA).seq hA, by decide, by omega, lstAt (sA _ _ d3), kl, fun b1 us HB sB nb1 eb1 pm => ?_⟩
    have sAB := sA.trans sB
    refine ⟨_, rfl, rfl, rfl, fun x dx nx ndx nex => ?_⟩
    have sdx := same_upd (o := .own x) ndx
    have nxx : (upd HB dx (.own x)) x = none := by rw [upd_ne nex.symm]; exact nx
    have sx := sdx.trans (same_upd (o := .ins C dx []) nxx)
    have usub : ∀ y ∈ us, y ∈ zs := fun y m => sub.subset (pm.mem_iff.mp m)
    refine ⟨x, m1, b1, lt, dx, nm, lim, 0, 1, 0, zs, us, es, ts, rfl, upd_same, ⟨lstAt (sx _ _ (sB _ _ em1)), lstAt (sx _ _ eb1), lstAt (sx _ _ (sAB _ _ l3)), t3.same (sAB.trans sx)⟩, ok, z4, hnm, hl, pm.nodup_iff.mpr (sub.nodup nz), usub, ⟨by decide, by decide⟩, ⟨by decide, by decide⟩, ⟨by decide, by decide⟩, fun HD ru sp => ?_⟩
    rw [filt_perm pm] at ru
    have ru := ru.mono (show 9 ≤ 12 by decide)
    have sD : ∀ {y : Addr} {o : HO}, H3 y = some o → HD y = some o := fun {y o} e => sp y o (sx _ _ (sAB _ _ e)) (ne_of_none (sAB _ _ e) nx)
    refine ⟨rfl, _, rfl, (show (2 : Nat) ≤ sizeLine by decide), fun t nt => ?_⟩
    have st := same_upd (o := .tup [V.ref x, .ref d]) nt
    exact q _ t x d ks ts (fun c o e => st _ _ (sD (s3 _ _ e))) upd_same (ru.same st) (st _ _ (sD d3)) nd
end
end TK

/-! who is free; what a rule tells; the lists spoilt -/
namespace TK
open PySem PySem.Spec PyProof.Rows L2
def freeN (zs : List Nam) (us : List BidD) (ks : List Nam) : List Nam := zs.filter fun z => decide (z ∈ us.map (·.1)) && !decide (z ∈ ks)
theorem freeN_le (zs : List Nam) (us : List BidD) (ks : List Nam) : (freeN zs us ks).length ≤ zs.length := List.length_filter_le _ _
/-- what the rule finds is what the law finds -/
theorem cand_free {zs ks : List Nam} {bs : List BidD} (nd : (bs.map (·.1)).Nodup) : candN (sortB zs bs) (zs.filter fun z => decide (z ∈ ks)) = freeN zs bs ks := by
  unfold candN freeN
  rw [sortB_fst nd, List.filter_filter]
  refine List.filter_congr fun z mz => ?_
  by_cases h : z ∈ ks
  · rw [decide_eq_true (show z ∈ (zs.filter fun z => decide (z ∈ ks)) from List.mem_filter.mpr ⟨mz, decide_eq_true h⟩), decide_eq_true h]
    simp
  · rw [decide_eq_false (show ¬ z ∈ (zs.filter fun z => decide (z ∈ ks)) from fun m => h (of_decide_eq_true (List.mem_filter.mp m).2)), decide_eq_false h]
    simp
theorem eqv_nilN (W : List Nam) : PyData.eqv (.list ((W.map sOf).map PyData.str)) (.list ((([] : List Nam).map sOf).map PyData.str)) = decide (W.map sOf = []) := eqv_nil _
theorem wished_nil {us : List BidD} {z : Nam} : (((us.filter fun d => decide (d.1 = z)).map (·.1)).map sOf = []) ↔ ¬ z ∈ us.map (·.1) := by
  rw [List.map_eq_nil_iff, List.map_eq_nil_iff, List.filter_eq_nil_iff]
  constructor
  · rintro h m
    obtain ⟨d, md, e⟩ := List.mem_map.mp m
    exact h d md (decide_eq_true e)
  · rintro h d md e
    exact h (List.mem_map.mpr ⟨d, md, of_decide_eq_true e⟩)
section
variable {P : Program} {w : World} {K : PySem.W.Frag} {mg : Str → Option Value} {base : Heap}
def spFreeL (K : PySem.W.Frag) : Sp := fun vs H Q _ => ∃ (r m sh b f : Addr) (nm : Nam) (es : List Addr) (us : List BidD) (zs ks : List Nam), vs = [.ref r, .ref m, .ref sh] ∧ H r = some (.tup [vN nm, .ref b, .ref f]) ∧ H b = some (.lst (es.map V.ref)) ∧ BidsAt H es us ∧ SqL K H m (zs.map vN) ∧ SqL K H sh (ks.map vN) ∧ us.length ≤ 4 ∧ zs.length ≤ 4 ∧ (∀ z ∈ zs, Nm z) ∧
  ∀ (H' : Hp) (t : Addr), H t = none → Same H H' → H' t = some (.lst ((freeN zs us ks).map vN)) → Q (.ref t) H'
theorem ok_L_free {f : Addr} {fd : FuncData} (F : Fun K "_law_free" "_law_free" s_L_free f fd) : FnOk P w K mg base CX0 1 f fd ["_law_row", "_law_members", "_law_shut"] (spFreeL K) := by
  refine F.ok sc_L_free (fun vs H Q E h => ?_) (fun cdv A outer s H vs Q E hr h => ?_)
  · obtain ⟨r, m, sh, b, f, nm, es, us, zs, ks, rfl, _⟩ := h
    rfl
  · obtain ⟨r, m, sh, b, f, nm, es, us, zs, ks, rfl, hR, hB, hE, hM, hS, u4, z4, zn, q⟩ := h
    have el : (es.map V.ref).length = us.length := by rw [List.length_map, hE.1]
    refine ⟨_, (pss_cons (ps_set (i := 3) sc_L_free.nd rfl (.inl rfl) (pe_lst pa_nil))
  (pss_cons (ps_for PassesOwn.never rfl (pi_list (pv 1)) (pg_name (i := 4) sc_L_free.nd rfl (.inr rfl))
    (pss_cons (ps_setLc (i := 5) (own := [("_law_who", 6), ("_law_bid", 7)]) (by rfl) sc_L_free.nd rfl rfl (sw_true rfl rfl rfl (by decide +kernel)) (pi_list (pe_ix ix_tup (pv 0) pe_int (fun _ _ => rfl))) (blkOk_by (N := ["_law_row", "_law_members", "_law_shut", "_law_free_here", "_law_member", "_law_wished", "_law_who", "_law_bid"]) (sc := defScope s_L_free) (by decide +kernel)) (fun _ _ _ _ _ => (pg_tupK (K := K) (n := 2) rfl (by rfl) (pgs_cons (pg_name (i := 6) sc_L_free.nd rfl (.inl rfl)) (pgs_cons (pg_name (i := 7) sc_L_free.nd rfl (.inl rfl)) pgs_nil)))) (fun _ _ _ _ _ => (pts_one (pt_cmpR op_eq (pv 6) (pv 4) (nomark _)))) (fun _ _ _ _ _ => (pv 6)))
  (pss_one (ps_if (PW.pt (pw_and (pt_cmpR (op_neD hr.units) (pv 5) (pe_lst pa_nil) (nomark _)) (pw_and1 (pt_cmpR op_notIn_seq (pv 4) (pv 2) (by rfl))))) (pss_one (ps_expr (pe_bm PySem.F.plainAttrs_list PySem.F.slot_list_append PySem.F.type_list_append mt_append (pv 3) (pa_cons (pv 4) pa_nil)))) pss_nil))))
  (pss_one (ps_ret (pv 3))))), ?_⟩
    refine ⟨Nat.zero_le _, fun D nD => ?_⟩
    have w0 := same_upd (o := .lst []) nD
    refine ⟨_, rfl, m, rfl, ⟨_, w0.seq hM⟩, for_list (K := K) (a := m) (xs := zs.map vN) (fun i σ H' => ∃ y4 y5 : Option V, σ = [some (.ref r), some (.ref m), some (.ref sh), some (.ref D), y4, y5, none, none] ∧ Same H H' ∧ H' D = some (.lst ((freeN (zs.take i) us ks).map vN))) ⟨_, _, rfl, w0, upd_same⟩ (fun i σ H' _ hq => by obtain ⟨_, _, rfl, s, _⟩ := hq; exact s.seq hM) ?_ ?_⟩
    · rintro i v σ H1 hv ⟨y4, y5, rfl, s1, eD⟩
      obtain ⟨z, ez, rfl⟩ := vN_at hv
      have mz := List.mem_of_getElem? ez
      have hi := (List.getElem?_eq_some_iff.mp ez).1
      have fl : (freeN (zs.take i) us ks).length ≤ 4 := Nat.le_trans (freeN_le _ _ _) (by rw [List.length_take]; omega)
      have e2 : freeN (zs.take (i + 1)) us ks = freeN (zs.take i) us ks ++ if (decide (z ∈ us.map (·.1)) && !decide (z ∈ ks)) = true then [z] else [] := flt_at ez
      rw [e2]
      refine ⟨_, rfl, _, _, 1, _, rfl, rfl, tupAt (s1 _ _ hR), rfl, b, rfl, ⟨_, lstAt (s1 _ _ hB)⟩, fun G nG => ?_⟩
      refine lc_list (K := K) (a := b) (xs := es.map V.ref) (fun j H' => Same H1 H' ∧ H' G = some (.lst ((((us.take j).filter fun d => decide (d.1 = z)).map (·.1)).map vN))) ⟨same_upd nG, upd_same⟩ (fun j H' _ hq => lstAt (hq.1 _ _ (s1 _ _ hB))) (fun j v H' hv hq => ?_) (fun H2 hq => ?_)
      · obtain ⟨s2, eG⟩ := hq
        obtain ⟨e1, d, rfl, ed, he⟩ := bids_at (hE.same (s1.trans s2)) hv
        have hj := (List.getElem?_eq_some_iff.mp ed).1
        have gl : ((us.take j).filter fun d => decide (d.1 = z)).length ≤ 4 := Nat.le_trans (List.length_filter_le _ _) (by rw [List.length_take]; omega)
        refine gTup2w he [some (.ref r), some (.ref m), some (.ref sh), some (.ref D), some (vN z), y5, some (vN d.1), some (.int d.2)] (by simp [wipe, L2.start]) ?_
        refine ⟨rfl, _, rfl, _, rfl, rfl, _, rfl, ?_⟩
        rw [eq_nm, flt_at ed]
        by_cases h : d.1 = z
        · rw [decide_eq_true h]
          refine iteT ⟨_, rfl, _, eG, by rw [List.length_map, List.length_map]; exact small1000 (by omega), same_at s2 nG, ?_⟩
          rw [if_pos rfl, List.map_append, List.map_append]
          exact upd_same
        · rw [decide_eq_false h]
          exact iteF ⟨s2, by rw [if_neg (by decide), List.append_nil]; exact eG⟩
      obtain ⟨s2, eG⟩ := hq
      rw [el, List.take_length] at eG
      have s12 := s1.trans s2
      refine ⟨_, rfl, Nat.zero_le _, fun n0 nn0 => ?_⟩
      have s3 := same_upd (o := .lst []) nn0
      have h0 := upd_same (H := H2) (a := n0) (o := .lst [])
      generalize upd H2 n0 (.lst []) = H3 at s3 h0 ⊢
      have s13 := s12.trans s3
      have eD3 := (s2.trans s3) _ _ eD
      have fnm : ∀ x ∈ ((us.filter fun d => decide (d.1 = z)).map (·.1)), Nm x := fun x mx => by
        obtain ⟨d, md, rfl⟩ := List.mem_map.mp mx
        rw [of_decide_eq_true (List.mem_filter.mp md).2]
        exact zn z mz
      refine ⟨_, _, dp_nms (lstAt (s3 _ _ eG)), dp_nms (zs := []) (lstAt h0), shaped_strs fnm, shaped_strs nofun, _, rfl, ?_⟩
      rw [eqv_nilN]
      by_cases h : z ∈ us.map (·.1)
      · rw [decide_eq_false (fun e => wished_nil.mp e h), decide_eq_true h]
        refine iteT ⟨_, rfl, _, rfl, sh, _, rfl, .inl (s13.seq hS), rfl, nms_flat _, _, rfl, ?_⟩
        rw [notin_nm]
        by_cases k : z ∈ ks
        · rw [decide_eq_true k]
          refine iteF ⟨_, _, rfl, s13, ?_⟩
          rw [if_neg (by decide), List.append_nil]; exact eD3
        · rw [decide_eq_false k]
          refine iteT ⟨_, rfl, .inl ⟨rfl, _, lstAt eD3⟩, _, rfl, _, _, _, rfl, rfl, eD3, by rw [List.length_map]; exact small1000 (by omega), _, _, rfl, same_at s13 nD, ?_⟩
          rw [if_pos (by decide), List.map_append]; exact upd_same
      · rw [decide_eq_true (wished_nil.mpr h), decide_eq_false h]
        refine iteF ⟨_, _, rfl, s13, ?_⟩
        rw [Bool.false_and, if_neg (by decide), List.append_nil]; exact eD3
    · rintro σ H1 ⟨y4, y5, rfl, s1, eD⟩
      rw [List.length_map, List.take_length] at eD
      exact ⟨_, rfl, q _ D nD s1 eD⟩
theorem eq_pair {H : Hp} {p q i j : Addr} {x : List V} (hp : H p = some (.tup [.ref i, .int 0])) (hq : H q = some (.tup [.ref j, .int 0])) (hi : H i = some (.tup x)) (hj : H j = some (.tup x)) (hl : x.length ≤ 1) (fl : ∀ v ∈ x, flat1 v = true) : Eq2 H 2 (.ref p) (.ref q) := by
  refine .inr ⟨p, q, _, _, rfl, rfl, .inr ⟨.inl hp, .inl hq⟩, rfl, (show (2 : Nat) < 2 ^ 40 by decide), fun k a b ha hb => ?_⟩
  match k, ha, hb with
  | 0, ha, hb =>
    cases Option.some.inj ha
    cases Option.some.inj hb
    exact eq_flat (.inl hi) (.inl hj) (by omega) fl 0
  | 1, ha, hb =>
    cases Option.some.inj ha
    cases Option.some.inj hb
    exact .inl ⟨rfl, rfl⟩
  | k + 2, ha, hb => simp at ha
theorem eq_lets {H : Hp} {s t p q i j : Addr} {x : List V} (hs : H s = some (.lst [.ref p])) (ht : H t = some (.lst [.ref q])) (hp : H p = some (.tup [.ref i, .int 0])) (hq : H q = some (.tup [.ref j, .int 0])) (hi : H i = some (.tup x)) (hj : H j = some (.tup x)) (hl : x.length ≤ 1) (fl : ∀ v ∈ x, flat1 v = true) : Eq2 H 3 (.ref s) (.ref t) := by
  refine .inr ⟨s, t, _, _, rfl, rfl, .inl ⟨hs, ht⟩, rfl, (show (1 : Nat) < 2 ^ 40 by decide), fun k a b ha hb => ?_⟩
  match k, ha, hb with
  | 0, ha, hb =>
    cases Option.some.inj ha
    cases Option.some.inj hb
    exact eq_pair hp hq hi hj hl fl
  | k + 1, ha, hb => simp at ha
theorem flat_nms (zs : List Nam) : ∀ v ∈ zs.map vN, flat1 v = true := fun v m => by
  obtain ⟨z, _, rfl⟩ := List.mem_map.mp m
  rfl
def spTellsL (K : PySem.W.Frag) (C CL CT CP : Addr) : Sp := fun vs H Q _ => ∃ (x g fr : Addr) (zs kb : List Nam) (ts : List Tie) (n : Nam) (ds : List BidD) (fl : List Nam) (hb : Bool) (ws : List Nam), vs = [.ref x, .ref g, .ref fr] ∧ RuAt K C CL CT H x zs kb ts ∧ PgAt CP H g n ds fl hb ∧ ds.length ≤ 500 ∧ H fr = some (.lst (ws.map vN)) ∧ ws = candN ds kb ∧ ws.length ≤ 4 ∧ (∀ z ∈ ws, Nm z) ∧ ∀ H', Same H H' → Q (.bl true) H'
theorem ok_L_tells {f C CL CT CP gc gm gl : Addr} {fd fdc fdm fdl : FuncData} (F : Fun K "_law_tells" "_law_tells" s_L_tells f fd) (T : TxtRu K C) (m_tuple : mg "tuple" = none) (d_L_same : Def P w K mg base "_law_same" 5 ["_law_got", "_law_wanted"] (spSame 3))
    (Me_candidates : Meth K C "candidates" gc) (G_candidates : FnOk P w K mg base CX0 1 gc fdc ["self", "page"] (spCand K C CL CT CP)) {g1 : List Value → List Value → List Value} (kb_candidates : KBn K fdc ["self", "page"] 1 ["page"] g1 (fun vs zs => vs ++ zs))
    (Me_moves : Meth K C "moves" gm) (G_moves : FnOk P w K mg base CX0 2 gm fdm ["self", "page"] (spMoves K C CL CT CP)) {g2 : List Value → List Value → List Value} (kb_moves : KBn K fdm ["self", "page"] 1 ["page"] g2 (fun vs zs => vs ++ zs))
    (Me_lets : Meth K C "lets" gl) (G_lets : FnOk P w K mg base CX0 1 gl fdl ["self", "page", "move"] spLets) (b_lets : Binds K fdl ["self", "page", "move"] []) {g3 : List Value → List Value → List Value} (kb_lets : KBn K fdl ["self", "page", "move"] 1 ["page", "move"] g3 (fun vs zs => vs ++ zs)) :
    FnOk P w K mg base CX0 6 f fd ["_law_rule", "_law_sheet", "_law_free_here"] (spTellsL K C CL CT CP) := by
  refine F.ok sc_L_tells (fun vs H Q E h => ?_) (fun cdv A outer s H vs Q E hr h => ?_)
  · obtain ⟨x, g, fr, zs, kb, ts, n, ds, fl, hb, ws, rfl, _⟩ := h
    rfl
  · obtain ⟨x, g, fr, zs, kb, ts, n, ds, fl, hb, ws, rfl, ru, pg, l500, hF, ew, w4, wn, q⟩ := h
    refine ⟨_, (pss_cons (ps_if (PW.pt (pw_or (pt_not (pt_val (pe_callD d_L_same (hr.mono (by decide)) (by rfl) (pa_cons (pe_methK0 (pv 0) T.cl Me_candidates G_candidates (hr.mono (by decide)) kb_candidates pass0 (pk_cons (pv 1) pk_nil)) (pa_cons (pe_callTy call_tuple_of (by rfl) m_tuple (by decide +kernel) (pa_cons (pv 2) pa_nil)) pa_nil))))) (pw_or1 (pt_not (pt_val (pe_callD d_L_same (hr.mono (by decide)) (by rfl) (pa_cons (pe_methK0 (pv 0) T.cl Me_moves G_moves (hr.mono (by decide)) kb_moves pass0 (pk_cons (pv 1) pk_nil)) (pa_cons (pe_op op_cat (pv 2) (pe_lst (pa_cons pe_str pa_nil))) pa_nil)))))))) (pss_one (ps_ret pe_bl)) pss_nil)
  (pss_cons (ps_for PassesOwn.never rfl (pi_list (pv 2)) (pg_name (i := 3) sc_L_tells.nd rfl (.inl rfl))
    (pss_one (ps_if (pt_not (pt_val (pe_callD d_L_same (hr.mono (by decide)) (by rfl) (pa_cons (pe_meth (pv 0) T.cl Me_lets G_lets (hr.mono (by decide)) b_lets .nil pass0 (pa_cons (pv 1) (pa_cons (pv 3) pa_nil))) (pa_cons (pe_lst (pa_cons (pe_tup (pa_cons (pe_tup (pa_cons (pv 3) pa_nil)) (pa_cons pe_int pa_nil))) pa_nil)) pa_nil))))) (pss_one (ps_ret pe_bl)) pss_nil)))
  (pss_one (ps_ret (pe_callD d_L_same (hr.mono (by decide)) (by rfl) (pa_cons (pe_methK0 (pv 0) T.cl Me_lets G_lets (hr.mono (by decide)) kb_lets pass0 (pk_cons (pv 1) (pk_cons pe_str pk_nil))) (pa_cons (pe_lst (pa_cons (pe_tup (pa_cons (pe_tup pa_nil) (pa_cons pe_int pa_nil))) pa_nil)) pa_nil))))))), ?_⟩
    obtain ⟨dx, fs, hp, lc⟩ := ru.here
    have wl : (ws.map vN).length ≤ 1000 := by rw [List.length_map]; omega
    refine ⟨_, rfl, x, dx, _, rfl, hp, lc _ (by decide +kernel), _, rfl, rfl, x, g, zs, kb, ts, n, ds, fl, hb, rfl, ru, pg, l500, fun H1 t nt s1 et => ?_⟩
    refine ⟨_, rfl, fr, _, rfl, .inl ⟨lstAt (s1 _ _ hF), fun t2 nt2 => ?_⟩⟩
    have s2 := same_upd (o := .tup (ws.map vN)) nt2
    have e2 := upd_same (H := H1) (a := t2) (o := .tup (ws.map vN))
    generalize upd H1 t2 (.tup (ws.map vN)) = H2 at s2 e2 ⊢
    have s12 := s1.trans s2
    rw [← ew] at et
    refine ⟨_, _, rfl, eq_flat (.inl (s2 _ _ et)) (.inl e2) wl (flat_nms ws) 2, _, rfl, iteF ?_⟩
    refine ⟨_, rfl, x, dx, _, rfl, s12 _ _ hp, lc _ (by decide +kernel), _, rfl, rfl, x, g, zs, kb, ts, n, ds, fl, hb, rfl, ru.same s12, pg.same s12, l500, fun H3 t3 nt3 s3 et3 => ?_⟩
    rw [← ew] at et3
    have s13 := s12.trans s3
    refine ⟨_, rfl, (show (1 : Nat) ≤ sizeLine by decide), fun n1 nn1 => ?_⟩
    have s4 := same_upd (o := .lst [V.str (Str.ofString "")]) nn1
    have e4 := upd_same (H := H3) (a := n1) (o := .lst [V.str (Str.ofString "")])
    generalize upd H3 n1 (.lst [V.str (Str.ofString "")]) = H4 at s4 e4 ⊢
    have s14 := s13.trans s4
    refine ⟨_, _, _, _, rfl, rfl, s14 _ _ hF, e4, Nat.le_of_lt (small1000 (by rw [List.length_map]; show ws.length + 1 ≤ 1000; omega)), fun n2 nn2 => ?_⟩
    have ev : ws.map vN ++ [V.str (Str.ofString "")] = (ws ++ [[]]).map vN := by rw [List.map_append]; rfl
    rw [ev]
    have s5 := same_upd (o := .lst ((ws ++ [[]]).map vN)) nn2
    have e5 := upd_same (H := H4) (a := n2) (o := .lst ((ws ++ [[]]).map vN))
    generalize upd H4 n2 (.lst ((ws ++ [[]]).map vN)) = H5 at s5 e5 ⊢
    have s15 := s14.trans s5
    refine ⟨_, _, rfl, eq_flatL (s5 _ _ (s4 _ _ et3)) e5 (by rw [List.length_map, List.length_append]; show ws.length + 1 ≤ 1000; omega) (flat_nms _) 2, _, rfl, iteF ?_⟩
    clear e5 s5 ev nn2 e4 s4 nn1 s14 s13 et3 s3 nt3 e2 s2 s12 nt2 et s1 nt
    refine ⟨_, rfl, fr, rfl, ⟨_, lstAt (s15 _ _ hF)⟩, for_list (K := K) (a := fr) (xs := ws.map vN) (fun i σ H' => ∃ y3 : Option V, σ = [some (.ref x), some (.ref g), some (.ref fr), y3] ∧ Same H H') ⟨_, rfl, s15⟩ (fun i σ H' _ hq => by obtain ⟨_, rfl, s⟩ := hq; exact lstAt (s _ _ hF)) ?_ ?_⟩
    · rintro i v σ H6 hv ⟨y3, rfl, s6⟩
      obtain ⟨z, ez, rfl⟩ := vN_at hv
      have zne : z ≠ [] := fun e => by
        have := (wn z (List.mem_of_getElem? ez)).1
        rw [e] at this
        exact absurd this (by decide)
      refine ⟨_, rfl, x, dx, _, rfl, s6 _ _ hp, lc _ (by decide +kernel), _, rfl, _, rfl, x, g, z, rfl, fun H7 t e i nt s7 h1 h2 h3 => ?_⟩
      rw [if_neg zne] at h3
      refine ⟨_, rfl, (show (1 : Nat) ≤ sizeLine by decide), fun a1 na1 => ⟨(show (2 : Nat) ≤ sizeLine by decide), fun a2 na2 => ⟨(show (1 : Nat) ≤ sizeLine by decide), fun a3 na3 => ?_⟩⟩⟩
      have t1 := same_upd (o := .tup [vN z]) na1
      have t2 := same_upd (o := .tup [V.ref a1, .int 0]) na2
      have t3 := same_upd (o := .lst [V.ref a2]) na3
      have t13 := t1.trans (t2.trans t3)
      exact ⟨_, _, rfl, eq_lets (t13 _ _ h1) upd_same (t13 _ _ h2) (t3 _ _ upd_same) (t13 _ _ h3) (t3 _ _ (t2 _ _ upd_same)) (Nat.le_refl 1) (flat_nms [z]), _, rfl, iteF ⟨_, rfl, s6.trans (s7.trans t13)⟩⟩
    · rintro σ H6 ⟨y3, rfl, s6⟩
      refine ⟨_, rfl, x, dx, _, rfl, s6 _ _ hp, lc _ (by decide +kernel), _, rfl, rfl, x, g, [], rfl, fun H7 t e i nt s7 h1 h2 h3 => ?_⟩
      refine ⟨Nat.zero_le _, fun a1 na1 => ⟨(show (2 : Nat) ≤ sizeLine by decide), fun a2 na2 => ⟨(show (1 : Nat) ≤ sizeLine by decide), fun a3 na3 => ?_⟩⟩⟩
      have t1 := same_upd (o := .tup []) na1
      have t2 := same_upd (o := .tup [V.ref a1, .int 0]) na2
      have t3 := same_upd (o := .lst [V.ref a2]) na3
      have t13 := t1.trans (t2.trans t3)
      exact ⟨_, _, rfl, eq_lets (t13 _ _ h1) upd_same (t13 _ _ h2) (t3 _ _ upd_same) (t13 _ _ h3) (t3 _ _ (t2 _ _ upd_same)) (Nat.zero_le 1) (flat_nms []), q _ (s6.trans (s7.trans t13))⟩
def spSpoilL (K : PySem.W.Frag) (C CL CT CP : Addr) : Sp := fun vs H Q _ => ∃ (x g fr : Addr) (zs kb : List Nam) (ts : List Tie) (n : Nam) (ds : List BidD) (fl : List Nam) (hb : Bool) (ws : List Nam), vs = [.ref x, .ref g, .ref fr] ∧ RuAt K C CL CT H x zs kb ts ∧ PgAt CP H g n ds fl hb ∧ ds.length ≤ 400 ∧ H fr = some (.lst (ws.map vN)) ∧ ws.length ≤ 4 ∧ ∀ H', Same H H' → Q .non H'
theorem ok_L_spoil {f C CL CT CP gm gl : Addr} {fd fdm fdl : FuncData} (F : Fun K "_law_spoil" "_law_spoil" s_L_spoil f fd) (T : TxtRu K C)
    (Me_moves : Meth K C "moves" gm) (G_moves : FnOk P w K mg base CX0 2 gm fdm ["self", "page"] (spMoves K C CL CT CP)) (b_moves : Binds K fdm ["self", "page"] [])
    (Me_lets : Meth K C "lets" gl) (G_lets : FnOk P w K mg base CX0 1 gl fdl ["self", "page", "move"] spLets) (b_lets : Binds K fdl ["self", "page", "move"] []) :
    FnOk P w K mg base CX0 3 f fd ["_law_rule", "_law_sheet", "_law_free_here"] (spSpoilL K C CL CT CP) := by
  refine F.ok sc_L_spoil (fun vs H Q E h => ?_) (fun cdv A outer s H vs Q E hr h => ?_)
  · obtain ⟨x, g, fr, zs, kb, ts, n, ds, fl, hb, ws, rfl, _⟩ := h
    rfl
  · obtain ⟨x, g, fr, zs, kb, ts, n, ds, fl, hb, ws, rfl, ru, pg, l400, hF, w4, q⟩ := h
    refine ⟨_, (pss_cons (ps_set (i := 3) sc_L_spoil.nd rfl (.inl rfl) (pe_meth (pv 0) T.cl Me_moves G_moves (hr.mono (by decide)) b_moves .nil pass0 (pa_cons (pv 1) pa_nil)))
  (pss_cons (ps_expr (pe_bm0 PySem.F.plainAttrs_list PySem.F.slot_list_reverse PySem.F.type_list_reverse mt_reverse (pv 3)))
  (pss_cons (ps_expr (pe_bm PySem.F.plainAttrs_list PySem.F.slot_list_append PySem.F.type_list_append mt_append (pv 3) (pa_cons pe_str pa_nil)))
  (pss_one (ps_for PassesOwn.never rfl (pi_list (pe_op op_cat (pv 2) (pe_lst (pa_cons pe_str pa_nil)))) (pg_name (i := 4) sc_L_spoil.nd rfl (.inl rfl))
    (pss_cons (ps_set (i := 5) sc_L_spoil.nd rfl (.inl rfl) (pe_meth (pv 0) T.cl Me_lets G_lets (hr.mono (by decide)) b_lets .nil pass0 (pa_cons (pv 1) (pa_cons (pv 4) pa_nil))))
  (pss_cons (ps_expr (pe_bm PySem.F.plainAttrs_list PySem.F.slot_list_append PySem.F.type_list_append mt_append (pv 5) (pa_cons (pe_tup (pa_cons (pe_tup (pa_cons pe_str pa_nil)) (pa_cons pe_int pa_nil))) pa_nil)))
  (pss_one (ps_expr (pe_bm0 PySem.F.plainAttrs_list PySem.F.slot_list_reverse PySem.F.type_list_reverse mt_reverse (pv 5))))))))))), ?_⟩
    obtain ⟨dx, fs, hp, lc⟩ := ru.here
    have cl : (candN ds kb).length ≤ 400 := Nat.le_trans (List.length_filter_le _ _) (by rw [List.length_map]; exact l400)
    refine ⟨_, rfl, x, dx, _, rfl, hp, lc _ (by decide +kernel), _, rfl, x, g, zs, kb, ts, n, ds, fl, hb, rfl, ru, pg, by omega, fun H1 t nt s1 et => ?_⟩
    have xl : ((candN ds kb ++ [[]]).map vN).length ≤ 401 := by rw [List.length_map, List.length_append]; show _ + 1 ≤ 401; omega
    refine ⟨_, rfl, .inl ⟨rfl, _, lstAt et⟩, _, _, rfl, rfl, et, ?_⟩
    have k2 := same_at (o := .lst ((candN ds kb ++ [[]]).map vN).reverse) s1 nt
    have e2 := upd_same (H := H1) (a := t) (o := .lst ((candN ds kb ++ [[]]).map vN).reverse)
    have rl : ((candN ds kb ++ [[]]).map vN).reverse.length ≤ 401 := by rw [List.length_reverse]; exact xl
    generalize ((candN ds kb ++ [[]]).map vN).reverse = xs at k2 e2 rl ⊢
    generalize upd H1 t (.lst xs) = H2 at k2 e2 ⊢
    refine ⟨_, rfl, .inl ⟨rfl, _, lstAt e2⟩, _, _, _, rfl, rfl, e2, small1000 (by omega), ?_⟩
    have k3 := same_at (o := .lst (xs ++ [V.str (Str.ofString "spoilt")])) k2 nt
    generalize upd H2 t (.lst (xs ++ [V.str (Str.ofString "spoilt")])) = H3 at k3 ⊢
    refine ⟨_, rfl, (show (1 : Nat) ≤ sizeLine by decide), fun n1 nn1 => ?_⟩
    have s4 := k3.trans (same_upd (o := .lst [V.str (Str.ofString "")]) nn1)
    have e4 := upd_same (H := H3) (a := n1) (o := .lst [V.str (Str.ofString "")])
    generalize upd H3 n1 (.lst [V.str (Str.ofString "")]) = H4 at s4 e4 ⊢
    refine ⟨_, _, _, _, rfl, rfl, s4 _ _ hF, e4, Nat.le_of_lt (small1000 (by rw [List.length_map]; show ws.length + 1 ≤ 1000; omega)), fun n2 nn2 => ?_⟩
    have ev : ws.map vN ++ [V.str (Str.ofString "")] = (ws ++ [[]]).map vN := by rw [List.map_append]; rfl
    rw [ev]
    have s5 := s4.trans (same_upd (o := .lst ((ws ++ [[]]).map vN)) nn2)
    have e5 := upd_same (H := H4) (a := n2) (o := .lst ((ws ++ [[]]).map vN))
    generalize upd H4 n2 (.lst ((ws ++ [[]]).map vN)) = H5 at s5 e5 ⊢
    refine ⟨n2, rfl, ⟨_, lstAt e5⟩, for_list (K := K) (a := n2) (xs := (ws ++ [[]]).map vN) (fun i σ H' => ∃ y4 y5 : Option V, σ = [some (.ref x), some (.ref g), some (.ref fr), some (.ref t), y4, y5] ∧ Same H5 H') ⟨_, _, rfl, Same.refl _⟩ (fun i σ H' _ hq => by obtain ⟨_, _, rfl, s⟩ := hq; exact lstAt (s _ _ e5)) ?_ ?_⟩
    · rintro i v σ H6 hv ⟨y4, y5, rfl, s6⟩
      obtain ⟨z, ez, rfl⟩ := vN_at hv
      refine ⟨_, rfl, x, dx, _, rfl, (s5.trans s6) _ _ hp, lc _ (by decide +kernel), _, rfl, _, rfl, x, g, z, rfl, fun H7 u e i nu s7 h1 h2 h3 => ?_⟩
      refine ⟨_, rfl, .inl ⟨rfl, _, lstAt h1⟩, (show (1 : Nat) ≤ sizeLine by decide), fun a1 na1 => ⟨(show (2 : Nat) ≤ sizeLine by decide), fun a2 na2 => ?_⟩⟩
      have t1 := same_upd (o := .tup [V.str (Str.ofString "spoilt")]) na1
      have t2 := same_upd (o := .tup [V.ref a1, .int 5]) na2
      have h8 := t2 _ _ (t1 _ _ h1)
      have t8 := s7.trans (t1.trans t2)
      generalize upd (upd H7 a1 (.tup [V.str (Str.ofString "spoilt")])) a2 (.tup [V.ref a1, .int 5]) = H8 at h8 t8 ⊢
      refine ⟨_, _, _, rfl, rfl, h8, small1000 (n := 1) (by decide), ?_⟩
      have h9 := upd_same (H := H8) (a := u) (o := .lst ([V.ref e] ++ [.ref a2]))
      have t9 := same_at (o := .lst ([V.ref e] ++ [.ref a2])) t8 nu
      generalize upd H8 u (.lst ([V.ref e] ++ [.ref a2])) = H9 at h9 t9 ⊢
      exact ⟨_, rfl, .inl ⟨rfl, _, lstAt h9⟩, _, _, rfl, rfl, h9, _, _, rfl, s6.trans (same_at t9 nu)⟩
    · rintro σ H6 ⟨y4, y5, rfl, s6⟩
      exact q _ (s5.trans s6)
end
end TK

/-! the law -/
namespace TK
open PySem PySem.Spec PyProof.Rows L2
theorem cutk (xs : List V) (k : Nat) : cutV xs none (some (k : Int)) = xs.take k := by
  unfold cutV
  rw [HT.sIx_none, HT.sIx_nat, List.drop_zero, Nat.sub_zero]
  by_cases h : k ≤ xs.length
  · rw [Nat.min_eq_left h]
  · rw [Nat.min_eq_right (by omega), List.take_length, List.take_of_length_le (by omega)]
theorem gTup2r {K : PySem.W.Frag} {i j : Nat} {e : Addr} {x y : V} {σ : L2.St} {H : Hp} {Q : L2.St → Hp → Prop} (he : H e = some (.tup [x, y])) (σ' : L2.St) (hσ : (σ.set i (some x)).set j (some y) = σ') (h : Q σ' H) :
    gTup K 2 (gCons (gName i) (gCons (gName j) gNil)) (.ref e) σ H Q := by
  subst hσ
  exact ⟨_, _, rfl, tupAt he, rfl, _, _, rfl, _, _, rfl, rfl, h⟩
theorem gTup3w {K : PySem.W.Frag} {i j k : Nat} {e : Addr} {x y z : V} {σ : L2.St} {H : Hp} {Q : L2.St → Hp → Prop} (he : H e = some (.tup [x, y, z])) (σ' : L2.St) (hσ : ((σ.set i (some x)).set j (some y)).set k (some z) = σ') (h : Q σ' H) :
    gTup K 3 (gCons (gName i) (gCons (gName j) (gCons (gName k) gNil))) (.ref e) σ H Q := by
  subst hσ
  exact ⟨_, _, rfl, tupAt he, rfl, _, _, rfl, _, _, rfl, _, _, rfl, rfl, h⟩
theorem TL.nl {H H' : Hp} {a : Addr} {xs : List V} (h : TL H a xs) (k : NlKeep H H') : TL H' a xs := h.elim (fun h => .inl (k _ _ h (fun _ => nofun))) (fun ⟨o, h⟩ => .inr ⟨o, k _ _ h (fun _ => nofun)⟩)
theorem ties_nl {H H' : Hp} {es : List Addr} {ts : List Tie} (h : TiesAt H es ts) (k : NlKeep H H') : TiesAt H' es ts := ⟨h.1, fun i e he => by
  obtain ⟨t, h1, h2⟩ := h.2 i e he
  exact ⟨t, h1, k _ _ h2 (fun _ => nofun)⟩⟩
theorem RuN.nl {n : Nat} {K : PySem.W.Frag} {C CL CT : Addr} {H H' : Hp} {p : Addr} {zs kb : List Nam} {ts : List Tie} (h : RuN n K C CL CT H p zs kb ts) (k : NlKeep H H') : RuN n K C CL CT H' p zs kb ts := by
  obtain ⟨dx, m, bt, l, ht, fs, hh, h1, h2, h3, h4, h5, h6, h7, h8, ⟨d, a, b, es, g1, g2, g3, g4⟩, ⟨ts', ⟨e, a', e', kvs, f1, f2, f3, f4⟩, h11⟩, h12⟩ := h
  exact ⟨dx, m, bt, l, ht, fs, hh, k _ _ h1 (fun _ => nofun), h2, h3, h4, h5, h6, h7.nl k, k _ _ h8 (fun _ => nofun), ⟨d, a, b, es, k _ _ g1 (fun _ => nofun), g2.nl k, k _ _ g3 (fun _ => nofun), ties_nl g4 k⟩, ⟨ts', ⟨e, a', e', kvs, k _ _ f1 (fun _ => nofun), f2.nl k, k _ _ f3 (fun _ => nofun), f4⟩, h11⟩, h12⟩
/-- a rule with its barred ones -/
def RlR (K : PySem.W.Frag) (C CL CT : Addr) (zs : List Nam) (R : Addr) : Hp → Addr → List Nam × List Tie → Prop := fun H p d => ∃ (x sh : Addr), H p = some (.tup [.ref x, .ref sh]) ∧ RuAt K C CL CT H x zs (zs.filter fun z => decide (z ∈ d.1)) d.2 ∧ H sh = some (.lst (d.1.map vN)) ∧ sh ≠ R
theorem RlR.same {K : PySem.W.Frag} {C CL CT : Addr} {zs : List Nam} {R : Addr} {H H' : Hp} {p : Addr} {d : List Nam × List Tie} (h : RlR K C CL CT zs R H p d) (s : Same H H') : RlR K C CL CT zs R H' p d := by
  obtain ⟨x, sh, h1, h2, h3, h4⟩ := h
  exact ⟨x, sh, s _ _ h1, h2.same s, s _ _ h3, h4⟩
theorem RlR.wr {K : PySem.W.Frag} {C CL CT : Addr} {zs : List Nam} {R : Addr} {H : Hp} {p : Addr} {d : List Nam × List Tie} {xs : List V} {o : HO} (h : RlR K C CL CT zs R H p d) (e : H R = some (.lst xs)) : RlR K C CL CT zs R (upd H R o) p d := by
  obtain ⟨x, sh, h1, h2, h3, h4⟩ := h
  exact ⟨x, sh, nl_wrote e _ _ h1 (fun _ => nofun), h2.nl (nl_wrote e), by rw [upd_ne h4]; exact h3, h4⟩
theorem RwI.same {H0 : Hp} {D : Addr} {H H' : Hp} {p : Addr} {d : PgD} (h : RwI H0 D H p d) (s : Same H H') : RwI H0 D H' p d := by
  obtain ⟨b, f, es, h1, h2, h3, h4, h5⟩ := h
  exact ⟨b, f, es, s _ _ h1, s _ _ h2, h3.same s, s _ _ h4, h5⟩
theorem RwI.fr {H0 : Hp} {D : Addr} {H H' : Hp} {p q C dx : Addr} {fs : List (Str × V)} {d : PgD} (h : RwI H0 D H p d) (hq : H q = some (.ins C dx fs)) (s : SameP q H H') : RwI H0 D H' p d := by
  obtain ⟨b, f, es, h1, h2, h3, h4, h5⟩ := h
  exact ⟨b, f, es, s _ _ h1 (ne_of h1 hq nofun), s _ _ h2 (ne_of h2 hq nofun), bids_frame h3 hq s, s _ _ h4 (ne_of h4 hq nofun), h5⟩
section
variable {P : Program} {w : World} {K : PySem.W.Frag} {mg : Str → Option Value} {base : Heap}
def spLaw (K : PySem.W.Frag) : Sp := fun vs H Q _ => ∃ (a : Addr) (ns : List Int), vs = [.ref a] ∧ SqL K H a (ns.map V.int) ∧ ns.length ≤ 63 ∧ ∀ H', Q (.bl true) H'
theorem ok_law {f C CL CT CB CP fB gp gi : Addr} {fd fdB fdp : FuncData} (F : Fun K "law" "law" s_law f fd) (m_range : mg "range" = none) (m_list : mg "list" = none) (m_len : mg "len" = none)
    (M_Book : Mk K CB fB) (G_Book : FnOk P w K mg base CX0 4 fB fdB ["self", "members", "pages", "starts", "home"] (spInitBk K CB CP)) (mg_Book : mg "Book" = some (.ref CB)) {g1 : List Value → List Value → List Value} (kb_Book : KBn K fdB ["self", "members", "pages", "starts", "home"] 4 ["home"] g1 (fun vs zs => vs ++ zs))
    (T : TxtBk K CB) (Me_page : Meth K CB "page" gp) (G_page : FnOk P w K mg base CX0 1 gp fdp ["self", "name"] (spPage CB CP)) (b_page : Binds K fdp ["self", "name"] []) (O_Book_iter : Own K CB "__iter__" gi) (I_Book : FnIt P w K mg base 1 gi (RBk K CB))
    (d_L_cell : Def P w K mg base "_law_cell" 1 ["_law_script", "_law_k"] (spCellA K)) (d_L_pool : Def P w K mg base "_law_pool" 2 ["_law_cell_here", "_law_number"] spPool)
    (d_L_part : Def P w K mg base "_law_part" 1 ["_law_pool_here", "_law_spot", "_law_under", "_law_size"] (spPart K)) (d_L_names : Def P w K mg base "_law_names" 2 ["_law_pool_here", "_law_spot", "_law_number"] (spNames K))
    (d_L_rows : Def P w K mg base "_law_rows" 4 ["_law_head", "_law_members", "_law_titles"] (spRowsL K)) (d_L_turn_rule : Def P w K mg base "_law_turn_rule" 11 ["_law_pool_here", "_law_name", "_law_members"] (spTurnL K C CL CT))
    (d_L_free : Def P w K mg base "_law_free" 1 ["_law_row", "_law_members", "_law_shut"] (spFreeL K)) (d_L_tells : Def P w K mg base "_law_tells" 6 ["_law_rule", "_law_sheet", "_law_free_here"] (spTellsL K C CL CT CP)) (d_L_spoil : Def P w K mg base "_law_spoil" 3 ["_law_rule", "_law_sheet", "_law_free_here"] (spSpoilL K C CL CT CP)) :
    FnOk P w K mg base CX0 12 f fd ["_law_script"] (spLaw K) := by
  refine F.ok sc_law (fun vs H Q E h => ?_) (fun cdv A outer s H vs Q E hr h => ?_)
  · obtain ⟨a, ns, rfl, _⟩ := h
    rfl
  · obtain ⟨a, ns, rfl, hS, hlen, q⟩ := h
    refine ⟨_, (pss_cons (ps_set (i := 1) sc_law.nd rfl (.inl rfl) (pe_callD d_L_pool (hr.mono (by decide)) (by rfl) (pa_cons (pe_callD d_L_cell (hr.mono (by decide)) (by rfl) (pa_cons (pv 0) (pa_cons pe_int pa_nil))) (pa_cons pe_int pa_nil))))
  (pss_cons (ps_set (i := 2) sc_law.nd rfl (.inr rfl) (pe_callD d_L_names (hr.mono (by decide)) (by rfl) (pa_cons (pv 1) (pa_cons pe_int (pa_cons (pe_op op_add pe_int (pe_callD d_L_part (hr.mono (by decide)) (by rfl) (pa_cons (pv 1) (pa_cons pe_int (pa_cons pe_int (pa_cons pe_int pa_nil)))))) pa_nil)))))
  (pss_cons (ps_set (i := 3) sc_law.nd rfl (.inr rfl) (pe_callD d_L_names (hr.mono (by decide)) (by rfl) (pa_cons (pv 1) (pa_cons pe_int (pa_cons (pe_op op_add pe_int (pe_callD d_L_part (hr.mono (by decide)) (by rfl) (pa_cons (pv 1) (pa_cons pe_int (pa_cons pe_int (pa_cons pe_int pa_nil)))))) pa_nil)))))
  (pss_cons (ps_set (i := 4) sc_law.nd rfl (.inl rfl) (pe_callD d_L_rows (hr.mono (by decide)) (by rfl) (pa_cons (pv 1) (pa_cons (pv 2) (pa_cons (pv 3) pa_nil)))))
  (pss_cons (ps_set (i := 5) sc_law.nd rfl (.inl rfl) (pe_slice sl_list (pv 3) po_none (po_some (pe_callD d_L_part (hr.mono (by decide)) (by rfl) (pa_cons (pv 1) (pa_cons pe_int (pa_cons pe_int (pa_cons pe_int pa_nil))))))))
  (pss_cons (ps_set (i := 6) sc_law.nd rfl (.inl rfl) (pe_makeK M_Book G_Book (hr.mono (by decide)) (by rfl) mg_Book kb_Book pass0 (pa_cons (pe_callTy call_list_of (by rfl) m_list (by decide +kernel) (pa_cons (pv 2) pa_nil)) (pa_cons (pe_lc (own := [("_law_title", 14), ("_law_bids", 15), ("_law_after", 16)]) (by rfl) sc_law.nd (pi_list (pv 4)) (blkOk_by (N := ["_law_script", "_law_head", "_law_members", "_law_titles", "_law_rows_here", "_law_homes", "_law_book", "_law_rules", "_law_turn", "_law_row", "_law_sheet", "_law_rule", "_law_shut", "_law_spot", "_law_title", "_law_bids", "_law_after", "_law_k"]) (sc := defScope s_law) (by decide +kernel)) (fun _ _ _ _ _ => (pg_tupK (K := K) (n := 3) rfl (by rfl) (pgs_cons (pg_name (i := 14) sc_law.nd rfl (.inl rfl)) (pgs_cons (pg_name (i := 15) sc_law.nd rfl (.inl rfl)) (pgs_cons (pg_name (i := 16) sc_law.nd rfl (.inl rfl)) pgs_nil))))) (fun _ _ _ _ _ => pts_nil) (fun _ _ _ _ _ => (pe_tup (pa_cons (pv 14) (pa_cons (pe_callTy (call_list_ofK (K := K) rfl) (by rfl) m_list (by decide +kernel) (pa_cons (pv 15) pa_nil)) (pa_cons (pe_callTy (call_list_ofK (K := K) rfl) (by rfl) m_list (by decide +kernel) (pa_cons (pv 16) pa_nil)) pa_nil)))))) (pa_cons (pe_callTy call_list_of (by rfl) m_list (by decide +kernel) (pa_cons (pv 3) pa_nil)) pa_nil))) (pk_cons (pv 5) pk_nil)))
  (pss_cons (ps_setLc (i := 7) (own := [("_law_k", 17)]) (by rfl) sc_law.nd rfl rfl (sw_true rfl rfl rfl (by decide +kernel)) (pi_range1 (by rfl) m_range (pa_cons pe_int pa_nil)) (blkOk_by (N := ["_law_script", "_law_head", "_law_members", "_law_titles", "_law_rows_here", "_law_homes", "_law_book", "_law_rules", "_law_turn", "_law_row", "_law_sheet", "_law_rule", "_law_shut", "_law_spot", "_law_title", "_law_bids", "_law_after", "_law_k"]) (sc := defScope s_law) (by decide +kernel)) (fun _ _ _ _ _ => (pg_name (i := 17) sc_law.nd rfl (.inl rfl))) (fun _ _ _ _ _ => pts_nil) (fun _ _ _ _ _ => (pe_callD d_L_turn_rule (hr.mono (by decide)) (by rfl) (pa_cons (pe_callD d_L_pool (hr.mono (by decide)) (by rfl) (pa_cons (pe_callD d_L_cell (hr.mono (by decide)) (by rfl) (pa_cons (pv 0) (pa_cons (pe_op op_add pe_int (pv 17)) pa_nil))) (pa_cons pe_int pa_nil))) (pa_cons (pe_ix (ix_listK (K := K) rfl) (pv 3) pe_int (fun _ _ => rfl)) (pa_cons (pv 2) pa_nil))))))
  (pss_cons (ps_for PassesOwn.never rfl (pi_range1 (by rfl) m_range (pa_cons pe_int pa_nil)) (pg_name (i := 8) sc_law.nd rfl (.inl rfl))
    (pss_one (ps_for PassesOwn.never rfl (pi_list (pv 4)) (pg_name (i := 9) sc_law.nd rfl (.inl rfl))
    (pss_cons (ps_set (i := 10) sc_law.nd rfl (.inl rfl) (pe_meth (pv 6) T.cl Me_page G_page (hr.mono (by decide)) b_page .nil pass0 (pa_cons (pe_ix ix_tup (pv 9) pe_int (fun _ _ => rfl)) pa_nil)))
  (pss_one (ps_for PassesOwn.never rfl (pi_list (pv 7)) (pg_tup (by rfl) (pgs_cons (pg_name (i := 11) sc_law.nd rfl (.inl rfl)) (pgs_cons (pg_name (i := 12) sc_law.nd rfl (.inl rfl)) pgs_nil)))
    (pss_cons (ps_if (pt_not (pt_val (pe_callD d_L_tells (hr.mono (by decide)) (by rfl) (pa_cons (pv 11) (pa_cons (pv 10) (pa_cons (pe_callD d_L_free (hr.mono (by decide)) (by rfl) (pa_cons (pv 9) (pa_cons (pv 2) (pa_cons (pv 12) pa_nil)))) pa_nil)))))) (pss_one (ps_ret pe_bl)) pss_nil)
  (pss_one (ps_expr (pe_callD d_L_spoil (hr.mono (by decide)) (by rfl) (pa_cons (pv 11) (pa_cons (pv 10) (pa_cons (pe_callD d_L_free (hr.mono (by decide)) (by rfl) (pa_cons (pv 9) (pa_cons (pv 2) (pa_cons (pv 12) pa_nil)))) pa_nil)))))))))))))
  (pss_cons (ps_set (i := 13) sc_law.nd rfl (.inl rfl) pe_int)
  (pss_cons (ps_for PassesOwn.never rfl (pi_own O_Book_iter I_Book (hr.mono (by decide)) (pv 6)) (pg_name (i := 10) sc_law.nd rfl (.inl rfl))
    (pss_cons (ps_for PassesOwn.never rfl (pi_list (pv 7)) (pg_tup (by rfl) (pgs_cons (pg_name (i := 11) sc_law.nd rfl (.inl rfl)) (pgs_cons (pg_name (i := 12) sc_law.nd rfl (.inl rfl)) pgs_nil)))
    (pss_one (ps_if (PW.pt (pw_or (pt_cmpR op_ge (pv 13) (pe_callB call_len_seq (by rfl) m_len (by decide +kernel) (pa_cons (pv 4) pa_nil)) (nomark _)) (pw_or1 (pt_not (pt_val (pe_callD d_L_tells (hr.mono (by decide)) (by rfl) (pa_cons (pv 11) (pa_cons (pv 10) (pa_cons (pe_callD d_L_free (hr.mono (by decide)) (by rfl) (pa_cons (pe_ix ix_list (pv 4) (pv 13) (fun _ _ => rfl)) (pa_cons (pv 2) (pa_cons (pv 12) pa_nil)))) pa_nil))))))))) (pss_one (ps_ret pe_bl)) pss_nil)))
  (pss_one (ps_set (i := 13) sc_law.nd rfl (.inl rfl) (pe_op op_add (pv 13) pe_int)))))
  (pss_one (ps_ret (pe_cmpR op_eq (pv 13) (pe_callB call_len_seq (by rfl) m_len (by decide +kernel) (pa_cons (pv 4) pa_nil)) (nomark _)))))))))))))), ?_⟩
    refine ⟨_, rfl, a, ns, 0, rfl, hS, by decide, by decide, by omega, fun c1 => ⟨c1, 30, rfl, by decide, by decide, fun p1 ns1 np1 l1 o1 => ?_⟩⟩
    have s1 : Same H (upd H p1 (.lst (ns1.map V.int))) := same_upd np1
    have e1 := upd_same (H := H) (a := p1) (o := .lst (ns1.map V.int))
    generalize upd H p1 (.lst (ns1.map V.int)) = H1 at s1 e1 ⊢
    -- the members
    have u0 := part_lo (ns := ns1) (s := 5) (u := 1) (z := 4) (by decide)
    have u1 := part_hi (ns := ns1) (s := 5) (u := 1) (z := 4) (by decide)
    refine ⟨_, rfl, _, rfl, p1, ns1, 5, 1, 4, rfl, lstAt e1, by decide, by omega, by decide, by decide, by decide, _, _, rfl, rfl, p1, ns1, 0, _, rfl, lstAt e1, by decide, by omega, by omega, by omega, fun c zs nc lz zn nz => ?_⟩
    have s2 := s1.trans (same_upd (o := .lst (zs.map vN)) nc)
    have ec := upd_same (H := H1) (a := c) (o := .lst (zs.map vN))
    have e1 := (same_upd (o := .lst (zs.map vN)) nc) _ _ e1
    generalize upd H1 c (.lst (zs.map vN)) = H2 at s2 ec e1 ⊢
    have z1 : 1 ≤ zs.length := by omega
    have z4 : zs.length ≤ 4 := by omega
    -- the titles
    have v0 := part_lo (ns := ns1) (s := 5) (u := 4) (z := 4) (by decide)
    have v1 := part_hi (ns := ns1) (s := 5) (u := 4) (z := 4) (by decide)
    refine ⟨_, rfl, _, rfl, p1, ns1, 5, 4, 4, rfl, lstAt e1, by decide, by omega, by decide, by decide, by decide, _, _, rfl, rfl, p1, ns1, 6, _, rfl, lstAt e1, by decide, by omega, by omega, by omega, fun t ts nt lt tn ntd => ?_⟩
    have s3 := s2.trans (same_upd (o := .lst (ts.map vN)) nt)
    have et := upd_same (H := H2) (a := t) (o := .lst (ts.map vN))
    have e1 := (same_upd (o := .lst (ts.map vN)) nt) _ _ e1
    have ec := (same_upd (o := .lst (ts.map vN)) nt) _ _ ec
    generalize upd H2 t (.lst (ts.map vN)) = H3 at s3 ec e1 et ⊢
    have t1 : 1 ≤ ts.length := by omega
    have t4 : ts.length ≤ 4 := by omega
    -- the rows
    refine ⟨_, rfl, _, rfl, _, rfl, p1, c, t, ns1, zs, ts, rfl, lstAt e1, by omega, lstAt ec, lstAt et, z4, t4, nz, ntd, tn, fun H4 D ps ds nD s4 eD hR ok => ?_⟩
    have s34 := s3.trans s4
    have e1 := s4 _ _ e1
    have ec := s4 _ _ ec
    have et := s4 _ _ et
    clear s3 s4 s2 s1 nt nc np1
    have d1 : ds.length = ts.length := by rw [← ok.nm, List.length_map]
    have pok : POk zs ds := ⟨by omega, by omega, fun d md => tn _ (by rw [← ok.nm]; exact List.mem_map.mpr ⟨d, md, rfl⟩), by rw [ok.nm]; exact ntd, ok.b, fun d md => by have := ok.bl d md; omega, ok.f, fun d md => by rw [ok.nm]; exact ok.fs d md, fun d md => by have := ok.fl d md; omega⟩
    -- the home pages
    obtain ⟨k, hk⟩ : ∃ k : Nat, partOf ns1 28 1 3 = (k : Int) := ⟨(partOf ns1 28 1 3).toNat, (Int.toNat_of_nonneg (part_lo (by decide))).symm⟩
    refine ⟨_, rfl, _, rfl, p1, ns1, 28, 1, 3, rfl, lstAt e1, by decide, by omega, by decide, by decide, by decide, _, rfl, t, _, rfl, lstAt et, fun hm nhm => ?_⟩
    rw [hk, cutk, ← List.map_take]
    have s5 := s34.trans (same_upd (o := .lst ((ts.take k).map vN)) nhm)
    have s45 := same_upd (o := .lst ((ts.take k).map vN)) nhm
    have eh := upd_same (H := H4) (a := hm) (o := .lst ((ts.take k).map vN))
    generalize upd H4 hm (.lst ((ts.take k).map vN)) = H5 at s5 s45 eh ⊢
    have ec := s45 _ _ ec
    have et := s45 _ _ et
    have eD := s45 _ _ eD
    have hR := hR.mono fun _ _ k => k.same s45
    clear s34 s45 hk nhm
    -- the book
    refine ⟨_, rfl, c, _, rfl, .inl (lstAt ec), fun c2 nc2 => ?_⟩
    have s6 := same_upd (o := .lst (zs.map vN)) nc2
    have ec2 := upd_same (H := H5) (a := c2) (o := .lst (zs.map vN))
    generalize upd H5 c2 (.lst (zs.map vN)) = H6 at s6 ec2 ⊢
    have hR6 := hR.mono fun _ _ k => k.same s6
    have eD6 := s6 _ _ eD
    refine ⟨_, rfl, D, rfl, ⟨_, lstAt eD6⟩, fun L nL => ?_⟩
    refine lc_list (K := K) (a := D) (xs := ps.map V.ref) (fun i H' => ∃ qs : List Addr, Same H6 H' ∧ H' L = some (.lst (qs.map V.ref)) ∧ AllAt (RwI H6 L) H' qs (ds.take i)) ⟨[], same_upd nL, upd_same, .nil⟩ (fun i H' _ hq => by obtain ⟨_, s, _⟩ := hq; exact s.seq (lstAt eD6)) (fun i v H' hv hq => ?_) (fun H7 hq => ?_)
    · obtain ⟨qs, s7, eL, hQ⟩ := hq
      obtain ⟨p, d, rfl, ed, hd⟩ := all_at (hR6.mono fun _ _ k => k.same s7) hv
      obtain ⟨b, f, es, h1, h2, h3, h4, _⟩ := hd
      have hi := (List.getElem?_eq_some_iff.mp ed).1
      have md := List.mem_of_getElem? ed
      have ql : qs.length = i := by rw [hQ.1, List.length_take]; omega
      refine gTup3w h1 [some (.ref a), some (.ref p1), some (.ref c), some (.ref t), some (.ref D), some (.ref hm), none, none, none, none, none, none, none, none, some (vN d.nm), some (.ref b), some (.ref f), none] (by simp [wipe, L2.start]) ?_
      refine ⟨rfl, yesT ⟨_, rfl, _, rfl, b, _, rfl, .inl (lstAt h2), fun b2 nb2 => ?_⟩⟩
      have g1 := same_upd (o := .lst (es.map V.ref)) nb2
      have eb2 := upd_same (H := H') (a := b2) (o := .lst (es.map V.ref))
      generalize upd H' b2 (.lst (es.map V.ref)) = H8 at g1 eb2 ⊢
      refine ⟨_, rfl, f, _, rfl, .inl (lstAt (g1 _ _ h4)), fun f2 nf2 => ?_⟩
      have g2 := same_upd (o := .lst (d.fol.map vN)) nf2
      have ef2 := upd_same (H := H8) (a := f2) (o := .lst (d.fol.map vN))
      generalize upd H8 f2 (.lst (d.fol.map vN)) = H9 at g2 ef2 ⊢
      refine ⟨(show (3 : Nat) ≤ sizeLine by decide), fun g ng => ?_⟩
      have g3 := same_upd (o := .tup [vN d.nm, .ref b2, .ref f2]) ng
      have eg := upd_same (H := H9) (a := g) (o := .tup [vN d.nm, .ref b2, .ref f2])
      generalize upd H9 g (.tup [vN d.nm, .ref b2, .ref f2]) = H10 at g3 eg ⊢
      have g13 := g1.trans (g2.trans g3)
      have eL10 := g13 _ _ eL
      have gd : RwI H6 L H10 g d := ⟨b2, f2, es, eg, (g2.trans g3) _ _ eb2, h3.same g13, g3 _ _ ef2, (ne_of_none eL nb2).symm, (ne_of_none (g1 _ _ eL) nf2).symm, none_of s7 nb2, none_of (s7.trans g1) nf2⟩
      have kL : ∀ c o, H10 c = some o → c ≠ L → (upd H10 L (.lst (qs.map V.ref ++ [.ref g]))) c = some o := fun c o e n => by rw [upd_ne n]; exact e
      refine ⟨_, eL10, by rw [List.length_map, ql]; exact small1000 (by omega), qs ++ [g], same_at (s7.trans g13) nL, by rw [upd_same, List.map_append]; rfl, ?_⟩
      rw [List.take_add_one, ed]
      exact ((hQ.mono fun _ _ k => k.same g13).app (.one gd)).mono fun _ _ k => k.go ⟨_, eL10⟩ kL
    obtain ⟨qs, s7, eL, hQ⟩ := hq
    rw [List.length_map, hR.1, List.take_length] at hQ
    have s67 := s6.trans s7
    have ec := s67 _ _ ec
    have et := s67 _ _ et
    have eD := s67 _ _ eD
    have eh := s67 _ _ eh
    have hR := hR.mono fun _ _ k => k.same s67
    have ec2 := s7 _ _ ec2
    have s7' := s5.trans s67
    clear hR6 eD6 s6 s7 s5 nc2 nL s67
    refine ⟨_, rfl, t, _, rfl, .inl (lstAt et), fun t2 nt2 => ?_⟩
    have s8 := same_upd (o := .lst (ts.map vN)) nt2
    have et2 := upd_same (H := H7) (a := t2) (o := .lst (ts.map vN))
    generalize upd H7 t2 (.lst (ts.map vN)) = H8 at s8 et2 ⊢
    refine ⟨_, rfl, rfl, rfl, fun x dx nx ndx nex => ?_⟩
    have sdx := same_upd (o := .own x) ndx
    have nxx : (upd H8 dx (.own x)) x = none := by rw [upd_ne nex.symm]; exact nx
    have sx := sdx.trans (same_upd (o := .ins CB dx []) nxx)
    have s8x := s8.trans sx
    have pgs : PgsIn K (upd (upd H8 dx (.own x)) x (.ins CB dx [])) qs ds := ⟨hQ.1, fun i p e => by
      obtain ⟨d, a1, b, f, es, a2, a3, a4, a5, _⟩ := hQ.2 i p e
      exact ⟨d, a1, b, f, es, s8x _ _ a2, lstAt (s8x _ _ a3), a4.same s8x, lstAt (s8x _ _ a5)⟩⟩
    refine ⟨x, c2, L, t2, hm, dx, zs, ts, ts.take k, qs, ds, rfl, upd_same, ⟨lstAt (s8x _ _ ec2), lstAt (s8x _ _ eL), pgs, lstAt (sx _ _ et2), lstAt (s8x _ _ eh)⟩, z1, z4, zn, nz, pok, (fun e => by rw [e] at t1; exact absurd t1 (by decide)), ntd, (fun y m => by rw [ok.nm]; exact m), (List.take_sublist _ _).nodup ntd, (fun y m => by rw [ok.nm]; exact (List.take_sublist _ _).subset m), fun H9 bk sp => ⟨rfl, ?_⟩⟩
    generalize ((ds.map (·.nm)).filter fun n => decide (n ∈ ts.take k)) = hs at bk
    have s79 : Same H7 H9 := fun y o e => sp y o (s8x _ _ e) (ne_of_none (s8 _ _ e) nx)
    have ec := s79 _ _ ec
    have et := s79 _ _ et
    have eD := s79 _ _ eD
    have hR := hR.mono fun _ _ k => k.same s79
    have s9 := s7'.trans s79
    clear pgs s8x sx nxx sdx nx ndx nex s8 et2 nt2 hQ eL ec2 eh s79 sp s7'
    -- the rules
    obtain ⟨nm0, _, mx, ax⟩ := nm_getC (zs := ts) (i := 0) (by decide) (by omega)
    have hnx := tn nm0 mx
    refine ⟨3, rfl, by decide, by decide, fun R nR => ?_⟩
    refine lc_range (fun i H' => ∃ (rs : List Addr) (ks : List (List Nam × List Tie)), rs.length = i ∧ Same H9 H' ∧ H' R = some (.lst (rs.map V.ref)) ∧ AllAt (RlR K C CL CT zs R) H' rs ks) ⟨[], [], rfl, same_upd nR, upd_same, .nil⟩ (fun i H' hi hq => ?_) (fun H10 hq => ?_)
    · obtain ⟨rs, ks, rl, s10, eR, hL⟩ := hq
      refine ⟨rfl, yesT ⟨_, rfl, _, rfl, _, _, rfl, rfl, a, ns, _, rfl, (s9.trans s10).seq hS, by omega, by omega, by omega, fun c3 => ⟨c3, 6, rfl, by decide, by decide, fun p3 ns3 np3 l3 o3 => ?_⟩⟩⟩
      have g1 := same_upd (o := .lst (ns3.map V.int)) np3
      have ep3 := upd_same (H := H') (a := p3) (o := .lst (ns3.map V.int))
      generalize upd H' p3 (.lst (ns3.map V.int)) = H11 at g1 ep3 ⊢
      have g10 := s10.trans g1
      refine ⟨_, rfl, _, _, _, _, rfl, rfl, lstAt (g10 _ _ et), ax, _, rfl, p3, c, ns3, nm0, zs, rfl, lstAt ep3, by omega, hnx, lstAt (g10 _ _ ec), z1, z4, zn, nz, fun H12 u y sh kb tb s12 eu ru esh nsh => ?_⟩
      have g12 := g1.trans s12
      have eR12 := g12 _ _ eR
      have gd : RlR K C CL CT zs R H12 u (kb, tb) := ⟨y, sh, eu, ru, esh, (ne_of_none (g1 _ _ eR) nsh).symm⟩
      refine ⟨_, eR12, by rw [List.length_map, rl]; exact small1000 (by omega), rs ++ [u], ks ++ [(kb, tb)], by rw [List.length_append, rl]; rfl, same_at (s10.trans g12) nR, by rw [upd_same, List.map_append]; rfl, ?_⟩
      exact ((hL.mono fun _ _ k => k.same g12).app (.one gd)).mono fun _ _ k => k.wr eR12
    obtain ⟨rs, ks, rl, s10, eR, hL⟩ := hq
    have ec := s10 _ _ ec
    have et := s10 _ _ et
    have eD := s10 _ _ eD
    have hR := hR.mono fun _ _ k => k.same s10
    have bk := bk.same s10
    clear s9 s10 nR ax hnx mx
    refine ⟨2, rfl, by decide, by decide, for_range (fun i σ H' => ∃ y8 y9 y10 y11 y12 : Option V, σ = [some (.ref a), some (.ref p1), some (.ref c), some (.ref t), some (.ref D), some (.ref hm), some (.ref x), some (.ref R), y8, y9, y10, y11, y12, none, none, none, none, none] ∧ Same H10 H') ⟨_, _, _, _, _, rfl, Same.refl _⟩ ?_ ?_⟩
    · rintro i σ H11 hi ⟨y8, y9, y10, y11, y12, rfl, s11⟩
      refine ⟨_, rfl, D, rfl, ⟨_, lstAt (s11 _ _ eD)⟩, for_list (K := K) (a := D) (xs := ps.map V.ref) (fun j σ H' => ∃ y9 y10 y11 y12 : Option V, σ = [some (.ref a), some (.ref p1), some (.ref c), some (.ref t), some (.ref D), some (.ref hm), some (.ref x), some (.ref R), some (.int (0 + (i : Int))), y9, y10, y11, y12, none, none, none, none, none] ∧ Same H10 H') ⟨_, _, _, _, rfl, s11⟩ (fun j σ H' _ hq => by obtain ⟨_, _, _, _, rfl, s⟩ := hq; exact lstAt (s _ _ eD)) ?_ ?_⟩
      · rintro j v σ H12 hv ⟨y9, y10, y11, y12, rfl, s12⟩
        obtain ⟨e, d, rfl, ed, hd⟩ := all_at hR hv
        obtain ⟨b, f, es, h1, h2, h3, h4, _⟩ := id hd
        have md := List.mem_of_getElem? ed
        have bk12 := bk.same s12
        have bkx := bk12
        obtain ⟨bdx, b1, b2, b3, b4, b5, b6, bo, brs, bqs, hx, _⟩ := bkx
        have en : (ds.map (·.nm))[j]? = some d.nm := by rw [List.getElem?_map, ed]; rfl
        have bl4 := ok.bl d md
        have sl : (sortB zs d.bids).length ≤ 16 := Nat.le_trans sortB_len (Nat.mul_le_mul z4 bl4)
        refine ⟨_, rfl, x, bdx, _, rfl, hx, fldsB_no _ _ _ _ _ _ (by decide +kernel), _, rfl, _, _, 0, vN d.nm, rfl, rfl, tupAt (s12 _ _ h1), rfl, x, d.nm, zs, ts, hs, ds, j, d, rfl, bk12, by rw [ok.nm]; exact ntd, ed, rfl, fun g pg => ?_⟩
        refine ⟨_, rfl, R, rfl, ⟨_, lstAt (s12 _ _ eR)⟩, for_list (K := K) (a := R) (xs := rs.map V.ref) (fun l σ H' => ∃ y11 y12 : Option V, σ = [some (.ref a), some (.ref p1), some (.ref c), some (.ref t), some (.ref D), some (.ref hm), some (.ref x), some (.ref R), some (.int (0 + (i : Int))), some (.ref e), some (.ref g), y11, y12, none, none, none, none, none] ∧ Same H12 H') ⟨_, _, rfl, Same.refl _⟩ (fun l σ H' _ hq => by obtain ⟨_, _, rfl, s⟩ := hq; exact lstAt (s _ _ (s12 _ _ eR))) ?_ ?_⟩
        · rintro l v σ H13 hv ⟨y11, y12, rfl, s13⟩
          obtain ⟨u, kt, rfl, ek, y, sh, eu, ru, esh, _⟩ := all_at hL hv
          have s113 := s12.trans s13
          refine gTup2r (s113 _ _ eu) [some (.ref a), some (.ref p1), some (.ref c), some (.ref t), some (.ref D), some (.ref hm), some (.ref x), some (.ref R), some (.int (0 + (i : Int))), some (.ref e), some (.ref g), some (.ref y), some (.ref sh), none, none, none, none, none] rfl ?_
          have fl4 : (freeN zs d.bids kt.1).length ≤ 4 := Nat.le_trans (freeN_le _ _ _) z4
          refine ⟨_, rfl, _, rfl, _, rfl, _, rfl, _, rfl, e, c, sh, b, f, d.nm, es, d.bids, zs, kt.1, rfl, s113 _ _ h1, s113 _ _ h2, h3.same s113, lstAt (s113 _ _ ec), lstAt (s113 _ _ esh), bl4, z4, zn, fun H14 w1 nw1 s14 ew1 => ?_⟩
          refine ⟨y, g, w1, zs, _, kt.2, d.nm, _, _, _, _, rfl, ru.same (s113.trans s14), pg.same (s13.trans s14), by omega, ew1, (cand_free (ok.b d md).nd).symm, fl4, fun z mz => zn z (List.mem_filter.mp mz).1, fun H15 s15 => ⟨_, rfl, iteF ?_⟩⟩
          have s1315 := s14.trans s15
          have s1215 := s113.trans s1315
          refine ⟨_, rfl, _, rfl, _, rfl, _, rfl, _, rfl, e, c, sh, b, f, d.nm, es, d.bids, zs, kt.1, rfl, s1215 _ _ h1, s1215 _ _ h2, h3.same s1215, lstAt (s1215 _ _ ec), lstAt (s1215 _ _ esh), bl4, z4, zn, fun H16 w2 nw2 s16 ew2 => ?_⟩
          exact ⟨y, g, w2, zs, _, kt.2, d.nm, _, _, _, _, rfl, ru.same (s1215.trans s16), pg.same (s13.trans (s1315.trans s16)), by omega, ew2, fl4, fun H17 s17 => ⟨_, _, rfl, s13.trans (s1315.trans (s16.trans s17))⟩⟩
        · rintro σ H13 ⟨y11, y12, rfl, s13⟩
          exact ⟨_, _, _, _, rfl, s12.trans s13⟩
      · rintro σ H12 ⟨y9, y10, y11, y12, rfl, s12⟩
        exact ⟨_, _, _, _, _, rfl, s12⟩
    rintro σ H11 ⟨y8, y9, y10, y11, y12, rfl, s11⟩
    -- the pages, one behind the other
    have bk11 := bk.same s11
    obtain ⟨bdx, b1, b2, b3, b4, b5, b6, bo, brs, bqs, hx, _, _, _, _, _, _, _, _, hq6, hQ⟩ := bk11
    refine ⟨_, rfl, x, bdx, _, b6, rfl, hx, ⟨bdx, b1, b2, b3, b4, b5, _, hx, tupAt hq6⟩, ⟨_, tupAt hq6⟩, for_tup (K := K) (a := b6) (xs := bqs.map V.ref) (fun j σ H' => ∃ y9 y10 y11 y12 : Option V, σ = [some (.ref a), some (.ref p1), some (.ref c), some (.ref t), some (.ref D), some (.ref hm), some (.ref x), some (.ref R), y8, y9, y10, y11, y12, some (.int (j : Int)), none, none, none, none] ∧ Same H11 H') ⟨_, _, _, _, rfl, Same.refl _⟩ (fun j σ H' _ hq => by obtain ⟨_, _, _, _, rfl, s⟩ := hq; exact tupAt (s _ _ hq6)) ?_ ?_⟩
    · rintro j v σ H12 hv ⟨y9, y10, y11, y12, rfl, s12⟩
      obtain ⟨g, d, rfl, ed, pg, _⟩ := all_at hQ hv
      have md := List.mem_of_getElem? ed
      have hj := (List.getElem?_eq_some_iff.mp ed).1
      have pl : ps.length = ds.length := hR.1
      obtain ⟨e, ee⟩ : ∃ e, ps[j]? = some e := ⟨_, List.getElem?_eq_getElem (by omega)⟩
      obtain ⟨d', ed', hd⟩ := hR.2 j e ee
      cases Option.some.inj (ed.symm.trans ed')
      obtain ⟨b, f, es, h1, h2, h3, h4, _⟩ := hd
      have bl4 := ok.bl d md
      have sl : (sortB zs d.bids).length ≤ 16 := Nat.le_trans sortB_len (Nat.mul_le_mul z4 bl4)
      have s012 := s11.trans s12
      refine ⟨_, rfl, R, rfl, ⟨_, lstAt (s012 _ _ eR)⟩, for_list (K := K) (a := R) (xs := rs.map V.ref) (fun l σ H' => ∃ y11 y12 : Option V, σ = [some (.ref a), some (.ref p1), some (.ref c), some (.ref t), some (.ref D), some (.ref hm), some (.ref x), some (.ref R), y8, y9, some (.ref g), y11, y12, some (.int (j : Int)), none, none, none, none] ∧ Same H12 H') ⟨_, _, rfl, Same.refl _⟩ (fun l σ H' _ hq => by obtain ⟨_, _, rfl, s⟩ := hq; exact lstAt (s _ _ (s012 _ _ eR))) ?_ ?_⟩
      · rintro l v σ H13 hv ⟨y11, y12, rfl, s13⟩
        obtain ⟨u, kt, rfl, ek, y, sh, eu, ru, esh, _⟩ := all_at hL hv
        have s113 := s012.trans s13
        refine gTup2r (s113 _ _ eu) [some (.ref a), some (.ref p1), some (.ref c), some (.ref t), some (.ref D), some (.ref hm), some (.ref x), some (.ref R), y8, y9, some (.ref g), some (.ref y), some (.ref sh), some (.int (j : Int)), none, none, none, none] rfl ?_
        have fl4 : (freeN zs d.bids kt.1).length ≤ 4 := Nat.le_trans (freeN_le _ _ _) z4
        refine ⟨_, rfl, _, rfl, _, _, rfl, .inl (lstAt (s113 _ _ eD)), _, _, rfl, rfl, _, rfl, ?_⟩
        rw [decide_eq_false (show ¬ (((ps.map V.ref).length : Nat) : Int) ≤ (j : Int) by rw [List.length_map]; omega)]
        refine iteF ⟨_, rfl, _, rfl, _, rfl, _, rfl, _, _, _, _, rfl, rfl, lstAt (s113 _ _ eD), atI_nat (by rw [List.getElem?_map, ee]; rfl), _, rfl, _, rfl, e, c, sh, b, f, d.nm, es, d.bids, zs, kt.1, rfl, s113 _ _ h1, s113 _ _ h2, h3.same s113, lstAt (s113 _ _ ec), lstAt (s113 _ _ esh), bl4, z4, zn, fun H14 w1 nw1 s14 ew1 => ?_⟩
        refine ⟨y, g, w1, zs, _, kt.2, d.nm, _, _, _, _, rfl, ru.same (s113.trans s14), pg.same (s12.trans (s13.trans s14)), by omega, ew1, (cand_free (ok.b d md).nd).symm, fl4, fun z mz => zn z (List.mem_filter.mp mz).1, fun H15 s15 => ⟨_, rfl, iteF ?_⟩⟩
        exact ⟨_, _, rfl, s13.trans (s14.trans s15)⟩
      · rintro σ H13 ⟨y11, y12, rfl, s13⟩
        exact ⟨_, rfl, _, _, rfl, rfl, _, _, _, _, rfl, s12.trans s13⟩
    · rintro σ H12 ⟨y9, y10, y11, y12, rfl, s12⟩
      refine ⟨_, rfl, _, rfl, _, _, rfl, .inl (lstAt ((s11.trans s12) _ _ eD)), rfl, ?_⟩
      have pl : (((bqs.map V.ref).length : Nat) : Int) = (((ps.map V.ref).length : Nat) : Int) := by rw [List.length_map, List.length_map, hQ.1, hR.1]
      exact bint (congrArg V.bl (decide_eq_true (congrArg V.int pl))) (q _)
end
end TK

namespace TK
open PySem PySem.Spec PyProof.Rows L2 NdefX
theorem kit_off {K : PySem.W.Frag} {C : Addr} {T : String} (h1 : PySem.W.isClsIn K C = true) (h2 : PySem.W.typeIn K (.ref C) = some (.type "type")) (h3 : PySem.W.notFirst K C (.type T) = true) : PySem.W.kitOne K (.type T) (.ref C) = some false := by
  unfold PySem.W.notFirst at h3
  have e0 : ((Value.type T) == Value.ref C) = false := rfl
  rw [e0, Bool.false_or] at h3
  have h4 := eq_of_beq h3
  unfold PySem.W.kitOne PySem.W.kitCls
  rw [e0]
  unfold PySem.W.isClsIn at h1
  simp [h1, h2, h4]
/-- how the keywords of a def without defaults bind -/
theorem fun_kb {K : PySem.W.Frag} {x qual : Str} {st : Stmt} {f : Addr} {fd : FuncData} {ps : List Str} (F : Fun K x qual st f fd) (n : Nat) (ks : List Str)
    (h : ∀ (kV doc pm : Value) (an : Option Addr) (cdv ct : Value) (us ws : List Value), us.length = n → ws.length = ks.length → bindArgs (PySem.W.fnOf x qual (defArgs st) (defBody st) (defScope st) .none kV doc pm an cdv ct) ⟨us, ks.zip ws⟩ = pure (ps.zip (us ++ ws))) :
    KBn K fd ps n ks (fun us ws => us ++ ws) (fun vs zs => vs ++ zs) := by
  obtain ⟨oc, od, kV, doc, pm, an, cdv, ct, osl, rfl, lk, hcd⟩ := F.ex
  exact ⟨fun s us ws X l1 l2 => .of_eq (h _ _ _ _ _ _ us ws l1 l2), fun r1 r2 => r1.append r2⟩

theorem all_mk {l : PySem.W.OpenLaw} {w : World} {K : PySem.W.Frag} {h : Heap} {mg : Str → Option Value} {fa f0 f1 f2 f3 f4 f5 f6 f7 f8 f9 f10 f11 f12 f13 f14 f15 f16 f17 f18 f19 f20 f21 f22 f23 f24 f25 f26 f27 f28 f29 f30 f31 f32 f33 f34 f35 f36 : Addr} (X : K.In h) (G : h.Ns mainGlobals mg) (hfa : mg "law" = some (.ref fa))
    {tk : Tok}
    {CL CT C1 CB CP TP EP TI EI DN DH EH pS : Addr} {restS : List Value} {odTP odD odN2 odEm : Option Addr} {slTP slD slN2 slEm : Array (Option Value)} {ocTP ocD ocN2 : Value} {nTP nD nN nX : Nat} {tkL tkT : Tok}
    {fP : Addr} {odP anP : Option Addr} {slP : Array (Option Value)} {ocP kVP dcP pmP cdP ctP : Value}
    {fE : Addr} {odE anE : Option Addr} {slE : Array (Option Value)} {ocE kVE dcE pmE cdE ctE : Value}
    {fM : Addr} {odM anM : Option Addr} {slM : Array (Option Value)} {ocM kVM dcM pmM cdM ctM : Value}
    {fO : Addr} {odO anO : Option Addr} {slO : Array (Option Value)} {ocO kVO dcO pmO cdO ctO : Value}
    {fZ : Addr} {odZ anZ : Option Addr} {slZ : Array (Option Value)} {ocZ kVZ dcZ pmZ cdZ ctZ : Value}
    {fS : Addr} {odS anS : Option Addr} {slS : Array (Option Value)} {ocS kVS dcS pmS cdS ctS : Value}
    {fI : Addr} {odI anI : Option Addr} {slI : Array (Option Value)} {ocI kVI dcI pmI cdI ctI : Value}
    {fY : Addr} {odY anY : Option Addr} {slY : Array (Option Value)} {ocY kVY dcY pmY cdY ctY : Value}
    {fV : Addr} {odV anV : Option Addr} {slV : Array (Option Value)} {ocV kVV dcV pmV cdV ctV : Value}
    {fRi : Addr} {odRi anRi : Option Addr} {slRi : Array (Option Value)} {ocRi kVRi dcRi pmRi cdRi ctRi : Value}
    {fCa : Addr} {odCa anCa : Option Addr} {slCa : Array (Option Value)} {ocCa kVCa dcCa pmCa cdCa ctCa : Value}
    {fMo : Addr} {odMo anMo : Option Addr} {slMo : Array (Option Value)} {ocMo kVMo dcMo pmMo cdMo ctMo : Value}
    {fLe : Addr} {odLe anLe : Option Addr} {slLe : Array (Option Value)} {ocLe kVLe dcLe pmLe cdLe ctLe : Value}
    {fPg : Addr} {odPg anPg : Option Addr} {slPg : Array (Option Value)} {ocPg kVPg dcPg pmPg cdPg ctPg : Value}
    {fBk : Addr} {odBk anBk : Option Addr} {slBk : Array (Option Value)} {ocBk dcBk pmBk cdBk ctBk : Value}
    {fBp : Addr} {odBp anBp : Option Addr} {slBp : Array (Option Value)} {ocBp kVBp dcBp pmBp cdBp ctBp : Value}
    {fBi : Addr} {odBi anBi : Option Addr} {slBi : Array (Option Value)} {ocBi kVBi dcBi pmBi cdBi ctBi : Value}
    {fA ccA cdaA DA : Addr} {ocA cclA clA docA pmA ctA : Value} {anA odA cddA cldA : Option Addr} {oslA ccsA cslA : Array (Option Value)} {vsA : Array Value} {tfA : Tok} {fileA : Str} {tkA0 : Tok} {tkA1 : Tok} {tkA2 : Tok}
    {od0 an0 : Option Addr} {sl0 : Array (Option Value)} {oc0 kV0 dc0 pm0 cd0 ct0 : Value}
    (a0 : PySem.W.nsIn K mainGlobals "_wall" = some (some (.ref f0))) (l0 : K.lookup f0 = some ⟨oc0, od0, .func (PySem.W.fnOf "_wall" "_wall" (defArgs s_wall) (defBody s_wall) (defScope s_wall) .none kV0 dc0 pm0 an0 cd0 ct0), sl0⟩) (c0 : PySem.W.codeIn K cd0 "_wall" = true) (k0 : PySem.W.keepIn K (.ref f0) = true)
    {od1 an1 : Option Addr} {sl1 : Array (Option Value)} {oc1 kV1 dc1 pm1 cd1 ct1 : Value}
    (a1 : PySem.W.nsIn K mainGlobals "is_name" = some (some (.ref f1))) (l1 : K.lookup f1 = some ⟨oc1, od1, .func (PySem.W.fnOf "is_name" "is_name" (defArgs s_is_name) (defBody s_is_name) (defScope s_is_name) .none kV1 dc1 pm1 an1 cd1 ct1), sl1⟩) (c1 : PySem.W.codeIn K cd1 "is_name" = true) (k1 : PySem.W.keepIn K (.ref f1) = true)
    {od2 an2 : Option Addr} {sl2 : Array (Option Value)} {oc2 kV2 dc2 pm2 cd2 ct2 : Value}
    (a2 : PySem.W.nsIn K mainGlobals "check_size" = some (some (.ref f2))) (l2 : K.lookup f2 = some ⟨oc2, od2, .func (PySem.W.fnOf "check_size" "check_size" (defArgs s_check_size) (defBody s_check_size) (defScope s_check_size) .none kV2 dc2 pm2 an2 cd2 ct2), sl2⟩) (c2 : PySem.W.codeIn K cd2 "check_size" = true) (k2 : PySem.W.keepIn K (.ref f2) = true)
    {od3 an3 : Option Addr} {sl3 : Array (Option Value)} {oc3 kV3 dc3 pm3 cd3 ct3 : Value}
    (a3 : PySem.W.nsIn K mainGlobals "check_range" = some (some (.ref f3))) (l3 : K.lookup f3 = some ⟨oc3, od3, .func (PySem.W.fnOf "check_range" "check_range" (defArgs s_check_range) (defBody s_check_range) (defScope s_check_range) .none kV3 dc3 pm3 an3 cd3 ct3), sl3⟩) (c3 : PySem.W.codeIn K cd3 "check_range" = true) (k3 : PySem.W.keepIn K (.ref f3) = true)
    {od4 an4 : Option Addr} {sl4 : Array (Option Value)} {oc4 kV4 dc4 pm4 cd4 ct4 : Value}
    (a4 : PySem.W.nsIn K mainGlobals "check_names" = some (some (.ref f4))) (l4 : K.lookup f4 = some ⟨oc4, od4, .func (PySem.W.fnOf "check_names" "check_names" (defArgs s_check_names) (defBody s_check_names) (defScope s_check_names) (.ref DN) kV4 dc4 pm4 an4 cd4 ct4), sl4⟩) (c4 : PySem.W.codeIn K cd4 "check_names" = true) (k4 : PySem.W.keepIn K (.ref f4) = true)
    {od5 an5 : Option Addr} {sl5 : Array (Option Value)} {oc5 kV5 dc5 pm5 cd5 ct5 : Value}
    (a5 : PySem.W.nsIn K mainGlobals "check_known" = some (some (.ref f5))) (l5 : K.lookup f5 = some ⟨oc5, od5, .func (PySem.W.fnOf "check_known" "check_known" (defArgs s_check_known) (defBody s_check_known) (defScope s_check_known) .none kV5 dc5 pm5 an5 cd5 ct5), sl5⟩) (c5 : PySem.W.codeIn K cd5 "check_known" = true) (k5 : PySem.W.keepIn K (.ref f5) = true)
    {od6 an6 : Option Addr} {sl6 : Array (Option Value)} {oc6 kV6 dc6 pm6 cd6 ct6 : Value}
    (a6 : PySem.W.nsIn K mainGlobals "check_picks" = some (some (.ref f6))) (l6 : K.lookup f6 = some ⟨oc6, od6, .func (PySem.W.fnOf "check_picks" "check_picks" (defArgs s_check_picks) (defBody s_check_picks) (defScope s_check_picks) .none kV6 dc6 pm6 an6 cd6 ct6), sl6⟩) (c6 : PySem.W.codeIn K cd6 "check_picks" = true) (k6 : PySem.W.keepIn K (.ref f6) = true)
    {od7 an7 : Option Addr} {sl7 : Array (Option Value)} {oc7 kV7 dc7 pm7 cd7 ct7 : Value}
    (a7 : PySem.W.nsIn K mainGlobals "plus" = some (some (.ref f7))) (l7 : K.lookup f7 = some ⟨oc7, od7, .func (PySem.W.fnOf "plus" "plus" (defArgs s_plus) (defBody s_plus) (defScope s_plus) .none kV7 dc7 pm7 an7 cd7 ct7), sl7⟩) (c7 : PySem.W.codeIn K cd7 "plus" = true) (k7 : PySem.W.keepIn K (.ref f7) = true)
    {od8 an8 : Option Addr} {sl8 : Array (Option Value)} {oc8 kV8 dc8 pm8 cd8 ct8 : Value}
    (a8 : PySem.W.nsIn K mainGlobals "least" = some (some (.ref f8))) (l8 : K.lookup f8 = some ⟨oc8, od8, .func (PySem.W.fnOf "least" "least" (defArgs s_least) (defBody s_least) (defScope s_least) .none kV8 dc8 pm8 an8 cd8 ct8), sl8⟩) (c8 : PySem.W.codeIn K cd8 "least" = true) (k8 : PySem.W.keepIn K (.ref f8) = true)
    {od9 an9 : Option Addr} {sl9 : Array (Option Value)} {oc9 kV9 dc9 pm9 cd9 ct9 : Value}
    (a9 : PySem.W.nsIn K mainGlobals "_check_entries" = some (some (.ref f9))) (l9 : K.lookup f9 = some ⟨oc9, od9, .func (PySem.W.fnOf "_check_entries" "_check_entries" (defArgs s_check_entries) (defBody s_check_entries) (defScope s_check_entries) .none kV9 dc9 pm9 an9 cd9 ct9), sl9⟩) (c9 : PySem.W.codeIn K cd9 "_check_entries" = true) (k9 : PySem.W.keepIn K (.ref f9) = true)
    {od10 an10 : Option Addr} {sl10 : Array (Option Value)} {oc10 kV10 dc10 pm10 cd10 ct10 : Value}
    (a10 : PySem.W.nsIn K mainGlobals "_least_tolls" = some (some (.ref f10))) (l10 : K.lookup f10 = some ⟨oc10, od10, .func (PySem.W.fnOf "_least_tolls" "_least_tolls" (defArgs s_least_tolls) (defBody s_least_tolls) (defScope s_least_tolls) .none kV10 dc10 pm10 an10 cd10 ct10), sl10⟩) (c10 : PySem.W.codeIn K cd10 "_least_tolls" = true) (k10 : PySem.W.keepIn K (.ref f10) = true)
    {od11 an11 : Option Addr} {sl11 : Array (Option Value)} {oc11 kV11 dc11 pm11 cd11 ct11 : Value}
    (a11 : PySem.W.nsIn K mainGlobals "_check_links" = some (some (.ref f11))) (l11 : K.lookup f11 = some ⟨oc11, od11, .func (PySem.W.fnOf "_check_links" "_check_links" (defArgs s_check_links) (defBody s_check_links) (defScope s_check_links) .none kV11 dc11 pm11 an11 cd11 ct11), sl11⟩) (c11 : PySem.W.codeIn K cd11 "_check_links" = true) (k11 : PySem.W.keepIn K (.ref f11) = true)
    {od12 an12 : Option Addr} {sl12 : Array (Option Value)} {oc12 kV12 dc12 pm12 cd12 ct12 : Value}
    (a12 : PySem.W.nsIn K mainGlobals "_hand_tolls" = some (some (.ref f12))) (l12 : K.lookup f12 = some ⟨oc12, od12, .func (PySem.W.fnOf "_hand_tolls" "_hand_tolls" (defArgs s_hand_tolls) (defBody s_hand_tolls) (defScope s_hand_tolls) .none kV12 dc12 pm12 an12 cd12 ct12), sl12⟩) (c12 : PySem.W.codeIn K cd12 "_hand_tolls" = true) (k12 : PySem.W.keepIn K (.ref f12) = true)
    {od13 an13 : Option Addr} {sl13 : Array (Option Value)} {oc13 kV13 dc13 pm13 cd13 ct13 : Value}
    (a13 : PySem.W.nsIn K mainGlobals "_shared_parts" = some (some (.ref f13))) (l13 : K.lookup f13 = some ⟨oc13, od13, .func (PySem.W.fnOf "_shared_parts" "_shared_parts" (defArgs s_shared_parts) (defBody s_shared_parts) (defScope s_shared_parts) .none kV13 dc13 pm13 an13 cd13 ct13), sl13⟩) (c13 : PySem.W.codeIn K cd13 "_shared_parts" = true) (k13 : PySem.W.keepIn K (.ref f13) = true)
    {od14 an14 : Option Addr} {sl14 : Array (Option Value)} {oc14 kV14 dc14 pm14 cd14 ct14 : Value}
    (a14 : PySem.W.nsIn K mainGlobals "_facts" = some (some (.ref f14))) (l14 : K.lookup f14 = some ⟨oc14, od14, .func (PySem.W.fnOf "_facts" "_facts" (defArgs s_facts) (defBody s_facts) (defScope s_facts) .none kV14 dc14 pm14 an14 cd14 ct14), sl14⟩) (c14 : PySem.W.codeIn K cd14 "_facts" = true) (k14 : PySem.W.keepIn K (.ref f14) = true)
    {od15 an15 : Option Addr} {sl15 : Array (Option Value)} {oc15 kV15 dc15 pm15 cd15 ct15 : Value}
    (a15 : PySem.W.nsIn K mainGlobals "_are_picks" = some (some (.ref f15))) (l15 : K.lookup f15 = some ⟨oc15, od15, .func (PySem.W.fnOf "_are_picks" "_are_picks" (defArgs s_are_picks) (defBody s_are_picks) (defScope s_are_picks) .none kV15 dc15 pm15 an15 cd15 ct15), sl15⟩) (c15 : PySem.W.codeIn K cd15 "_are_picks" = true) (k15 : PySem.W.keepIn K (.ref f15) = true)
    {od16 an16 : Option Addr} {sl16 : Array (Option Value)} {oc16 kV16 dc16 pm16 cd16 ct16 : Value}
    (a16 : PySem.W.nsIn K mainGlobals "_are_bids" = some (some (.ref f16))) (l16 : K.lookup f16 = some ⟨oc16, od16, .func (PySem.W.fnOf "_are_bids" "_are_bids" (defArgs s_are_bids) (defBody s_are_bids) (defScope s_are_bids) .none kV16 dc16 pm16 an16 cd16 ct16), sl16⟩) (c16 : PySem.W.codeIn K cd16 "_are_bids" = true) (k16 : PySem.W.keepIn K (.ref f16) = true)
    {od17 an17 : Option Addr} {sl17 : Array (Option Value)} {oc17 kV17 dc17 pm17 cd17 ct17 : Value}
    (a17 : PySem.W.nsIn K mainGlobals "_check_pages" = some (some (.ref f17))) (l17 : K.lookup f17 = some ⟨oc17, od17, .func (PySem.W.fnOf "_check_pages" "_check_pages" (defArgs s_check_pages) (defBody s_check_pages) (defScope s_check_pages) .none kV17 dc17 pm17 an17 cd17 ct17), sl17⟩) (c17 : PySem.W.codeIn K cd17 "_check_pages" = true) (k17 : PySem.W.keepIn K (.ref f17) = true)
    {od18 an18 : Option Addr} {sl18 : Array (Option Value)} {oc18 kV18 dc18 pm18 cd18 ct18 : Value}
    (a18 : PySem.W.nsIn K mainGlobals "_check_ends" = some (some (.ref f18))) (l18 : K.lookup f18 = some ⟨oc18, od18, .func (PySem.W.fnOf "_check_ends" "_check_ends" (defArgs s_check_ends) (defBody s_check_ends) (defScope s_check_ends) .none kV18 dc18 pm18 an18 cd18 ct18), sl18⟩) (c18 : PySem.W.codeIn K cd18 "_check_ends" = true) (k18 : PySem.W.keepIn K (.ref f18) = true)
    {od19 an19 : Option Addr} {sl19 : Array (Option Value)} {oc19 kV19 dc19 pm19 cd19 ct19 : Value}
    (a19 : PySem.W.nsIn K mainGlobals "_sorted_bids" = some (some (.ref f19))) (l19 : K.lookup f19 = some ⟨oc19, od19, .func (PySem.W.fnOf "_sorted_bids" "_sorted_bids" (defArgs s_sorted_bids) (defBody s_sorted_bids) (defScope s_sorted_bids) .none kV19 dc19 pm19 an19 cd19 ct19), sl19⟩) (c19 : PySem.W.codeIn K cd19 "_sorted_bids" = true) (k19 : PySem.W.keepIn K (.ref f19) = true)
    {od20 an20 : Option Addr} {sl20 : Array (Option Value)} {oc20 kV20 dc20 pm20 cd20 ct20 : Value}
    (a20 : PySem.W.nsIn K mainGlobals "_law_cell" = some (some (.ref f20))) (l20 : K.lookup f20 = some ⟨oc20, od20, .func (PySem.W.fnOf "_law_cell" "_law_cell" (defArgs s_L_cell) (defBody s_L_cell) (defScope s_L_cell) .none kV20 dc20 pm20 an20 cd20 ct20), sl20⟩) (c20 : PySem.W.codeIn K cd20 "_law_cell" = true) (k20 : PySem.W.keepIn K (.ref f20) = true)
    {od21 an21 : Option Addr} {sl21 : Array (Option Value)} {oc21 kV21 dc21 pm21 cd21 ct21 : Value}
    (a21 : PySem.W.nsIn K mainGlobals "_law_mixed" = some (some (.ref f21))) (l21 : K.lookup f21 = some ⟨oc21, od21, .func (PySem.W.fnOf "_law_mixed" "_law_mixed" (defArgs s_L_mixed) (defBody s_L_mixed) (defScope s_L_mixed) .none kV21 dc21 pm21 an21 cd21 ct21), sl21⟩) (c21 : PySem.W.codeIn K cd21 "_law_mixed" = true) (k21 : PySem.W.keepIn K (.ref f21) = true)
    {od22 an22 : Option Addr} {sl22 : Array (Option Value)} {oc22 kV22 dc22 pm22 cd22 ct22 : Value}
    (a22 : PySem.W.nsIn K mainGlobals "_law_pool" = some (some (.ref f22))) (l22 : K.lookup f22 = some ⟨oc22, od22, .func (PySem.W.fnOf "_law_pool" "_law_pool" (defArgs s_L_pool) (defBody s_L_pool) (defScope s_L_pool) .none kV22 dc22 pm22 an22 cd22 ct22), sl22⟩) (c22 : PySem.W.codeIn K cd22 "_law_pool" = true) (k22 : PySem.W.keepIn K (.ref f22) = true)
    {od23 an23 : Option Addr} {sl23 : Array (Option Value)} {oc23 kV23 dc23 pm23 cd23 ct23 : Value}
    (a23 : PySem.W.nsIn K mainGlobals "_law_part" = some (some (.ref f23))) (l23 : K.lookup f23 = some ⟨oc23, od23, .func (PySem.W.fnOf "_law_part" "_law_part" (defArgs s_L_part) (defBody s_L_part) (defScope s_L_part) .none kV23 dc23 pm23 an23 cd23 ct23), sl23⟩) (c23 : PySem.W.codeIn K cd23 "_law_part" = true) (k23 : PySem.W.keepIn K (.ref f23) = true)
    {od24 an24 : Option Addr} {sl24 : Array (Option Value)} {oc24 kV24 dc24 pm24 cd24 ct24 : Value}
    (a24 : PySem.W.nsIn K mainGlobals "_law_names" = some (some (.ref f24))) (l24 : K.lookup f24 = some ⟨oc24, od24, .func (PySem.W.fnOf "_law_names" "_law_names" (defArgs s_L_names) (defBody s_L_names) (defScope s_L_names) .none kV24 dc24 pm24 an24 cd24 ct24), sl24⟩) (c24 : PySem.W.codeIn K cd24 "_law_names" = true) (k24 : PySem.W.keepIn K (.ref f24) = true)
    {od25 an25 : Option Addr} {sl25 : Array (Option Value)} {oc25 kV25 dc25 pm25 cd25 ct25 : Value}
    (a25 : PySem.W.nsIn K mainGlobals "_law_links" = some (some (.ref f25))) (l25 : K.lookup f25 = some ⟨oc25, od25, .func (PySem.W.fnOf "_law_links" "_law_links" (defArgs s_L_links) (defBody s_L_links) (defScope s_L_links) .none kV25 dc25 pm25 an25 cd25 ct25), sl25⟩) (c25 : PySem.W.codeIn K cd25 "_law_links" = true) (k25 : PySem.W.keepIn K (.ref f25) = true)
    {od26 an26 : Option Addr} {sl26 : Array (Option Value)} {oc26 kV26 dc26 pm26 cd26 ct26 : Value}
    (a26 : PySem.W.nsIn K mainGlobals "_law_some" = some (some (.ref f26))) (l26 : K.lookup f26 = some ⟨oc26, od26, .func (PySem.W.fnOf "_law_some" "_law_some" (defArgs s_L_some) (defBody s_L_some) (defScope s_L_some) .none kV26 dc26 pm26 an26 cd26 ct26), sl26⟩) (c26 : PySem.W.codeIn K cd26 "_law_some" = true) (k26 : PySem.W.keepIn K (.ref f26) = true)
    {od27 an27 : Option Addr} {sl27 : Array (Option Value)} {oc27 kV27 dc27 pm27 cd27 ct27 : Value}
    (a27 : PySem.W.nsIn K mainGlobals "_law_pages" = some (some (.ref f27))) (l27 : K.lookup f27 = some ⟨oc27, od27, .func (PySem.W.fnOf "_law_pages" "_law_pages" (defArgs s_L_pages) (defBody s_L_pages) (defScope s_L_pages) .none kV27 dc27 pm27 an27 cd27 ct27), sl27⟩) (c27 : PySem.W.codeIn K cd27 "_law_pages" = true) (k27 : PySem.W.keepIn K (.ref f27) = true)
    {od28 an28 : Option Addr} {sl28 : Array (Option Value)} {oc28 kV28 dc28 pm28 cd28 ct28 : Value}
    (a28 : PySem.W.nsIn K mainGlobals "_law_integer" = some (some (.ref f28))) (l28 : K.lookup f28 = some ⟨oc28, od28, .func (PySem.W.fnOf "_law_integer" "_law_integer" (defArgs s_L_integer) (defBody s_L_integer) (defScope s_L_integer) .none kV28 dc28 pm28 an28 cd28 ct28), sl28⟩) (c28 : PySem.W.codeIn K cd28 "_law_integer" = true) (k28 : PySem.W.keepIn K (.ref f28) = true)
    {od29 an29 : Option Addr} {sl29 : Array (Option Value)} {oc29 kV29 dc29 pm29 cd29 ct29 : Value}
    (a29 : PySem.W.nsIn K mainGlobals "_law_same" = some (some (.ref f29))) (l29 : K.lookup f29 = some ⟨oc29, od29, .func (PySem.W.fnOf "_law_same" "_law_same" (defArgs s_L_same) (defBody s_L_same) (defScope s_L_same) .none kV29 dc29 pm29 an29 cd29 ct29), sl29⟩) (c29 : PySem.W.codeIn K cd29 "_law_same" = true) (k29 : PySem.W.keepIn K (.ref f29) = true)
    {od30 an30 : Option Addr} {sl30 : Array (Option Value)} {oc30 kV30 dc30 pm30 cd30 ct30 : Value}
    (a30 : PySem.W.nsIn K mainGlobals "_law_shuffled" = some (some (.ref f30))) (l30 : K.lookup f30 = some ⟨oc30, od30, .func (PySem.W.fnOf "_law_shuffled" "_law_shuffled" (defArgs s_L_shuffled) (defBody s_L_shuffled) (defScope s_L_shuffled) .none kV30 dc30 pm30 an30 cd30 ct30), sl30⟩) (c30 : PySem.W.codeIn K cd30 "_law_shuffled" = true) (k30 : PySem.W.keepIn K (.ref f30) = true)
    {od31 an31 : Option Addr} {sl31 : Array (Option Value)} {oc31 kV31 dc31 pm31 cd31 ct31 : Value}
    (a31 : PySem.W.nsIn K mainGlobals "_law_rows" = some (some (.ref f31))) (l31 : K.lookup f31 = some ⟨oc31, od31, .func (PySem.W.fnOf "_law_rows" "_law_rows" (defArgs s_L_rows) (defBody s_L_rows) (defScope s_L_rows) .none kV31 dc31 pm31 an31 cd31 ct31), sl31⟩) (c31 : PySem.W.codeIn K cd31 "_law_rows" = true) (k31 : PySem.W.keepIn K (.ref f31) = true)
    {od32 an32 : Option Addr} {sl32 : Array (Option Value)} {oc32 kV32 dc32 pm32 cd32 ct32 : Value}
    (a32 : PySem.W.nsIn K mainGlobals "_law_turn_rule" = some (some (.ref f32))) (l32 : K.lookup f32 = some ⟨oc32, od32, .func (PySem.W.fnOf "_law_turn_rule" "_law_turn_rule" (defArgs s_L_turn_rule) (defBody s_L_turn_rule) (defScope s_L_turn_rule) .none kV32 dc32 pm32 an32 cd32 ct32), sl32⟩) (c32 : PySem.W.codeIn K cd32 "_law_turn_rule" = true) (k32 : PySem.W.keepIn K (.ref f32) = true)
    {od33 an33 : Option Addr} {sl33 : Array (Option Value)} {oc33 kV33 dc33 pm33 cd33 ct33 : Value}
    (a33 : PySem.W.nsIn K mainGlobals "_law_free" = some (some (.ref f33))) (l33 : K.lookup f33 = some ⟨oc33, od33, .func (PySem.W.fnOf "_law_free" "_law_free" (defArgs s_L_free) (defBody s_L_free) (defScope s_L_free) .none kV33 dc33 pm33 an33 cd33 ct33), sl33⟩) (c33 : PySem.W.codeIn K cd33 "_law_free" = true) (k33 : PySem.W.keepIn K (.ref f33) = true)
    {od34 an34 : Option Addr} {sl34 : Array (Option Value)} {oc34 kV34 dc34 pm34 cd34 ct34 : Value}
    (a34 : PySem.W.nsIn K mainGlobals "_law_tells" = some (some (.ref f34))) (l34 : K.lookup f34 = some ⟨oc34, od34, .func (PySem.W.fnOf "_law_tells" "_law_tells" (defArgs s_L_tells) (defBody s_L_tells) (defScope s_L_tells) .none kV34 dc34 pm34 an34 cd34 ct34), sl34⟩) (c34 : PySem.W.codeIn K cd34 "_law_tells" = true) (k34 : PySem.W.keepIn K (.ref f34) = true)
    {od35 an35 : Option Addr} {sl35 : Array (Option Value)} {oc35 kV35 dc35 pm35 cd35 ct35 : Value}
    (a35 : PySem.W.nsIn K mainGlobals "_law_spoil" = some (some (.ref f35))) (l35 : K.lookup f35 = some ⟨oc35, od35, .func (PySem.W.fnOf "_law_spoil" "_law_spoil" (defArgs s_L_spoil) (defBody s_L_spoil) (defScope s_L_spoil) .none kV35 dc35 pm35 an35 cd35 ct35), sl35⟩) (c35 : PySem.W.codeIn K cd35 "_law_spoil" = true) (k35 : PySem.W.keepIn K (.ref f35) = true)
    {od36 an36 : Option Addr} {sl36 : Array (Option Value)} {oc36 kV36 dc36 pm36 cd36 ct36 : Value}
    (a36 : PySem.W.nsIn K mainGlobals "law" = some (some (.ref f36))) (l36 : K.lookup f36 = some ⟨oc36, od36, .func (PySem.W.fnOf "law" "law" (defArgs s_law) (defBody s_law) (defScope s_law) .none kV36 dc36 pm36 an36 cd36 ct36), sl36⟩) (c36 : PySem.W.codeIn K cd36 "law" = true) (k36 : PySem.W.keepIn K (.ref f36) = true)
    (aL : PySem.W.nsIn K mainGlobals "LETTERS" = some (some (.str lettersZ tk)))
    (z_len : PySem.W.nsIn K mainGlobals "len" = some none)
    (z_all : PySem.W.nsIn K mainGlobals "all" = some none)
    (z_enumerate : PySem.W.nsIn K mainGlobals "enumerate" = some none)
    (z_tuple : PySem.W.nsIn K mainGlobals "tuple" = some none)
    (z_list : PySem.W.nsIn K mainGlobals "list" = some none)
    (z_range : PySem.W.nsIn K mainGlobals "range" = some none)
    (z_abs : PySem.W.nsIn K mainGlobals "abs" = some none)
    (z_int : PySem.W.nsIn K mainGlobals "int" = some none)
    (z_isinstance : PySem.W.nsIn K mainGlobals "isinstance" = some none)
    (z_bool : PySem.W.nsIn K mainGlobals "bool" = some none)
    (z_str : PySem.W.nsIn K mainGlobals "str" = some none)
    (z_iter : PySem.W.nsIn K mainGlobals "iter" = some none)
    (z_set : PySem.W.nsIn K mainGlobals "set" = some none)
    (aML : PySem.W.nsIn K mainGlobals "MOST_LINKS" = some (some (.int 12 tkL))) (aMT : PySem.W.nsIn K mainGlobals "MOST_TOLL" = some (some (.int 1000000000 tkT)))
    (aLi : PySem.W.nsIn K mainGlobals "Links" = some (some (.ref CL))) (aTo : PySem.W.nsIn K mainGlobals "Tolls" = some (some (.ref CT))) (aTu : PySem.W.nsIn K mainGlobals "TurnRule" = some (some (.ref C1))) (aBo : PySem.W.nsIn K mainGlobals "Book" = some (some (.ref CB))) (aPag : PySem.W.nsIn K mainGlobals "Page" = some (some (.ref CP)))
    (aP : PySem.W.findIn K (.ref CT) "__init__" = some (some (.ref fP))) (iP : PySem.W.isFn K (.ref fP) = true) (lP : K.lookup fP = some ⟨ocP, odP, .func (PySem.W.fnOf "__init__" "Tolls.__init__" (defArgs s_Tolls_init) (defBody s_Tolls_init) (defScope s_Tolls_init) (.ref TP) kVP dcP pmP anP cdP ctP), slP⟩) (cP : PySem.W.codeIn K cdP "Tolls.__init__" = true) (kP : PySem.W.keepIn K (.ref fP) = true)
    (aE : PySem.W.findIn K (.ref CT) "entries" = some (some (.ref fE))) (iE : PySem.W.isFn K (.ref fE) = true) (lE : K.lookup fE = some ⟨ocE, odE, .func (PySem.W.fnOf "entries" "Tolls.entries" (defArgs s_Tolls_entries) (defBody s_Tolls_entries) (defScope s_Tolls_entries) .none kVE dcE pmE anE cdE ctE), slE⟩) (cE : PySem.W.codeIn K cdE "Tolls.entries" = true) (kE : PySem.W.keepIn K (.ref fE) = true)
    (aM : PySem.W.findIn K (.ref CT) "__mul__" = some (some (.ref fM))) (iM : PySem.W.isFn K (.ref fM) = true) (lM : K.lookup fM = some ⟨ocM, odM, .func (PySem.W.fnOf "__mul__" "Tolls.__mul__" (defArgs s_Tolls_mul) (defBody s_Tolls_mul) (defScope s_Tolls_mul) .none kVM dcM pmM anM cdM ctM), slM⟩) (cM : PySem.W.codeIn K cdM "Tolls.__mul__" = true) (kM : PySem.W.keepIn K (.ref fM) = true)
    (aO : PySem.W.findIn K (.ref CT) "__or__" = some (some (.ref fO))) (iO : PySem.W.isFn K (.ref fO) = true) (lO : K.lookup fO = some ⟨ocO, odO, .func (PySem.W.fnOf "__or__" "Tolls.__or__" (defArgs s_Tolls_or) (defBody s_Tolls_or) (defScope s_Tolls_or) .none kVO dcO pmO anO cdO ctO), slO⟩) (cO : PySem.W.codeIn K cdO "Tolls.__or__" = true) (kO : PySem.W.keepIn K (.ref fO) = true)
    (aZ : PySem.W.findIn K (.ref CT) "closed" = some (some (.ref fZ))) (iZ : PySem.W.isFn K (.ref fZ) = true) (lZ : K.lookup fZ = some ⟨ocZ, odZ, .func (PySem.W.fnOf "closed" "Tolls.closed" (defArgs s_Tolls_closed) (defBody s_Tolls_closed) (defScope s_Tolls_closed) .none kVZ dcZ pmZ anZ cdZ ctZ), slZ⟩) (cZ : PySem.W.codeIn K cdZ "Tolls.closed" = true) (kZ : PySem.W.keepIn K (.ref fZ) = true)
    (aS : PySem.W.findCls K (.ref CT) (.type "type") "same" = some (.get (.builtin "staticmethod.__get__") (.ref pS) .none (.ref CT))) (rS : PySem.W.recIn K pS "staticmethod" = some (.ref fS :: restS)) (iS : PySem.W.isFn K (.ref fS) = true) (lS : K.lookup fS = some ⟨ocS, odS, .func (PySem.W.fnOf "same" "Tolls.same" (defArgs s_Tolls_same) (defBody s_Tolls_same) (defScope s_Tolls_same) .none kVS dcS pmS anS cdS ctS), slS⟩) (cS : PySem.W.codeIn K cdS "Tolls.same" = true) (kS : PySem.W.keepIn K (.ref fS) = true)
    (aI : PySem.W.findIn K (.ref CL) "__init__" = some (some (.ref fI))) (iI : PySem.W.isFn K (.ref fI) = true) (lI : K.lookup fI = some ⟨ocI, odI, .func (PySem.W.fnOf "__init__" "Links.__init__" (defArgs s_Links_init) (defBody s_Links_init) (defScope s_Links_init) (.ref TI) kVI dcI pmI anI cdI ctI), slI⟩) (cI : PySem.W.codeIn K cdI "Links.__init__" = true) (kI : PySem.W.keepIn K (.ref fI) = true)
    (aY : PySem.W.findIn K (.ref CL) "__iter__" = some (some (.ref fY))) (iY : PySem.W.isFn K (.ref fY) = true) (lY : K.lookup fY = some ⟨ocY, odY, .func (PySem.W.fnOf "__iter__" "Links.__iter__" (defArgs s_Links_iter) (defBody s_Links_iter) (defScope s_Links_iter) .none kVY dcY pmY anY cdY ctY), slY⟩) (cY : PySem.W.codeIn K cdY "Links.__iter__" = true) (kY : PySem.W.keepIn K (.ref fY) = true)
    (aV : PySem.W.findIn K (.ref CL) "tolls" = some (some (.ref fV))) (iV : PySem.W.isFn K (.ref fV) = true) (lV : K.lookup fV = some ⟨ocV, odV, .func (PySem.W.fnOf "tolls" "Links.tolls" (defArgs s_Links_tolls) (defBody s_Links_tolls) (defScope s_Links_tolls) .none kVV dcV pmV anV cdV ctV), slV⟩) (cV : PySem.W.codeIn K cdV "Links.tolls" = true) (kV : PySem.W.keepIn K (.ref fV) = true)
    (al1 : PySem.W.ks_superIn K C1 C1 "__init__" = some (some (.ref fRi))) (tyRi : PySem.W.typeIn K (.ref fRi) = some (.type "function")) (fiRi : PySem.W.fnIn K fRi = true) (iRi : PySem.W.isFn K (.ref fRi) = true) (lRi : K.lookup fRi = some ⟨ocRi, odRi, .func (PySem.W.fnOf "__init__" "Rule.__init__" (defArgs s_Rule_init) (defBody s_Rule_init) (defScope s_Rule_init) .none kVRi dcRi pmRi anRi cdRi ctRi), slRi⟩) (cRi : PySem.W.codeIn K cdRi "Rule.__init__" = true) (kRi : PySem.W.keepIn K (.ref fRi) = true)
    (aCa : PySem.W.findIn K (.ref C1) "candidates" = some (some (.ref fCa))) (iCa : PySem.W.isFn K (.ref fCa) = true) (lCa : K.lookup fCa = some ⟨ocCa, odCa, .func (PySem.W.fnOf "candidates" "Rule.candidates" (defArgs s_Rule_candidates) (defBody s_Rule_candidates) (defScope s_Rule_candidates) .none kVCa dcCa pmCa anCa cdCa ctCa), slCa⟩) (cCa : PySem.W.codeIn K cdCa "Rule.candidates" = true) (kCa : PySem.W.keepIn K (.ref fCa) = true)
    (aMo : PySem.W.findIn K (.ref C1) "moves" = some (some (.ref fMo))) (iMo : PySem.W.isFn K (.ref fMo) = true) (lMo : K.lookup fMo = some ⟨ocMo, odMo, .func (PySem.W.fnOf "moves" "TurnRule.moves" (defArgs s_TurnRule_moves) (defBody s_TurnRule_moves) (defScope s_TurnRule_moves) .none kVMo dcMo pmMo anMo cdMo ctMo), slMo⟩) (cMo : PySem.W.codeIn K cdMo "TurnRule.moves" = true) (kMo : PySem.W.keepIn K (.ref fMo) = true)
    (aLe : PySem.W.findIn K (.ref C1) "lets" = some (some (.ref fLe))) (iLe : PySem.W.isFn K (.ref fLe) = true) (lLe : K.lookup fLe = some ⟨ocLe, odLe, .func (PySem.W.fnOf "lets" "TurnRule.lets" (defArgs s_TurnRule_lets) (defBody s_TurnRule_lets) (defScope s_TurnRule_lets) .none kVLe dcLe pmLe anLe cdLe ctLe), slLe⟩) (cLe : PySem.W.codeIn K cdLe "TurnRule.lets" = true) (kLe : PySem.W.keepIn K (.ref fLe) = true)
    (aPg : PySem.W.findIn K (.ref CP) "__init__" = some (some (.ref fPg))) (iPg : PySem.W.isFn K (.ref fPg) = true) (lPg : K.lookup fPg = some ⟨ocPg, odPg, .func (PySem.W.fnOf "__init__" "Page.__init__" (defArgs s_Page_init) (defBody s_Page_init) (defScope s_Page_init) .none kVPg dcPg pmPg anPg cdPg ctPg), slPg⟩) (cPg : PySem.W.codeIn K cdPg "Page.__init__" = true) (kPg : PySem.W.keepIn K (.ref fPg) = true)
    (aBk : PySem.W.findIn K (.ref CB) "__init__" = some (some (.ref fBk))) (iBk : PySem.W.isFn K (.ref fBk) = true) (lBk : K.lookup fBk = some ⟨ocBk, odBk, .func (PySem.W.fnOf "__init__" "Book.__init__" (defArgs s_Book_init) (defBody s_Book_init) (defScope s_Book_init) .none (.ref DH) dcBk pmBk anBk cdBk ctBk), slBk⟩) (cBk : PySem.W.codeIn K cdBk "Book.__init__" = true) (kBk : PySem.W.keepIn K (.ref fBk) = true)
    (aBp : PySem.W.findIn K (.ref CB) "page" = some (some (.ref fBp))) (iBp : PySem.W.isFn K (.ref fBp) = true) (lBp : K.lookup fBp = some ⟨ocBp, odBp, .func (PySem.W.fnOf "page" "Book.page" (defArgs s_Book_page) (defBody s_Book_page) (defScope s_Book_page) .none kVBp dcBp pmBp anBp cdBp ctBp), slBp⟩) (cBp : PySem.W.codeIn K cdBp "Book.page" = true) (kBp : PySem.W.keepIn K (.ref fBp) = true)
    (aBi : PySem.W.findIn K (.ref CB) "__iter__" = some (some (.ref fBi))) (iBi : PySem.W.isFn K (.ref fBi) = true) (lBi : K.lookup fBi = some ⟨ocBi, odBi, .func (PySem.W.fnOf "__iter__" "Book.__iter__" (defArgs s_Book_iter) (defBody s_Book_iter) (defScope s_Book_iter) .none kVBi dcBi pmBi anBi cdBi ctBi), slBi⟩) (cBi : PySem.W.codeIn K cdBi "Book.__iter__" = true) (kBi : PySem.W.keepIn K (.ref fBi) = true)
    (aA : PySem.W.findIn K (.ref C1) "__init__" = some (some (.ref fA))) (iA : PySem.W.isFn K (.ref fA) = true)
    (lA : K.lookup fA = some ⟨ocA, odA, .func (PySem.W.fnX "__init__" "TurnRule.__init__" (defArgs s_TurnRule_init) (defBody s_TurnRule_init) (defScope s_TurnRule_init) [("__class__", ccA)] .none (.ref DA) docA pmA anA (.ref cdaA) ctA), oslA⟩) (cA : PySem.W.codeIn K (.ref cdaA) "TurnRule.__init__" = true)
    (hcA : K.lookup cdaA = some ⟨cclA, cddA, .fields vsA, ccsA⟩) (hvA : vsA[2]? = some (.str fileA tfA)) (hfA : ((l.prog.main.file : Str) == fileA) = true) (hlA : K.lookup ccA = some ⟨clA, cldA, .cell (some (.ref C1)), cslA⟩)
    (hmA : PySem.W.mroIn K C1 (.ref C1) = some true) (isA : PySem.W.isClsIn K C1 = true) (nA0 : PySem.W.nsIn K DA "deposit" = some (some (.int 0 tkA0))) (nA1 : PySem.W.nsIn K DA "fee" = some (some (.int 1 tkA1))) (nA2 : PySem.W.nsIn K DA "start" = some (some (.int 0 tkA2)))
    (pgL : PySem.W.plainGet K CL Str.empty = true) (hdL : PySem.W.hasDictIn K CL = true) (poL : PySem.W.plainOver K CL = true) (saL : PySem.W.findIn K (.ref CL) "__setattr__" = some (some (.builtin "object.__setattr__"))) (mkL : PySem.W.makesIn K CL = true) (kcL : PySem.W.keepIn K (.ref CL) = true) (nA0L : PySem.W.findIn K (.ref CL) "names" = some none) (nA1L : PySem.W.findIn K (.ref CL) "links" = some none)
    (pgT : PySem.W.plainGet K CT Str.empty = true) (hdT : PySem.W.hasDictIn K CT = true) (poT : PySem.W.plainOver K CT = true) (saT : PySem.W.findIn K (.ref CT) "__setattr__" = some (some (.builtin "object.__setattr__"))) (mkT : PySem.W.makesIn K CT = true) (kcT : PySem.W.keepIn K (.ref CT) = true) (nA0T : PySem.W.findIn K (.ref CT) "names" = some none) (nA1T : PySem.W.findIn K (.ref CT) "_prices" = some none)
    (pg1 : PySem.W.plainGet K C1 Str.empty = true) (hd1 : PySem.W.hasDictIn K C1 = true) (po1 : PySem.W.plainOver K C1 = true) (sa1 : PySem.W.findIn K (.ref C1) "__setattr__" = some (some (.builtin "object.__setattr__"))) (mk1 : PySem.W.makesIn K C1 = true) (kc1 : PySem.W.keepIn K (.ref C1) = true) (nA01 : PySem.W.findIn K (.ref C1) "name" = some none) (nA11 : PySem.W.findIn K (.ref C1) "members" = some none) (nA21 : PySem.W.findIn K (.ref C1) "limit" = some none) (nA31 : PySem.W.findIn K (.ref C1) "barred" = some none) (nA41 : PySem.W.findIn K (.ref C1) "links" = some none) (nA51 : PySem.W.findIn K (.ref C1) "deposit" = some none) (nA61 : PySem.W.findIn K (.ref C1) "fee" = some none) (nA71 : PySem.W.findIn K (.ref C1) "start" = some none) (nA81 : PySem.W.findIn K (.ref C1) "_hand_tolls" = some none)
    (pgB : PySem.W.plainGet K CB Str.empty = true) (hdB : PySem.W.hasDictIn K CB = true) (poB : PySem.W.plainOver K CB = true) (saB : PySem.W.findIn K (.ref CB) "__setattr__" = some (some (.builtin "object.__setattr__"))) (mkB : PySem.W.makesIn K CB = true) (kcB : PySem.W.keepIn K (.ref CB) = true) (nA0B : PySem.W.findIn K (.ref CB) "members" = some none) (nA1B : PySem.W.findIn K (.ref CB) "names" = some none) (nA2B : PySem.W.findIn K (.ref CB) "starts" = some none) (nA3B : PySem.W.findIn K (.ref CB) "home" = some none) (nA4B : PySem.W.findIn K (.ref CB) "_rows" = some none) (nA5B : PySem.W.findIn K (.ref CB) "_pages" = some none)
    (pgP : PySem.W.plainGet K CP Str.empty = true) (hdP : PySem.W.hasDictIn K CP = true) (poP : PySem.W.plainOver K CP = true) (saP : PySem.W.findIn K (.ref CP) "__setattr__" = some (some (.builtin "object.__setattr__"))) (mkP : PySem.W.makesIn K CP = true) (kcP : PySem.W.keepIn K (.ref CP) = true) (nA0P : PySem.W.findIn K (.ref CP) "name" = some none) (nA1P : PySem.W.findIn K (.ref CP) "bids" = some none) (nA2P : PySem.W.findIn K (.ref CP) "wishers" = some none) (nA3P : PySem.W.findIn K (.ref CP) "followers" = some none) (nA4P : PySem.W.findIn K (.ref CP) "home" = some none)
    (lTP : K.lookup TP = some ⟨ocTP, odTP, .seq (List.toArray [Value.ref EP]) nTP, slTP⟩) (lTI : K.lookup TI = some ⟨ocD, odD, .seq (List.toArray [Value.ref EI]) nD, slD⟩) (lEI : K.lookup EI = some ⟨.type "tuple", odEm, .seq (List.toArray []) nX, slEm⟩)
    (lDN : K.lookup DN = some ⟨ocN2, odN2, .seq (List.toArray [Value.bool false]) nN, slN2⟩) (nHm : PySem.W.nsIn K DH "home" = some (some (.ref EH)))
    (sf : PySem.W.selfFirst K CT = true) (rdC : PySem.W.readsIn K CT (.type "type") = true) (gaC : PySem.W.specialIn K (.ref CT) "__getattribute__" = some (some (.builtin "type.__getattribute__")))
    (htopS : (l.prog.main.scope.names.lookup ("super" : Str)).isSome = false) (z_super : PySem.W.nsIn K mainGlobals "super" = some none) (hstS : PySem.W.nsIn K cStatics "thirdparty.any" = some none) :
    ∃ fd : FuncData, (∀ (s : Shared) (v : Value), BindsTo s fd ⟨[v], []⟩ [("_law_script", v)]) ∧ ∀ base : Heap, K.In base → base.Ns mainGlobals mg → FnOk l.prog w K mg base CX0 12 fa fd ["_law_script"] (spLaw K) := by
  have e := hfa.symm.trans (PySem.W.mg_of X G a36)
  cases e
  have m_len := PySem.W.mg_none_of X G z_len
  have m_all := PySem.W.mg_none_of X G z_all
  have m_enumerate := PySem.W.mg_none_of X G z_enumerate
  have m_tuple := PySem.W.mg_none_of X G z_tuple
  have m_list := PySem.W.mg_none_of X G z_list
  have m_range := PySem.W.mg_none_of X G z_range
  have m_abs := PySem.W.mg_none_of X G z_abs
  have m_int := PySem.W.mg_none_of X G z_int
  have m_isinstance := PySem.W.mg_none_of X G z_isinstance
  have m_bool := PySem.W.mg_none_of X G z_bool
  have m_str := PySem.W.mg_none_of X G z_str
  have m_iter := PySem.W.mg_none_of X G z_iter
  have m_set := PySem.W.mg_none_of X G z_set
  have F0 := fun_mk (st := s_wall) l0 c0 k0
  have b0 := F0.binds (ps := ["k"]) fun _ _ _ _ _ _ us hl => match us, hl with | [_], _ => rfl
  have g0 := PySem.W.mg_of X G a0
  have F1 := fun_mk (st := s_is_name) l1 c1 k1
  have b1 := F1.binds (ps := ["word"]) fun _ _ _ _ _ _ us hl => match us, hl with | [_], _ => rfl
  have g1 := PySem.W.mg_of X G a1
  have F2 := fun_mk (st := s_check_size) l2 c2 k2
  have b2 := F2.binds (ps := ["size", "low", "high"]) fun _ _ _ _ _ _ us hl => match us, hl with | [_, _, _], _ => rfl
  have g2 := PySem.W.mg_of X G a2
  have F3 := fun_mk (st := s_check_range) l3 c3 k3
  have b3 := F3.binds (ps := ["number", "low", "high"]) fun _ _ _ _ _ _ us hl => match us, hl with | [_, _, _], _ => rfl
  have g3 := PySem.W.mg_of X G a3
  have F4 : FunD K "check_names" "check_names" (defArgs s_check_names) (defBody s_check_names) (defScope s_check_names) [V.bl false] [] f4 _ := ⟨⟨oc4, od4, .ref DN, kV4, dc4, pm4, an4, cd4, ct4, sl4, rfl, l4, c4, .inr ⟨by simp, DN, _, [Value.bool false], nN, rfl, lDN, rfl, .cons rfl .nil⟩, .inl rfl⟩, k4⟩
  have g4 := PySem.W.mg_of X G a4
  have F5 := fun_mk (st := s_check_known) l5 c5 k5
  have b5 := F5.binds (ps := ["names", "known"]) fun _ _ _ _ _ _ us hl => match us, hl with | [_, _], _ => rfl
  have g5 := PySem.W.mg_of X G a5
  have F6 := fun_mk (st := s_check_picks) l6 c6 k6
  have b6 := F6.binds (ps := ["picks", "known"]) fun _ _ _ _ _ _ us hl => match us, hl with | [_, _], _ => rfl
  have g6 := PySem.W.mg_of X G a6
  have F7 := fun_mk (st := s_plus) l7 c7 k7
  have b7 := F7.binds (ps := ["price", "other"]) fun _ _ _ _ _ _ us hl => match us, hl with | [_, _], _ => rfl
  have g7 := PySem.W.mg_of X G a7
  have F8 := fun_mk (st := s_least) l8 c8 k8
  have b8 := F8.binds (ps := ["prices"]) fun _ _ _ _ _ _ us hl => match us, hl with | [_], _ => rfl
  have g8 := PySem.W.mg_of X G a8
  have F9 := fun_mk (st := s_check_entries) l9 c9 k9
  have b9 := F9.binds (ps := ["names", "entries"]) fun _ _ _ _ _ _ us hl => match us, hl with | [_, _], _ => rfl
  have g9 := PySem.W.mg_of X G a9
  have F10 := fun_mk (st := s_least_tolls) l10 c10 k10
  have b10 := F10.binds (ps := ["entries"]) fun _ _ _ _ _ _ us hl => match us, hl with | [_], _ => rfl
  have g10 := PySem.W.mg_of X G a10
  have F11 := fun_mk (st := s_check_links) l11 c11 k11
  have b11 := F11.binds (ps := ["names", "links"]) fun _ _ _ _ _ _ us hl => match us, hl with | [_, _], _ => rfl
  have g11 := PySem.W.mg_of X G a11
  have F12 := fun_mk (st := s_hand_tolls) l12 c12 k12
  have b12 := F12.binds (ps := ["links", "barred"]) fun _ _ _ _ _ _ us hl => match us, hl with | [_, _], _ => rfl
  have g12 := PySem.W.mg_of X G a12
  have F13 := fun_mk (st := s_shared_parts) l13 c13 k13
  have b13 := F13.binds (ps := ["rule"]) fun _ _ _ _ _ _ us hl => match us, hl with | [_], _ => rfl
  have g13 := PySem.W.mg_of X G a13
  have F14 := fun_mk (st := s_facts) l14 c14 k14
  have b14 := F14.binds (ps := ["rule"]) fun _ _ _ _ _ _ us hl => match us, hl with | [_], _ => rfl
  have g14 := PySem.W.mg_of X G a14
  have F15 := fun_mk (st := s_are_picks) l15 c15 k15
  have b15 := F15.binds (ps := ["picks", "known"]) fun _ _ _ _ _ _ us hl => match us, hl with | [_, _], _ => rfl
  have g15 := PySem.W.mg_of X G a15
  have F16 := fun_mk (st := s_are_bids) l16 c16 k16
  have b16 := F16.binds (ps := ["bids", "members"]) fun _ _ _ _ _ _ us hl => match us, hl with | [_, _], _ => rfl
  have g16 := PySem.W.mg_of X G a16
  have F17 := fun_mk (st := s_check_pages) l17 c17 k17
  have b17 := F17.binds (ps := ["members", "pages"]) fun _ _ _ _ _ _ us hl => match us, hl with | [_, _], _ => rfl
  have g17 := PySem.W.mg_of X G a17
  have F18 := fun_mk (st := s_check_ends) l18 c18 k18
  have b18 := F18.binds (ps := ["names", "starts", "home"]) fun _ _ _ _ _ _ us hl => match us, hl with | [_, _, _], _ => rfl
  have g18 := PySem.W.mg_of X G a18
  have F19 := fun_mk (st := s_sorted_bids) l19 c19 k19
  have b19 := F19.binds (ps := ["members", "bids"]) fun _ _ _ _ _ _ us hl => match us, hl with | [_, _], _ => rfl
  have g19 := PySem.W.mg_of X G a19
  have F20 := fun_mk (st := s_L_cell) l20 c20 k20
  have b20 := F20.binds (ps := ["_law_script", "_law_k"]) fun _ _ _ _ _ _ us hl => match us, hl with | [_, _], _ => rfl
  have g20 := PySem.W.mg_of X G a20
  have F21 := fun_mk (st := s_L_mixed) l21 c21 k21
  have b21 := F21.binds (ps := ["_law_cell_here", "_law_k"]) fun _ _ _ _ _ _ us hl => match us, hl with | [_, _], _ => rfl
  have g21 := PySem.W.mg_of X G a21
  have F22 := fun_mk (st := s_L_pool) l22 c22 k22
  have b22 := F22.binds (ps := ["_law_cell_here", "_law_number"]) fun _ _ _ _ _ _ us hl => match us, hl with | [_, _], _ => rfl
  have g22 := PySem.W.mg_of X G a22
  have F23 := fun_mk (st := s_L_part) l23 c23 k23
  have b23 := F23.binds (ps := ["_law_pool_here", "_law_spot", "_law_under", "_law_size"]) fun _ _ _ _ _ _ us hl => match us, hl with | [_, _, _, _], _ => rfl
  have g23 := PySem.W.mg_of X G a23
  have F24 := fun_mk (st := s_L_names) l24 c24 k24
  have b24 := F24.binds (ps := ["_law_pool_here", "_law_spot", "_law_number"]) fun _ _ _ _ _ _ us hl => match us, hl with | [_, _, _], _ => rfl
  have g24 := PySem.W.mg_of X G a24
  have F25 := fun_mk (st := s_L_links) l25 c25 k25
  have b25 := F25.binds (ps := ["_law_pool_here", "_law_spot", "_law_members", "_law_number"]) fun _ _ _ _ _ _ us hl => match us, hl with | [_, _, _, _], _ => rfl
  have g25 := PySem.W.mg_of X G a25
  have F26 := fun_mk (st := s_L_some) l26 c26 k26
  have b26 := F26.binds (ps := ["_law_pool_here", "_law_spot", "_law_names_here"]) fun _ _ _ _ _ _ us hl => match us, hl with | [_, _, _], _ => rfl
  have g26 := PySem.W.mg_of X G a26
  have F27 := fun_mk (st := s_L_pages) l27 c27 k27
  have b27 := F27.binds (ps := ["_law_pool_here", "_law_spot", "_law_members", "_law_names_here"]) fun _ _ _ _ _ _ us hl => match us, hl with | [_, _, _, _], _ => rfl
  have g27 := PySem.W.mg_of X G a27
  have F28 := fun_mk (st := s_L_integer) l28 c28 k28
  have b28 := F28.binds (ps := ["_law_got"]) fun _ _ _ _ _ _ us hl => match us, hl with | [_], _ => rfl
  have g28 := PySem.W.mg_of X G a28
  have F29 := fun_mk (st := s_L_same) l29 c29 k29
  have b29 := F29.binds (ps := ["_law_got", "_law_wanted"]) fun _ _ _ _ _ _ us hl => match us, hl with | [_, _], _ => rfl
  have g29 := PySem.W.mg_of X G a29
  have F30 := fun_mk (st := s_L_shuffled) l30 c30 k30
  have b30 := F30.binds (ps := ["_law_pool_here", "_law_spot", "_law_row"]) fun _ _ _ _ _ _ us hl => match us, hl with | [_, _, _], _ => rfl
  have g30 := PySem.W.mg_of X G a30
  have F31 := fun_mk (st := s_L_rows) l31 c31 k31
  have b31 := F31.binds (ps := ["_law_head", "_law_members", "_law_titles"]) fun _ _ _ _ _ _ us hl => match us, hl with | [_, _, _], _ => rfl
  have g31 := PySem.W.mg_of X G a31
  have F32 := fun_mk (st := s_L_turn_rule) l32 c32 k32
  have b32 := F32.binds (ps := ["_law_pool_here", "_law_name", "_law_members"]) fun _ _ _ _ _ _ us hl => match us, hl with | [_, _, _], _ => rfl
  have g32 := PySem.W.mg_of X G a32
  have F33 := fun_mk (st := s_L_free) l33 c33 k33
  have b33 := F33.binds (ps := ["_law_row", "_law_members", "_law_shut"]) fun _ _ _ _ _ _ us hl => match us, hl with | [_, _, _], _ => rfl
  have g33 := PySem.W.mg_of X G a33
  have F34 := fun_mk (st := s_L_tells) l34 c34 k34
  have b34 := F34.binds (ps := ["_law_rule", "_law_sheet", "_law_free_here"]) fun _ _ _ _ _ _ us hl => match us, hl with | [_, _, _], _ => rfl
  have g34 := PySem.W.mg_of X G a34
  have F35 := fun_mk (st := s_L_spoil) l35 c35 k35
  have b35 := F35.binds (ps := ["_law_rule", "_law_sheet", "_law_free_here"]) fun _ _ _ _ _ _ us hl => match us, hl with | [_, _, _], _ => rfl
  have g35 := PySem.W.mg_of X G a35
  have F36 := fun_mk (st := s_law) l36 c36 k36
  have b36 := F36.binds (ps := ["_law_script"]) fun _ _ _ _ _ _ us hl => match us, hl with | [_], _ => rfl
  have g36 := PySem.W.mg_of X G a36
  have gLET := PySem.W.mg_of X G aL
  refine ⟨PySem.W.fnOf "law" "law" (defArgs s_law) (defBody s_law) (defScope s_law) .none kV36 dc36 pm36 an36 cd36 ct36, fun s v => .of_eq rfl, fun base _ _ => ?_⟩
  have gML := PySem.W.mg_of X G aML
  have gMT := PySem.W.mg_of X G aMT
  have TL : TxtL K CL := ⟨⟨pgL, hdL, poL, saL⟩, nA0L, nA1L⟩
  have TT : TxtT K CT := ⟨⟨pgT, hdT, poT, saT⟩, nA0T, nA1T⟩
  have FP : FunD K "__init__" "Tolls.__init__" (defArgs s_Tolls_init) (defBody s_Tolls_init) (defScope s_Tolls_init) [V.ref EP] [] fP _ := ⟨⟨ocP, odP, .ref TP, kVP, dcP, pmP, anP, cdP, ctP, slP, rfl, lP, cP, .inr ⟨by simp, TP, _, [Value.ref EP], nTP, rfl, lTP, rfl, .cons rfl .nil⟩, .inl rfl⟩, kP⟩
  obtain ⟨dsP, vdP, bP⟩ := FP.binds1 (ps := ["self", "names", "entries"]) 3 1 (by simp) rfl fun _ _ _ _ _ _ _ us its h1 h2 => match us, h1, its, h2 with | [_, _, _], _, [_], _ => ⟨_, rfl, rfl⟩
  cases (show Vals [] dsP from vdP)
  have FI : FunD K "__init__" "Links.__init__" (defArgs s_Links_init) (defBody s_Links_init) (defScope s_Links_init) [V.ref EI] [] fI _ := ⟨⟨ocI, odI, .ref TI, kVI, dcI, pmI, anI, cdI, ctI, slI, rfl, lI, cI, .inr ⟨by simp, TI, _, [Value.ref EI], nD, rfl, lTI, rfl, .cons rfl .nil⟩, .inl rfl⟩, kI⟩
  obtain ⟨dsI, vdI, bI⟩ := FI.binds1 (ps := ["self", "names", "links"]) 3 1 (by simp) rfl fun _ _ _ _ _ _ _ us its h1 h2 => match us, h1, its, h2 with | [_, _, _], _, [_], _ => ⟨_, rfl, rfl⟩
  cases (show Vals [] dsI from vdI)
  have MkL : Mk K CL fI := ⟨mkL, aI, iI, kcL⟩
  have MkT : Mk K CT fP := ⟨mkT, aP, iP, kcT⟩
  have CR : ClX.CRead K CT (.type "type") := ⟨rdC, gaC⟩
  have SM : SMet K CT (.type "type") "same" pS fS := ⟨aS, _, rS⟩
  have FE := fun_mk (st := s_Tolls_entries) lE cE kE
  have bE := FE.binds (ps := ["self"]) fun _ _ _ _ _ _ us hl => match us, hl with | [_], _ => rfl
  have FM := fun_mk (st := s_Tolls_mul) lM cM kM
  have bM := FM.binds (ps := ["self", "other"]) fun _ _ _ _ _ _ us hl => match us, hl with | [_, _], _ => rfl
  have FO := fun_mk (st := s_Tolls_or) lO cO kO
  have bO := FO.binds (ps := ["self", "other"]) fun _ _ _ _ _ _ us hl => match us, hl with | [_, _], _ => rfl
  have FZ := fun_mk (st := s_Tolls_closed) lZ cZ kZ
  have bZ := FZ.binds (ps := ["self"]) fun _ _ _ _ _ _ us hl => match us, hl with | [_], _ => rfl
  have FS := fun_mk (st := s_Tolls_same) lS cS kS
  have bS := FS.binds (ps := ["names"]) fun _ _ _ _ _ _ us hl => match us, hl with | [_], _ => rfl
  have FY := fun_mk (st := s_Links_iter) lY cY kY
  have bY := FY.binds (ps := ["self"]) fun _ _ _ _ _ _ us hl => match us, hl with | [_], _ => rfl
  have FV := fun_mk (st := s_Links_tolls) lV cV kV
  have bV := FV.binds (ps := ["self"]) fun _ _ _ _ _ _ us hl => match us, hl with | [_], _ => rfl
  have FRi := fun_mk (st := s_Rule_init) lRi cRi kRi
  have bRi := FRi.binds (ps := ["self", "name", "members", "limit", "barred", "links", "deposit", "fee", "start"]) fun _ _ _ _ _ _ us hl => match us, hl with | [_, _, _, _, _, _, _, _, _], _ => rfl
  have FCa := fun_mk (st := s_Rule_candidates) lCa cCa kCa
  have bCa := FCa.binds (ps := ["self", "page"]) fun _ _ _ _ _ _ us hl => match us, hl with | [_, _], _ => rfl
  have FMo := fun_mk (st := s_TurnRule_moves) lMo cMo kMo
  have bMo := FMo.binds (ps := ["self", "page"]) fun _ _ _ _ _ _ us hl => match us, hl with | [_, _], _ => rfl
  have FLe := fun_mk (st := s_TurnRule_lets) lLe cLe kLe
  have bLe := FLe.binds (ps := ["self", "page", "move"]) fun _ _ _ _ _ _ us hl => match us, hl with | [_, _, _], _ => rfl
  have FPg := fun_mk (st := s_Page_init) lPg cPg kPg
  have bPg := FPg.binds (ps := ["self", "name", "bids", "followers", "home"]) fun _ _ _ _ _ _ us hl => match us, hl with | [_, _, _, _, _], _ => rfl
  have FBp := fun_mk (st := s_Book_page) lBp cBp kBp
  have bBp := FBp.binds (ps := ["self", "name"]) fun _ _ _ _ _ _ us hl => match us, hl with | [_, _], _ => rfl
  have FBi := fun_mk (st := s_Book_iter) lBi cBi kBi
  have bBi := FBi.binds (ps := ["self"]) fun _ _ _ _ _ _ us hl => match us, hl with | [_], _ => rfl
  have kbCa := fun_kb (ps := ["self", "page"]) FCa 1 ["page"] fun _ _ _ _ _ _ us ws h1 h2 => match us, h1, ws, h2 with | [_], _, [_], _ => rfl
  have kbMo := fun_kb (ps := ["self", "page"]) FMo 1 ["page"] fun _ _ _ _ _ _ us ws h1 h2 => match us, h1, ws, h2 with | [_], _, [_], _ => rfl
  have kbLe := fun_kb (ps := ["self", "page", "move"]) FLe 1 ["page", "move"] fun _ _ _ _ _ _ us ws h1 h2 => match us, h1, ws, h2 with | [_], _, [_, _], _ => rfl
  have FBk : FunD K "__init__" "Book.__init__" (defArgs s_Book_init) (defBody s_Book_init) (defScope s_Book_init) [] [("home", V.ref EH)] fBk _ := ⟨⟨ocBk, odBk, .none, .ref DH, dcBk, pmBk, anBk, cdBk, ctBk, slBk, rfl, lBk, cBk, .inl ⟨rfl, rfl⟩, .inr ⟨DH, rfl, fun q hq => by
    rw [List.mem_singleton.mp hq]
    exact ⟨_, nHm, rfl⟩⟩⟩, kBk⟩
  obtain ⟨mvB, kbB⟩ := FBk.kbinds0 (ps := ["self", "members", "pages", "starts", "home"]) 4 ["home"] [] (fun us _ ws => us ++ ws) (by simp) (fun q hq => nomatch hq) (fun a _ b => a.append b) fun D doc pm an cdv ct us mv ws h1 h2 h3 => match us, h1, mv, h2, ws, h3 with | [_, _, _, _], _, [], _, [_], _ => rfl
  have Om : Own K CT "__mul__" fM := ⟨aM, iM⟩
  have Oo : Own K CT "__or__" fO := ⟨aO, iO⟩
  have Oy : Own K CL "__iter__" fY := ⟨aY, iY⟩
  have Obi : Own K CB "__iter__" fBi := ⟨aBi, iBi⟩
  have Me : Meth K CT "entries" fE := ⟨aE, iE, kE⟩
  have Mz : Meth K CT "closed" fZ := ⟨aZ, iZ, kZ⟩
  have Mev : Meth K CL "tolls" fV := ⟨aV, iV, kV⟩
  have MeCa : Meth K C1 "candidates" fCa := ⟨aCa, iCa, kCa⟩
  have MeMo : Meth K C1 "moves" fMo := ⟨aMo, iMo, kMo⟩
  have MeLe : Meth K C1 "lets" fLe := ⟨aLe, iLe, kLe⟩
  have MePg : Meth K CB "page" fBp := ⟨aBp, iBp, kBp⟩
  have MkP : Mk K CP fPg := ⟨mkP, aPg, iPg, kcP⟩
  have MkB : Mk K CB fBk := ⟨mkB, aBk, iBk, kcB⟩
  have hqA : ∀ q ∈ msT, ∃ u, PySem.W.nsIn K DA q.1 = some (some u) ∧ RelV q.2 u := fun q hq => by
    rcases List.mem_cons.mp hq with rfl | hq
    · exact ⟨_, nA0, ⟨_, rfl⟩⟩
    rcases List.mem_cons.mp hq with rfl | hq
    · exact ⟨_, nA1, ⟨_, rfl⟩⟩
    rw [List.mem_singleton.mp hq]
    exact ⟨_, nA2, ⟨_, rfl⟩⟩

  have m_super := PySem.W.mg_none_of X G z_super
  have TR1 : TxtRu K C1 := ⟨⟨pg1, hd1, po1, sa1⟩, nA01, nA11, nA21, nA31, nA41, nA51, nA61, nA71, nA81⟩
  have TB : TxtBk K CB := ⟨⟨pgB, hdB, poB, saB⟩, nA0B, nA1B, nA2B, nA3B, nA4B, nA5B⟩
  have TP_ : TxtPg K CP := ⟨⟨pgP, hdP, poP, saP⟩, nA0P, nA1P, nA2P, nA3P, nA4P⟩
  have SO1 : SupO K C1 C1 fRi := ⟨hstS, isA, hmA, al1, tyRi, fiRi⟩
  have Mk1 : Mk K C1 fA := ⟨mk1, aA, iA, kc1⟩

  have d_is_name : Def l.prog w K mg base "is_name" 1 ["word"] spIsNameH := ⟨_, _, ok_is_nameH F1 m_len m_all gLET, g1, k1, b1⟩
  have d_check_size : Def l.prog w K mg base "check_size" 1 ["size", "low", "high"] (spRange) := ⟨_, _, ok_check_size F2 , g2, k2, b2⟩
  have d_check_range : Def l.prog w K mg base "check_range" 1 ["number", "low", "high"] (spRange) := ⟨_, _, ok_check_range F3 , g3, k3, b3⟩
  obtain ⟨dsN, vdN, bdN⟩ := F4.binds1 (ps := ["names", "most", "hook"]) 3 1 (by simp) rfl fun _ _ _ _ _ _ _ us its h1 h2 => match us, h1, its, h2 with | [_, _, _], _, [_], _ => ⟨_, rfl, rfl⟩
  have d_check_namesH : DefD l.prog w K mg base "check_names" 2 ["names", "most", "hook"] (spCheckH K) [] := ⟨_, _, dsN, ok_check_namesH F4 m_len m_enumerate d_check_size d_is_name, g4, k4, bdN, vdN⟩
  obtain ⟨dsN2, vdN2, bdN2⟩ := F4.binds1 (ps := ["names", "most", "hook"]) 2 0 (by simp) rfl fun _ _ _ _ _ _ _ us its h1 h2 => match us, h1, its, h2 with | [_, _], _, [_], _ => ⟨_, rfl, rfl⟩
  have d_check_names : DefD l.prog w K mg base "check_names" 2 ["names", "most", "hook"] (spCheckN K) [.bl false] := ⟨_, _, dsN2, ok_check_namesN F4 m_len m_enumerate d_check_size d_is_name, g4, k4, bdN2, vdN2⟩
  have d_check_known : Def l.prog w K mg base "check_known" 1 ["names", "known"] (spKnown K) := ⟨_, _, ok_check_known F5 , g5, k5, b5⟩
  have d_check_picks : Def l.prog w K mg base "check_picks" 1 ["picks", "known"] (spPicksL K) := ⟨_, _, ok_check_picksL F6 m_enumerate, g6, k6, b6⟩


  have d_check_entries : Def l.prog w K mg base "_check_entries" 2 ["names", "entries"] (spCheckE K) := ⟨_, _, ok_check_entries F9 d_check_known, g9, k9, b9⟩
  have d_least_tolls : Def l.prog w K mg base "_least_tolls" 1 ["entries"] (spLeastT K) := ⟨_, _, ok_least_tolls F10 , g10, k10, b10⟩
  have d_check_links : Def l.prog w K mg base "_check_links" 2 ["names", "links"] (spCheckL K) := ⟨_, _, ok_check_links F11 m_len gML gMT d_check_size d_check_range d_check_known, g11, k11, b11⟩
  have G_entries := ok_Tolls_entries (P := l.prog) (w := w) (mg := mg) (base := base) FE TT
  have G_Tolls := ok_Tolls (P := l.prog) (w := w) (mg := mg) (base := base) FP TT m_tuple d_check_namesH d_check_entries d_least_tolls
  have G_Links := ok_Links (P := l.prog) (w := w) (mg := mg) (base := base) FI TL m_tuple d_check_names d_check_links
  have I_Links := ok_Links_iter (P := l.prog) (w := w) (mg := mg) (base := base) FY bY TL m_iter
  have G_tolls := ok_Links_tolls (P := l.prog) (w := w) (mg := mg) (base := base) FV TL MkT G_Tolls (PySem.W.mg_of X G aTo) bP
  have G_same := ok_Tolls_same (P := l.prog) (w := w) (mg := mg) (base := base) FS MkT G_Tolls (PySem.W.mg_of X G aTo) bP
  have G_or := ok_Tolls_or (P := l.prog) (w := w) (mg := mg) (base := base) FO TT MkT G_Tolls (PySem.W.mg_of X G aTo) bP Me G_entries bE
  have G_mul := ok_Tolls_mul (P := l.prog) (w := w) (mg := mg) (base := base) FM TT MkT G_Tolls (PySem.W.mg_of X G aTo) bP Me G_entries bE
  have G_closed := ok_Tolls_closed (P := l.prog) (w := w) (mg := mg) (base := base) FZ TT m_range (PySem.W.mg_of X G aTo) CR SM kS G_same bS sf Om G_mul bM Oo G_or bO
  have d_hand_tolls : Def l.prog w K mg base "_hand_tolls" 7 ["links", "barred"] (spHandT K CL CT) := ⟨_, _, ok_hand_tolls F12 TL TT Oy I_Links MkL G_Links (PySem.W.mg_of X G aLi) bI Mev G_tolls bV Mz G_closed bZ, g12, k12, b12⟩
  have G_Ri1 := ok_Rule_init (P := l.prog) (w := w) (mg := mg) (base := base) FRi TR1 m_tuple d_is_name d_check_names d_check_range d_check_picks MkL G_Links (PySem.W.mg_of X G aLi) bI d_hand_tolls
  have G_Turn := ok_TurnRule_init (P := l.prog) (w := w) (mg := mg) (base := base) lA cA hcA hvA hfA hlA htopS m_super SO1 (fn_R G_Ri1 bRi)
  obtain ⟨_, kbT⟩ := turn_kb (cc := ccA) (cda := cdaA) (doc := docA) (pm := pmA) (an := anA) (ct := ctA) hqA
  have G_cand := ok_Rule_candidates (CL := CL) (CT := CT) (P := l.prog) (w := w) (mg := mg) (base := base) FCa TR1 TP_ m_tuple
  have G_moves := ok_TurnRule_moves (P := l.prog) (w := w) (mg := mg) (base := base) FMo TR1 MeCa G_cand bCa
  have G_lets := ok_TurnRule_lets (P := l.prog) (w := w) (mg := mg) (base := base) FLe


  have d_are_picks : Def l.prog w K mg base "_are_picks" 1 ["picks", "known"] (spArePicks K) := ⟨_, _, ok_are_picks F15 m_all m_len m_set, g15, k15, b15⟩
  have d_are_bids : Def l.prog w K mg base "_are_bids" 2 ["bids", "members"] (spAreBids K) := ⟨_, _, ok_are_bids F16 m_all d_are_picks, g16, k16, b16⟩
  have d_check_pages : Def l.prog w K mg base "_check_pages" 3 ["members", "pages"] (spCheckPg K) := ⟨_, _, ok_check_pages F17 m_len m_enumerate d_is_name d_are_picks d_are_bids, g17, k17, b17⟩
  have d_check_ends : Def l.prog w K mg base "_check_ends" 2 ["names", "starts", "home"] (spEnds K) := ⟨_, _, ok_check_ends F18 m_len d_are_picks, g18, k18, b18⟩
  have d_sorted_bids : Def l.prog w K mg base "_sorted_bids" 1 ["members", "bids"] (spSortB K) := ⟨_, _, ok_sorted_bids F19 m_tuple, g19, k19, b19⟩
  have G_Page := ok_Page (P := l.prog) (w := w) (mg := mg) (base := base) FPg TP_ m_tuple
  have G_Book := ok_Book (P := l.prog) (w := w) (mg := mg) (base := base) FBk TB m_tuple d_check_names d_check_pages d_check_ends d_sorted_bids MkP G_Page (PySem.W.mg_of X G aPag) bPg
  have G_page := ok_Book_page (CP := CP) (P := l.prog) (w := w) (mg := mg) (base := base) FBp TB
  have I_Book := ok_Book_iter (P := l.prog) (w := w) (mg := mg) (base := base) FBi bBi TB m_iter
  have d_L_cell : Def l.prog w K mg base "_law_cell" 1 ["_law_script", "_law_k"] (spCellA K) := ⟨_, _, ok_L_cell F20 m_len m_range m_abs, g20, k20, b20⟩
  have d_L_mixed : Def l.prog w K mg base "_law_mixed" 1 ["_law_cell_here", "_law_k"] (spMixed) := ⟨_, _, ok_L_mixed F21 m_abs, g21, k21, b21⟩
  have d_L_pool : Def l.prog w K mg base "_law_pool" 2 ["_law_cell_here", "_law_number"] (spPool) := ⟨_, _, ok_L_pool F22 m_range m_abs d_L_mixed, g22, k22, b22⟩
  have d_L_part : Def l.prog w K mg base "_law_part" 1 ["_law_pool_here", "_law_spot", "_law_under", "_law_size"] (spPart K) := ⟨_, _, ok_L_part F23 m_int, g23, k23, b23⟩
  have d_L_names : Def l.prog w K mg base "_law_names" 2 ["_law_pool_here", "_law_spot", "_law_number"] (spNames K) := ⟨_, _, ok_L_names F24 m_range m_int d_L_part, g24, k24, b24⟩
  have d_L_links : Def l.prog w K mg base "_law_links" 2 ["_law_pool_here", "_law_spot", "_law_members", "_law_number"] (spLinks K) := ⟨_, _, ok_L_links F25 m_len m_range d_L_part, g25, k25, b25⟩
  have d_L_some : Def l.prog w K mg base "_law_some" 2 ["_law_pool_here", "_law_spot", "_law_names_here"] (spSome K) := ⟨_, _, ok_L_some F26 m_len m_range d_L_part, g26, k26, b26⟩
  have d_L_pages : Def l.prog w K mg base "_law_pages" 3 ["_law_pool_here", "_law_spot", "_law_members", "_law_names_here"] (spPagesL K) := ⟨_, _, ok_L_pages F27 m_len m_range d_L_part d_L_some, g27, k27, b27⟩
  have d_L_integer : Def l.prog w K mg base "_law_integer" 1 ["_law_got"] (spInteger) := ⟨_, _, ok_L_integer F28 m_isinstance m_int m_bool, g28, k28, b28⟩
  have d_L_same3 : Def l.prog w K mg base "_law_same" 5 ["_law_got", "_law_wanted"] (spSame 3) := ⟨_, _, ok_L_same F29 g29 b29 ⟨m_isinstance, m_int, m_bool, m_str, m_tuple, m_list, m_len, m_range⟩ d_L_integer 3 (by decide), g29, k29, b29⟩
  have d_L_shuffledV : Def l.prog w K mg base "_law_shuffled" 2 ["_law_pool_here", "_law_spot", "_law_row"] (spShufG vN K) := ⟨_, _, ok_L_shuffledG vN F30 m_len m_range m_list d_L_part, g30, k30, b30⟩
  have d_L_shuffledR : Def l.prog w K mg base "_law_shuffled" 2 ["_law_pool_here", "_law_spot", "_law_row"] (spShufG V.ref K) := ⟨_, _, ok_L_shuffledG V.ref F30 m_len m_range m_list d_L_part, g30, k30, b30⟩
  have d_L_rows : Def l.prog w K mg base "_law_rows" 4 ["_law_head", "_law_members", "_law_titles"] (spRowsL K) := ⟨_, _, ok_L_rows F31 m_len d_L_part d_L_pages d_L_shuffledR, g31, k31, b31⟩
  have d_L_turn_rule : Def l.prog w K mg base "_law_turn_rule" 11 ["_law_pool_here", "_law_name", "_law_members"] (spTurnL K C1 CL CT) := ⟨_, _, ok_L_turn_rule F32 m_list d_L_part d_L_some d_L_shuffledV d_L_links Mk1 G_Turn (PySem.W.mg_of X G aTu) kbT, g32, k32, b32⟩
  have d_L_free : Def l.prog w K mg base "_law_free" 1 ["_law_row", "_law_members", "_law_shut"] (spFreeL K) := ⟨_, _, ok_L_free F33 , g33, k33, b33⟩
  have d_L_tells : Def l.prog w K mg base "_law_tells" 6 ["_law_rule", "_law_sheet", "_law_free_here"] (spTellsL K C1 CL CT CP) := ⟨_, _, ok_L_tells F34 TR1 m_tuple d_L_same3 MeCa G_cand kbCa MeMo G_moves kbMo MeLe G_lets bLe kbLe, g34, k34, b34⟩
  have d_L_spoil : Def l.prog w K mg base "_law_spoil" 3 ["_law_rule", "_law_sheet", "_law_free_here"] (spSpoilL K C1 CL CT CP) := ⟨_, _, ok_L_spoil F35 TR1 MeMo G_moves bMo MeLe G_lets bLe, g35, k35, b35⟩
  exact ok_law F36 m_range m_list m_len MkB G_Book (PySem.W.mg_of X G aBo) kbB TB MePg G_page bBp Obi I_Book d_L_cell d_L_pool d_L_part d_L_names d_L_rows d_L_turn_rule d_L_free d_L_tells d_L_spoil
end TK

open PySem PySem.W PyProof.Rows
set_option maxRecDepth 100000 in
set_option maxHeartbeats 0 in
theorem PySem.Challenge.cw_turnsandkeys_k45_turn_lets_holds : PySem.Challenge.rw_turnsandkeys_k45_turn_lets.Holds := by
  w_on; o_law; k_head; (case hw => w_witness2)
  k_fill
  refine L2.walk_of (l := PySem.Challenge.rw_turnsandkeys_k45_turn_lets) (n := 63) (k := 12) (x := "_law_script") (CX := fun _ => L2.CX0) (sp := fun w => TK.spLaw _) rfl (by decide) rfl ⟨rfl, by decide, by decide⟩ (fun w h Y => PySem.W.kIn_of Y) ?F (fun _ _ a ns hl _ hS => ⟨a, ns, rfl, hS, hl, fun _ => rfl⟩) (fun _ _ _ _ _ h => h)
  case F =>
    intro w mg fa h KX G hmg
    refine' TK.all_mk KX G hmg ?a0 ?l0 ?c0 ?k0 ?a1 ?l1 ?c1 ?k1 ?a2 ?l2 ?c2 ?k2 ?a3 ?l3 ?c3 ?k3 ?a4 ?l4 ?c4 ?k4 ?a5 ?l5 ?c5 ?k5 ?a6 ?l6 ?c6 ?k6 ?a7 ?l7 ?c7 ?k7 ?a8 ?l8 ?c8 ?k8 ?a9 ?l9 ?c9 ?k9 ?a10 ?l10 ?c10 ?k10 ?a11 ?l11 ?c11 ?k11 ?a12 ?l12 ?c12 ?k12 ?a13 ?l13 ?c13 ?k13 ?a14 ?l14 ?c14 ?k14 ?a15 ?l15 ?c15 ?k15 ?a16 ?l16 ?c16 ?k16 ?a17 ?l17 ?c17 ?k17 ?a18 ?l18 ?c18 ?k18 ?a19 ?l19 ?c19 ?k19 ?a20 ?l20 ?c20 ?k20 ?a21 ?l21 ?c21 ?k21 ?a22 ?l22 ?c22 ?k22 ?a23 ?l23 ?c23 ?k23 ?a24 ?l24 ?c24 ?k24 ?a25 ?l25 ?c25 ?k25 ?a26 ?l26 ?c26 ?k26 ?a27 ?l27 ?c27 ?k27 ?a28 ?l28 ?c28 ?k28 ?a29 ?l29 ?c29 ?k29 ?a30 ?l30 ?c30 ?k30 ?a31 ?l31 ?c31 ?k31 ?a32 ?l32 ?c32 ?k32 ?a33 ?l33 ?c33 ?k33 ?a34 ?l34 ?c34 ?k34 ?a35 ?l35 ?c35 ?k35 ?a36 ?l36 ?c36 ?k36 ?aL ?z_len ?z_all ?z_enumerate ?z_tuple ?z_list ?z_range ?z_abs ?z_int ?z_isinstance ?z_bool ?z_str ?z_iter ?z_set ?aML ?aMT ?aLi ?aTo ?aTu ?aBo ?aPag ?aP ?iP ?lP ?cP ?kP ?aE ?iE ?lE ?cE ?kE ?aM ?iM ?lM ?cM ?kM ?aO ?iO ?lO ?cO ?kO ?aZ ?iZ ?lZ ?cZ ?kZ ?aS ?rS ?iS ?lS ?cS ?kS ?aI ?iI ?lI ?cI ?kI ?aY ?iY ?lY ?cY ?kY ?aV ?iV ?lV ?cV ?kV ?al1 ?tyRi ?fiRi ?iRi ?lRi ?cRi ?kRi ?aCa ?iCa ?lCa ?cCa ?kCa ?aMo ?iMo ?lMo ?cMo ?kMo ?aLe ?iLe ?lLe ?cLe ?kLe ?aPg ?iPg ?lPg ?cPg ?kPg ?aBk ?iBk ?lBk ?cBk ?kBk ?aBp ?iBp ?lBp ?cBp ?kBp ?aBi ?iBi ?lBi ?cBi ?kBi ?aA ?iA ?lA ?cA ?hcA ?hvA ?hfA ?hlA ?hmA ?isA ?nA0 ?nA1 ?nA2 ?pgL ?hdL ?poL ?saL ?mkL ?kcL ?nA0L ?nA1L ?pgT ?hdT ?poT ?saT ?mkT ?kcT ?nA0T ?nA1T ?pg1 ?hd1 ?po1 ?sa1 ?mk1 ?kc1 ?nA01 ?nA11 ?nA21 ?nA31 ?nA41 ?nA51 ?nA61 ?nA71 ?nA81 ?pgB ?hdB ?poB ?saB ?mkB ?kcB ?nA0B ?nA1B ?nA2B ?nA3B ?nA4B ?nA5B ?pgP ?hdP ?poP ?saP ?mkP ?kcP ?nA0P ?nA1P ?nA2P ?nA3P ?nA4P ?lTP ?lTI ?lEI ?lDN ?nHm ?sf ?rdC ?gaC ?htopS ?z_super ?hstS
    (case a0 => k_is); (case l0 => k_is); (case c0 => k_is); (case k0 => k_is); (case a1 => k_is); (case l1 => k_is); (case c1 => k_is); (case k1 => k_is); (case a2 => k_is); (case l2 => k_is); (case c2 => k_is); (case k2 => k_is); (case a3 => k_is); (case l3 => k_is); (case c3 => k_is); (case k3 => k_is); (case a4 => k_is); (case l4 => k_is); (case c4 => k_is); (case k4 => k_is); (case a5 => k_is); (case l5 => k_is); (case c5 => k_is); (case k5 => k_is); (case a6 => k_is); (case l6 => k_is); (case c6 => k_is); (case k6 => k_is); (case a7 => k_is); (case l7 => k_is); (case c7 => k_is); (case k7 => k_is); (case a8 => k_is); (case l8 => k_is); (case c8 => k_is); (case k8 => k_is); (case a9 => k_is); (case l9 => k_is); (case c9 => k_is); (case k9 => k_is); (case a10 => k_is); (case l10 => k_is); (case c10 => k_is); (case k10 => k_is); (case a11 => k_is); (case l11 => k_is); (case c11 => k_is); (case k11 => k_is); (case a12 => k_is); (case l12 => k_is); (case c12 => k_is); (case k12 => k_is); (case a13 => k_is); (case l13 => k_is); (case c13 => k_is); (case k13 => k_is); (case a14 => k_is); (case l14 => k_is); (case c14 => k_is); (case k14 => k_is); (case a15 => k_is); (case l15 => k_is); (case c15 => k_is); (case k15 => k_is); (case a16 => k_is); (case l16 => k_is); (case c16 => k_is); (case k16 => k_is); (case a17 => k_is); (case l17 => k_is); (case c17 => k_is); (case k17 => k_is); (case a18 => k_is); (case l18 => k_is); (case c18 => k_is); (case k18 => k_is); (case a19 => k_is); (case l19 => k_is); (case c19 => k_is); (case k19 => k_is); (case a20 => k_is); (case l20 => k_is); (case c20 => k_is); (case k20 => k_is); (case a21 => k_is); (case l21 => k_is); (case c21 => k_is); (case k21 => k_is); (case a22 => k_is); (case l22 => k_is); (case c22 => k_is); (case k22 => k_is); (case a23 => k_is); (case l23 => k_is); (case c23 => k_is); (case k23 => k_is); (case a24 => k_is); (case l24 => k_is); (case c24 => k_is); (case k24 => k_is); (case a25 => k_is); (case l25 => k_is); (case c25 => k_is); (case k25 => k_is); (case a26 => k_is); (case l26 => k_is); (case c26 => k_is); (case k26 => k_is); (case a27 => k_is); (case l27 => k_is); (case c27 => k_is); (case k27 => k_is); (case a28 => k_is); (case l28 => k_is); (case c28 => k_is); (case k28 => k_is); (case a29 => k_is); (case l29 => k_is); (case c29 => k_is); (case k29 => k_is); (case a30 => k_is); (case l30 => k_is); (case c30 => k_is); (case k30 => k_is); (case a31 => k_is); (case l31 => k_is); (case c31 => k_is); (case k31 => k_is); (case a32 => k_is); (case l32 => k_is); (case c32 => k_is); (case k32 => k_is); (case a33 => k_is); (case l33 => k_is); (case c33 => k_is); (case k33 => k_is); (case a34 => k_is); (case l34 => k_is); (case c34 => k_is); (case k34 => k_is); (case a35 => k_is); (case l35 => k_is); (case c35 => k_is); (case k35 => k_is); (case a36 => k_is); (case l36 => k_is); (case c36 => k_is); (case k36 => k_is); (case aL => k_is); (case z_len => k_is); (case z_all => k_is); (case z_enumerate => k_is); (case z_tuple => k_is); (case z_list => k_is); (case z_range => k_is); (case z_abs => k_is); (case z_int => k_is); (case z_isinstance => k_is); (case z_bool => k_is); (case z_str => k_is); (case z_iter => k_is); (case z_set => k_is); (case aML => k_is); (case aMT => k_is); (case aLi => k_is); (case aTo => k_is); (case aTu => k_is); (case aBo => k_is); (case aPag => k_is); (case aP => k_is); (case iP => k_is); (case lP => k_is); (case cP => k_is); (case kP => k_is); (case aE => k_is); (case iE => k_is); (case lE => k_is); (case cE => k_is); (case kE => k_is); (case aM => k_is); (case iM => k_is); (case lM => k_is); (case cM => k_is); (case kM => k_is); (case aO => k_is); (case iO => k_is); (case lO => k_is); (case cO => k_is); (case kO => k_is); (case aZ => k_is); (case iZ => k_is); (case lZ => k_is); (case cZ => k_is); (case kZ => k_is); (case aS => k_is); (case rS => k_is); (case iS => k_is); (case lS => k_is); (case cS => k_is); (case kS => k_is); (case aI => k_is); (case iI => k_is); (case lI => k_is); (case cI => k_is); (case kI => k_is); (case aY => k_is); (case iY => k_is); (case lY => k_is); (case cY => k_is); (case kY => k_is); (case aV => k_is); (case iV => k_is); (case lV => k_is); (case cV => k_is); (case kV => k_is); (case al1 => first | k_is | rfl | kernel_rfl); (case tyRi => k_is); (case fiRi => k_is); (case iRi => k_is); (case lRi => k_is); (case cRi => k_is); (case kRi => k_is); (case aCa => k_is); (case iCa => k_is); (case lCa => k_is); (case cCa => k_is); (case kCa => k_is); (case aMo => k_is); (case iMo => k_is); (case lMo => k_is); (case cMo => k_is); (case kMo => k_is); (case aLe => k_is); (case iLe => k_is); (case lLe => k_is); (case cLe => k_is); (case kLe => k_is); (case aPg => k_is); (case iPg => k_is); (case lPg => k_is); (case cPg => k_is); (case kPg => k_is); (case aBk => k_is); (case iBk => k_is); (case lBk => k_is); (case cBk => k_is); (case kBk => k_is); (case aBp => k_is); (case iBp => k_is); (case lBp => k_is); (case cBp => k_is); (case kBp => k_is); (case aBi => k_is); (case iBi => k_is); (case lBi => k_is); (case cBi => k_is); (case kBi => k_is); (case aA => k_is); (case iA => k_is); (case lA => k_is); (case cA => k_is); (case hcA => k_is); (case hvA => first | rfl | k_is); (case hfA => first | rfl | decide +kernel); (case hlA => k_is); (case hmA => k_is); (case isA => k_is); (case nA0 => k_is); (case nA1 => k_is); (case nA2 => k_is); (case pgL => k_is); (case hdL => k_is); (case poL => k_is); (case saL => k_is); (case mkL => k_is); (case kcL => k_is); (case nA0L => k_is); (case nA1L => k_is); (case pgT => k_is); (case hdT => k_is); (case poT => k_is); (case saT => k_is); (case mkT => k_is); (case kcT => k_is); (case nA0T => k_is); (case nA1T => k_is); (case pg1 => k_is); (case hd1 => k_is); (case po1 => k_is); (case sa1 => k_is); (case mk1 => k_is); (case kc1 => k_is); (case nA01 => k_is); (case nA11 => k_is); (case nA21 => k_is); (case nA31 => k_is); (case nA41 => k_is); (case nA51 => k_is); (case nA61 => k_is); (case nA71 => k_is); (case nA81 => k_is); (case pgB => k_is); (case hdB => k_is); (case poB => k_is); (case saB => k_is); (case mkB => k_is); (case kcB => k_is); (case nA0B => k_is); (case nA1B => k_is); (case nA2B => k_is); (case nA3B => k_is); (case nA4B => k_is); (case nA5B => k_is); (case pgP => k_is); (case hdP => k_is); (case poP => k_is); (case saP => k_is); (case mkP => k_is); (case kcP => k_is); (case nA0P => k_is); (case nA1P => k_is); (case nA2P => k_is); (case nA3P => k_is); (case nA4P => k_is); (case lTP => k_is); (case lTI => k_is); (case lEI => k_is); (case lDN => k_is); (case nHm => k_is); (case sf => k_is); (case rdC => k_is); (case gaC => k_is); (case htopS => first | rfl | decide +kernel); (case z_super => k_is); (case hstS => k_is)
